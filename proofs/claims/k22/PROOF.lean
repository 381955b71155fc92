import PyProof.Rows.All
import Wide.All
import Wide.FinOn
import OpenK.KLine
import KE.KPairTest
import KE.KDictSum
import KE.KDictOf
import KE.KRevSl
import KE.KDictList
import KE.KIsAll
import KE.KPairComp
import KE.KItem
import PyProof.EqAt
import PyProof.EqKinds
import PyProof.TupleCall
import PySem.Challenge.RW_strongboxes_k22_a_get_beside_puts
set_option Elab.async false
set_option linter.all false
set_option genInjectivity false
set_option maxRecDepth 100000
set_option maxHeartbeats 4000000
set_option autoImplicit true
set_option relaxedAutoImplicit true
section
open PySem PySem.W PyProof.Rows
abbrev AAA:=@wpAny_bind
abbrev AAB:=@wpAny_pure
abbrev AAC:=@Heap.get?_push_of_some
abbrev AAD:=@Heap.get?_push_size
abbrev AAE:=@Nat.le_of_ble_eq_true
abbrev AAF:=@Nat.le_refl
abbrev AAG:=@List.length_map
abbrev AAH:=@List.length_append
abbrev AAI:=@List.length_cons
abbrev AAJ:=@List.mem_cons
abbrev AAK:=@List.mem_append
abbrev AAL:=@List.mem_singleton
abbrev AAM:=@List.mem_map
abbrev AAN:=@Nat.lt_of_lt_of_le
abbrev AAO:=@decide_eq_false
abbrev AAP:=@decide_eq_true
abbrev AAQ:=@List.mem_cons_self
abbrev AAR:=@List.mem_cons_of_mem
abbrev AAS:=@List.getElem?_append_right
abbrev AAT:=@List.getElem?_append_left
abbrev AAU:=@List.getElem?_eq_some_iff
abbrev AAV:=@List.mem_of_getElem?
abbrev AAW:=@List.getElem?_map
abbrev AAX:=@List.map_cons
abbrev AAY:=@List.map_append
abbrev AAZ:=@Int.emod_nonneg
abbrev AAa:=@Int.emod_lt_of_pos
abbrev AAb:=@List.append_nil
abbrev AAc:=@List.mem_append_right
abbrev AAd:=@List.mem_append_left
abbrev AAe:=@wpAny_call_entry
abbrev AAf:=@Nat.ne_of_lt
abbrev AAg:=@beq_eq_false_iff_ne
abbrev AAh:=@List.set_append_right
abbrev AAi:=@Bool.false_ne_true
abbrev AAj:=@Nat.lt_succ_of_lt
abbrev AAk:=@wpAny_setState_of
abbrev AAl:=@wpAny_mono
abbrev AAm:=@Nat.zero_le
abbrev AAn:=@List.replicate_succ
abbrev AAo:=@List.append_assoc
abbrev AAp:=@List.length_replicate
abbrev AAq:=@List.getElem?_set_ne
abbrev AAr:=@wpAny_holding
abbrev AAs:=@wpAny_setField_rec
abbrev AAt:=@wpAny_newObj_type
abbrev AAu:=@Nat.lt_of_le_of_lt
abbrev AAv:=@Nat.le_trans
abbrev AAw:=@List.getElem?_eq_getElem
abbrev AAx:=@List.filterMap_cons_some
abbrev AAy:=@wpAny_of_eq
abbrev AAz:=@wpAny_field
abbrev AA0:=@wpAny_seqItems
abbrev AA1:=@wpAny_attempt
abbrev AA2:=@wpAny_isInstance
abbrev AA3:=@Nat.sub_self
abbrev AA4:=@Nat.lt_irrefl
abbrev AA5:=@List.pairwise_cons
end
def PySem.W.Fast.tw2607276193572477810:Nat:=0
def PySem.W.Fast.tw12928708881479842830:Nat:=0
def PySem.W.Fast.tw17627197580314776933:Nat:=0
def PySem.W.Fast.tw17947963944986937843:Nat:=0
def PySem.W.Fast.tw3405510765185106184:Nat:=0
def PySem.W.Fast.tw4107762238909411343:Nat:=0
def PySem.W.Fast.tw9620630466736549:Nat:=0
def PySem.W.Fast.tw15113797518500841186:Nat:=0
def PySem.W.Fast.tw13422204313355644815:Nat:=0
def PySem.W.Fast.tw1572067797978090236:Nat:=0
def PySem.W.Fast.tw13601661463082001327:Nat:=0
def PySem.W.Fast.tw17340129727946456011:Nat:=0
def PySem.W.Fast.tw12674725418777487:Nat:=0
def PySem.W.Fast.tw3932478171495501492:Nat:=0
def PySem.W.Fast.tw1633861582731821070:Nat:=0
def PySem.W.Fast.tw2869733749646849263:Nat:=0
def PySem.W.Fast.tw5491214939025614927:Nat:=0
def PySem.W.Fast.tw5419525161848552670:Nat:=0
def PySem.W.Fast.tw8320316625507448262:Nat:=0
def PySem.W.Fast.tw14474152651151331748:Nat:=0
def PySem.W.Fast.tw7093741771962856679:Nat:=0
def PySem.W.Fast.tw8200791177556610816:Nat:=0
def PySem.W.Fast.tw8038695710336515289:Nat:=0
def PySem.W.Fast.tw4800263201460452768:Nat:=0
def PySem.W.Fast.tw16906213953999685393:Nat:=0
def PySem.W.Fast.tw3887943952664042609:Nat:=0
def PySem.W.Fast.tw13000022327322369275:Nat:=0
def PySem.W.Fast.tw4069817371051374204:Nat:=0
def PySem.W.Fast.tw6112491648489115811:Nat:=0
def PySem.W.Fast.tw9913508618327959602:Nat:=0
def PySem.W.Fast.tw6472492416488293111:Nat:=0
def PySem.W.Fast.tw2472846070142209523:Nat:=0
def PySem.W.Fast.tw11984834422848505069:Nat:=0
def PySem.W.Fast.tw14987675113811191223:Nat:=0
def PySem.W.Fast.tw10681746916158651299:Nat:=0
def PySem.W.Fast.tw11585181116887225236:Nat:=0
def PySem.W.Fast.tw10409190696198888381:Nat:=0
def PySem.W.Fast.tw5656851965655066795:Nat:=0
def PySem.W.Fast.tw12351510214447917531:Nat:=0
def PySem.W.Fast.tw2680898284274457828:Nat:=0
def PySem.W.Fast.tw7892114699582261250:Nat:=0
def PySem.W.Fast.tw7965408805361703353:Nat:=0
def PySem.W.Fast.tw6729518438142212074:Nat:=0
def PySem.W.Fast.tw7682582242895840472:Nat:=0
def PySem.W.Fast.tw748702040941642587:Nat:=0
def PySem.W.Fast.tw11983992954181640771:Nat:=0
def PySem.W.Fast.tw3306094046117118700:Nat:=0
def PySem.W.Fast.tw7267472296470134677:Nat:=0
def PySem.W.Fast.tw7959953771217726867:Nat:=0
def PySem.W.Fast.tw1559147667217970063:Nat:=0
def PySem.W.Fast.tw4045501210517871873:Nat:=0
def PySem.W.Fast.tw14354136609809501997:Nat:=0
def PySem.W.Fast.tw9602102786642759120:Nat:=0
def PySem.W.Fast.tw8616115120174883887:Nat:=0
def PySem.W.Fast.tw7149589982916129253:Nat:=0
def PySem.W.Fast.tw11444551688635615622:Nat:=0
def PySem.W.Fast.tw4058707086273071867:Nat:=0
def PySem.W.Fast.tw391880125223191811:Nat:=0
def PySem.W.Fast.tw1286133881445434237:Nat:=0
def PySem.W.Fast.tw11399329174048644785:Nat:=0
def PySem.W.Fast.tw14544821060156834146:Nat:=0
def PySem.W.Fast.tw10877832042326529552:Nat:=0
def PySem.W.Fast.tw6772817607177548163:Nat:=0
def PySem.W.Fast.tw11953189275899024416:Nat:=0
def PySem.W.Fast.tw17274675425953962336:Nat:=0
def PySem.W.Fast.tw12353859767102964976:Nat:=0
def PySem.W.Fast.tw4651649954165094256:Nat:=0
def PySem.W.Fast.tw17983682585077842256:Nat:=0
def PySem.W.Fast.tw6234755795725830871:Nat:=0
def PySem.W.Fast.tw1203955716284470036:Nat:=0
def PySem.W.Fast.tw16856688491754939372:Nat:=0
def PySem.W.Fast.tw3476241231271952472:Nat:=0
def PySem.W.Fast.tw13554377737781949584:Nat:=0
def PySem.W.Fast.tw12182562247372968083:Nat:=0
def PySem.W.Fast.tw14491238180100125114:Nat:=0
def PySem.W.Fast.tw11383084610958608781:Nat:=0
def PySem.W.Fast.tw5727295858810845790:Nat:=0
def PySem.W.Fast.tw3372153225045531518:Nat:=0
def PySem.W.Fast.tw5144676238786658063:Nat:=0
def PySem.W.Fast.tw1184955153954339435:Nat:=0
def PySem.W.Fast.tw14531106423862003749:Nat:=0
def PySem.W.Fast.tw17867951958977746363:Nat:=0
def PySem.W.Fast.tw15239082851867776127:Nat:=0
def PySem.W.Fast.tw17493006898564342229:Nat:=0
def PySem.W.Fast.tw17104632186496175207:Nat:=0
def PySem.W.Fast.tw15498586753125382462:Nat:=0
def PySem.W.Fast.tw7088804559168957342:Nat:=0
def PySem.W.Fast.tw5626616498170697296:Nat:=0
def PySem.W.Fast.tw2545104731985276289:Nat:=0
def PySem.W.Fast.tw5282916716057110561:Nat:=0
def PySem.W.Fast.tw12899872425115162778:Nat:=0
def PySem.W.Fast.tw2285081753848659880:Nat:=0
def PySem.W.Fast.tw2722880815725440867:Nat:=0
def PySem.W.Fast.tw4125313826090241553:Nat:=0
def PySem.W.Fast.tw14586554888548301912:Nat:=0
def PySem.W.Fast.tw13258809511107403018:Nat:=0
def PySem.W.Fast.tw6205493711783737594:Nat:=0
def PySem.W.Fast.tw6442206629705901907:Nat:=0
def PySem.W.Fast.tw5215740008800930186:Nat:=0
def PySem.W.Fast.tw4314796960814507277:Nat:=0
def PySem.W.Fast.tw4166244491590410438:Nat:=0
def PySem.W.Fast.tw5268800478613901521:Nat:=0
def PySem.W.Fast.tw2347223778390734906:Nat:=0
def PySem.W.Fast.tw13595290347377647666:Nat:=0
def PySem.W.Fast.tw5411558280298818287:Nat:=0
def PySem.W.Fast.tw14354478472235268605:Nat:=0
def PySem.W.Fast.tw3246070765559029634:Nat:=0
def PySem.W.Fast.tw5889242336837944100:Nat:=0
def PySem.W.Fast.tw2397313165167186979:Nat:=0
def PySem.W.Fast.tw8248927715889996200:Nat:=0
def PySem.W.Fast.tw6815339890911636890:Nat:=0
def PySem.W.Fast.tw6936667225806493243:Nat:=0
def PySem.W.Fast.tw697694551708921754:Nat:=0
def PySem.W.Fast.tw1421055016073006031:Nat:=0
def PySem.W.Fast.tw4846185522114499394:Nat:=0
def PySem.W.Fast.tw1693691050263464235:Nat:=0
def PySem.W.Fast.tw4652359476904989338:Nat:=0
def PySem.W.Fast.tw13416342059779355102:Nat:=0
def PySem.W.Fast.tw6000344792199446646:Nat:=0
def PySem.W.Fast.tw4117793818425258543:Nat:=0
namespace L2
open PySem PySem.Spec PyProof.Rows
abbrev Key:=Sum Int Str
def K1:Key->Value->Bool
 | .inl k,v=>Value.isInt k v
 | .inr x,v=>Value.isStrOf x v
def dN(w:World):Key->Int
 | .inl k=>hashInt k
 | .inr x=>hashStr w x
theorem BZ:∀{k:Key} {v:Value},K1 k v=true->(∃i t,k=Sum.inl i/\v=Value.int i t)∨(∃x t,k=Sum.inr x/\v=Value.str x t)
 | .inl i,v,h=>by
  obtain⟨t,e⟩:=Value.isInt_shape (k:=i) (v:=v) h;exact .inl ⟨i,t,rfl,e⟩
 | .inr x,v,h=>by
  obtain⟨t,e⟩:=Value.isStrOf_shape (x:=x) (v:=v) h;exact .inr ⟨x,t,rfl,e⟩
theorem Rv(i:Int)(t:Tok):K1 (.inl i) (.int i t)=true:=by simp[K1,Value.isInt]
theorem Ru(x:Str)(t:Tok):K1 (.inr x) (.str x t)=true:=by simp[K1,Value.isStrOf]
theorem aN(a b:Int):decide ((Sum.inl a:Key)=Sum.inl b)=(a==b):=by
 by_cases e:a=b
 ·subst e;simp
 ·have h:¬(Sum.inl a:Key)=Sum.inl b:=λq=>e (Sum.inl.inj q);rw[AAO h];exact(AAg.mpr e).symm
theorem aK(a b:Str):decide ((Sum.inr a:Key)=Sum.inr b)=decide (a=b):=by
 by_cases e:a=b
 ·subst e;simp
 ·have h:¬(Sum.inr a:Key)=Sum.inr b:=λq=>e (Sum.inr.inj q);rw[AAO h,AAO e]
theorem aM(a:Int)(b:Str):decide ((Sum.inl a:Key)=Sum.inr b)=false:=AAO (λq=>nomatch q)
theorem aL(a:Str)(b:Int):decide ((Sum.inr a:Key)=Sum.inl b)=false:=AAO (λq=>nomatch q)
def BJ(prog:Program)(w:World):PySem.KeyKind prog w Key where
 is:=K1
 hash:=dN w
 inj:=λv a b ha hb=>by
  rcases BZ ha with ⟨i,t,rfl,rfl⟩|⟨x,t,rfl,rfl⟩
  ·rcases BZ hb with ⟨j,u,rfl,e⟩|⟨y,u,rfl,e⟩
   ·injection e with e1 _;rw[e1]
   ·exact nomatch e
  ·rcases BZ hb with ⟨j,u,rfl,e⟩|⟨y,u,rfl,e⟩
   ·exact nomatch e
   ·injection e with e1 _;rw[e1]
 byValue:=λk v h=>by
  rcases BZ h with ⟨i,t,rfl,rfl⟩|⟨x,t,rfl,rfl⟩<;>rfl
 pyHash:=λhv h=>by
  rcases BZ hv with ⟨i,t,rfl,rfl⟩|⟨x,t,rfl,rfl⟩
  ·exact wpAny_pyHash_int h
  ·exact wpAny_pyHash_str h
 eqBool:=λhu hv h=>by
  rcases BZ hu with ⟨i,t,rfl,rfl⟩|⟨x,t,rfl,rfl⟩
  ·rcases BZ hv with ⟨j,u,rfl,rfl⟩|⟨y,u,rfl,rfl⟩
   ·rw[aN] at h;exact wpAny_eqBool_int h
   ·rw[aM] at h;exact SeqAt.EqAt.int_str i t y u _ _ _ _ h
  ·rcases BZ hv with ⟨j,u,rfl,rfl⟩|⟨y,u,rfl,rfl⟩
   ·rw[aL] at h;exact SeqAt.EqAt.str_int x t j u _ _ _ _ h
   ·rw[aK] at h;exact wpAny_eqBool_str h
 «strs»:=λk x t v h=>by
  rcases BZ h with ⟨i,u,rfl,e⟩|⟨y,u,rfl,e⟩
  ·exact nomatch e
  ·injection e with e1 _
   subst e1;cases v<;>rfl
theorem NS(prog:Program)(w:World)(i:Int)(t:Tok):(BJ prog w).is (.inl i) (.int i t)=true:=Rv i t
theorem NR(prog:Program)(w:World)(x:Str)(t:Tok):(BJ prog w).is (.inr x) (.str x t)=true:=Ru x t
inductive V where
 |non|bl (b:Bool)|int (i:Int)|str (x:Str)|byt (b:Array UInt8)|flt (b:UInt64)|ref (a:Addr)|ty (n:String)
 deriving DecidableEq
def RelV:V->Value->Prop
 | .non,u=>u=Value.none
 | .bl b,u=>u=Value.bool b
 | .int i,u=>∃t,u=Value.int i t
 | .str x,u=>∃t,u=Value.str x t
 | .byt b,u=>∃t,u=Value.bytes b t
 | .flt b,u=>∃t,u=Value.float b t
 | .ref a,u=>u=Value.ref a
 | .ty n,u=>u=Value.type n
abbrev Vals:List V->List Value->Prop:=Paired RelV
theorem Vals.length(r:Vals xs us):xs.length=us.length:=Paired.length r
theorem Vals.get:∀{xs:List V} {us:List Value} {i:Nat} {x:V},Vals xs us->xs[i]?=some x->∃u,us[i]?=some u/\RelV x u
 |_,_,_,_,.nil,e=>by simp at e
 |_,_,0,_,.cons r _,e=>by simp at e;subst e;exact⟨_,rfl,r⟩
 |_,_,i+1,x,.cons _ t,e=>by
  obtain⟨u,h1,h2⟩:=Vals.get (i:=i) (x:=x) t (by simpa using e);exact⟨u,by simpa using h1,h2⟩
theorem Vals.set(r:RelV x u):∀{xs:List V} {us:List Value} (i:Nat),Vals xs us->Vals (xs.set i x) (us.set i u)
 |_,_,_,.nil=>.nil
 |_,_,0,.cons _ t=>.cons r t
 |_,_,i+1,.cons q t=>.cons q (Vals.set r i t)
theorem Vals.append:∀{xs ys:List V} {us ws:List Value},Vals xs us->Vals ys ws->Vals (xs++ys) (us++ws)
 |_,_,_,_,.nil,s=>s
 |_,_,_,_,.cons r t,s=>.cons r (Vals.append t s)
theorem Vals.take:∀{xs:List V} {us:List Value} (n:Nat),Vals xs us->Vals (xs.take n) (us.take n)
 |_,_,0,_=>.nil
 |_,_,_+1,.nil=>.nil
 |_,_,n+1,.cons r t=>.cons r (Vals.take n t)
theorem Vals.drop:∀{xs:List V} {us:List Value} (n:Nat),Vals xs us->Vals (xs.drop n) (us.drop n)
 |_,_,0,r=>r
 |_,_,_+1,.nil=>.nil
 |_,_,n+1,.cons _ t=>Vals.drop n t
def RelO:Option V->Option Value->Prop
 |some v,some u=>RelV v u
 |none,none=>True
 |_,_=>False
def KV{κ:Type}:List (κ×V)->List (κ×Value)->Prop:=Paired λ(p:κ×V) (q:κ×Value)=>p.1=q.1/\RelV p.2 q.2
def kV:Key->V
 | .inl i=>.int i
 | .inr x=>.str x
inductive HO where
 |lst (xs:List V)
 |tup (xs:List V)
 |dK (kvs:List (Key×V))|dT (kvs:List (List Key×V))
 |set (S:Int->Bool) (n:Nat)
 |ins (C dx:Addr) (fs:List (Str×V))
 |own (x:Addr)
 |xd (fs:List (Str×V))
 |met (f x:Addr)
 |rng (lo hi:Int)
 |frz (o:Obj) (u:HO)
 |tbl (ps:Array Value)
 |ext (φ:Heap->Prop)
abbrev Hp:=Addr->Option HO
def upd(H:Hp)(a:Addr)(o:HO):Hp:=λb=>if b=a then some o else H b
theorem BK:upd H a o a=some o:=by unfold upd;rw[if_pos rfl]
theorem A9(h:b≠a):upd H a o b=H b:=by unfold upd;rw[if_neg h]
theorem bz{H:Hp}(h:H a=some o)(h':H b=some u)(d:o≠u):a≠b:=by
 intro e;subst e;rw[h] at h';exact d (Option.some.inj h')
theorem CM{H:Hp}(h:H a=some o)(h':H b=none):a≠b:=by
 intro e;subst e;rw[h] at h';cases h'
section
variable(P:Program)(w:World)
def ObjOk(H:Hp)(h:Heap)(a:Addr):HO->Prop
 | .lst xs=>xs.length<=sizeLine/\∃(its:List Value) (n:Nat),Vals xs its/\h.get? a=some { cls:=.type "list",data:=.seq its.toArray n }
 | .tup xs=>xs.length<=sizeLine/\∃its:List Value,Vals xs its/\IsTup h a its.toArray
 | .dK kvs=>kvs.length<=sizeLine/\(a==sysModules)=false/\∃vs,KV kvs vs/\h.DictOf (BJ P w) a vs
 | .dT kvs=>kvs.length<=sizeLine/\(a==sysModules)=false/\∃xs:List (List Key×Addr×Value),
   Paired (λ(p:List Key×V) (q:List Key×Addr×Value)=>p.1=q.1/\H q.2.1=some (.tup (p.1.map kV))/\RelV p.2 q.2.2) kvs xs /\
   ∃o es ep,h.get? a=some o/\o.ExactDict/\o.data=.dict es ep/\es.toList=xs.map (entryOfKey (tupleKind (BJ P w)))/\(xs.map (·.1)).Nodup
 | .set S n=>h.SetOf (intKind P w) a S n
 | .ins C dx fs=>H dx=some (.own a)/\fs.length<=1000/\dx≠a/\h.get? a=some (PySem.W.instObj C dx) /\
   ∃mA,h.Ns1 dx mA/\(∀f,RelO (fs.lookup f) (mA f))/\PySem.Within mA (fs.map (·.1))
 | .own _=>∃o,h.get? a=some o
 | .xd fs=>∃mA,h.Ns1 a mA/\∀f,RelO (fs.lookup f) (mA f)
 | .rng lo hi=>∃t u v,h.get? a=some { cls:=.type "range",data:=.fields #[.int lo t,.int hi u,.int 1 v] }
 | .frz o u=>h.get? a=some o/\ObjOk H h a u
 | .tbl ps=>h.get? a=some { cls:=.none,data:=.fields ps }
 | .met f x=>h.get? a=some (PySem.W.methodObj (.ref f) (.ref x))
 | .ext φ=>φ h/\(∃o,h.get? a=some o)/\∀h1 h2:Heap,φ h1->(∀o,h1.get? a=some o->h2.get? a=some o)->φ h2
def HOk(H:Hp)(h:Heap):Prop:=∀a o,H a=some o->ObjOk P w H h a o
end
section
variable{P:Program}{w:World}{H H':Hp}{h h':Heap}{a:Addr}{o:HO}
theorem ObjOk.lt(x:ObjOk P w H h a o):a<h.objs.size:=by
 cases o with
 |lst xs=>obtain⟨_,_,_,_,e⟩:=x;exact Heap.lt_size e
 |tup xs=>obtain⟨_,_,_,p⟩:=x;exact p.lt
 |dK kvs=>obtain⟨_,_,_,_,o,_,_,e,_⟩:=x;exact Heap.lt_size e
 |dT kvs=>obtain⟨_,_,_,_,o,_,_,e,_⟩:=x;exact Heap.lt_size e
 |set S n=>obtain⟨o,_,_,_,e,_⟩:=x;exact Heap.lt_size e
 |ins C dx fs=>obtain⟨_,_,_,e,_⟩:=x;exact Heap.lt_size e
 |own y=>obtain⟨_,e⟩:=x;exact Heap.lt_size e
 |xd fs=>obtain⟨_,⟨_,_,_,e,_⟩,_⟩:=x;exact Heap.lt_size e
 |rng lo hi=>obtain⟨_,_,_,e⟩:=x;exact Heap.lt_size e
 |frz ob u=>obtain⟨e,_⟩:=x;exact Heap.lt_size e
 |tbl ps=>exact Heap.lt_size (show h.get? a=some _ from x)
 |met f y=>exact Heap.lt_size (show h.get? a=some _ from x)
 |ext φ=>obtain⟨_,⟨_,e⟩,_⟩:=x;exact Heap.lt_size e
theorem Paired.mapP:∀{l₁:List α} {l₂:List β},Paired F l₁ l₂->(∀a b,F a b->G a b)->Paired G l₁ l₂
 |_,_,.nil,_=>.nil
 |_,_,.cons r t,f=>.cons (f _ _ r) (Paired.mapP t f)
theorem ObjOk.stay(x:ObjOk P w H h a o)(k:∀b u,(b=a∨H b=some (.own a))->h.get? b=some u->h'.get? b=some u)
  (ho:∀b,H b=some (.own a)->H' b=some (.own a)) (ht:∀b xs,H b=some (.tup xs)->H' b=some (.tup xs)):ObjOk P w H' h' a o:=by
 induction o with
 |lst xs=>obtain⟨z,its,n,r,e⟩:=x;exact⟨z,its,n,r,k _ _ (.inl rfl) e⟩
 |tup xs=>obtain⟨z,its,r,ob,e,c⟩:=x;exact⟨z,its,r,ob,k _ _ (.inl rfl) e,c⟩
 |dK kvs=>obtain⟨z,y,vs,r,ob,es,ep,e,c⟩:=x;exact⟨z,y,vs,r,ob,es,ep,k _ _ (.inl rfl) e,c⟩
 |dT kvs=>
  obtain⟨z,y,xs,r,ob,es,ep,e,c⟩:=x;exact⟨z,y,xs,Paired.mapP r λp q z=>⟨z.1,ht _ _ z.2.1,z.2.2⟩,ob,es,ep,k _ _ (.inl rfl) e,c⟩
 |set S n=>obtain⟨ob,es,ep,t,e,c⟩:=x;exact⟨ob,es,ep,t,k _ _ (.inl rfl) e,c⟩
 |ins C dx fs=>
  obtain⟨d,z,ne,e,mA,⟨od,es,ep,e2,c⟩,r⟩:=x;exact⟨ho _ d,z,ne,k _ _ (.inl rfl) e,mA,⟨od,es,ep,k _ _ (.inr d) e2,c⟩,r⟩
 |own y=>obtain⟨ob,e⟩:=x;exact⟨ob,k _ _ (.inl rfl) e⟩
 |xd fs=>obtain⟨mA,⟨od,es,ep,e,c⟩,r⟩:=x;exact⟨mA,⟨od,es,ep,k _ _ (.inl rfl) e,c⟩,r⟩
 |rng lo hi=>obtain⟨t,u,v,e⟩:=x;exact⟨t,u,v,k _ _ (.inl rfl) e⟩
 |frz ob u ih=>obtain⟨e,q⟩:=x;exact⟨k _ _ (.inl rfl) e,ih q⟩
 |tbl ps=>
  have e:h.get? a=some { cls:=.none,data:=.fields ps }:=x;show h'.get? a=some { cls:=.none,data:=.fields ps };exact k a _ (.inl rfl) e
 |met f y=>
  have e:h.get? a=some (PySem.W.methodObj (.ref f) (.ref y)):=x;show h'.get? a=some (PySem.W.methodObj (.ref f) (.ref y));exact k a _ (.inl rfl) e
 |ext φ=>obtain⟨p,⟨o,e⟩,st⟩:=x;exact⟨st _ _ p λo q=>k _ _ (.inl rfl) q,⟨o,k _ _ (.inl rfl) e⟩,st⟩
theorem HOk.lt(x:HOk P w H h)(e:H a=some o):a<h.objs.size:=(x a o e).lt
theorem HOk.fresh(x:HOk P w H h)(e:h.objs.size<=a):H a=none:=by
 cases q:H a with
 |none=>rfl
 |some u=>exact absurd (AAN (x.lt q) e) (AA4 _)
theorem HOk.kept(x:HOk P w H h)(k:∀b u,h.get? b=some u->h'.get? b=some u):HOk P w H h':=λa o e=>
 (x a o e).stay (λb u _ q=>k b u q) (λ_ q=>q) λ_ _ q=>q
theorem HOk.laid(x:HOk P w H h)(k:∀b u,h.get? b=some u->h'.get? b=some u)(hp:h.objs.size<=a)(new:ObjOk P w (upd H a o) h' a o):HOk P w (upd H a o) h':=λb u e=>by
 have hn:=x.fresh hp;by_cases hb:b=a
 ·subst hb;rw[BK] at e;cases e;exact new
 ·rw[A9 hb] at e;exact(x b u e).stay (λc v _ q=>k c v q) (λc q=>by rw[A9 (CM q hn)];exact q) λc xs q=>by rw[A9 (CM q hn)];exact q
end
def Rd(H:Hp)(a:Addr)(u:HO):Prop:=H a=some u∨∃o,H a=some (.frz o u)
theorem Rd.ok(r:Rd H a u)(x:HOk P w H h):ObjOk P w H h a u:=by
 rcases r with r|⟨o,r⟩
 ·exact x a u r
 ·obtain⟨_,q⟩:=x a _ r;exact q
noncomputable def Mut:Option HO->Prop
 |some (.lst _)=>True
 |some (.dK _)=>True
 |some (.dT _)=>True
 |some (.set _ _)=>True
 |some (.ins _ _ _)=>True
 |some (.ext _)=>True
 |_=>False
section
variable{P:Program}{w:World}{H:Hp}{h h':Heap}{x e:Addr}{o':HO}
theorem HOk.write(ok:HOk P w H h)(mu:Mut (H x))(he:e=x∨H e=some (.own x))(k:∀b u,b≠e->h.get? b=some u->h'.get? b=some u)(heo:∃u,h'.get? e=some u)
  (new:ObjOk P w (upd H x o') h' x o'):HOk P w (upd H x o') h':=λb u q=>by
 have nown:∀c y,H c=some (.own y)->c≠x:=λc y r z=>by subst z;rw[r] at mu;exact mu
 have ntup:∀c xs,H c=some (.tup xs)->c≠x:=λc xs r z=>by subst z;rw[r] at mu;exact mu
 by_cases hb:b=x
 ·subst hb;rw[BK] at q;cases q;exact new
 ·rw[A9 hb] at q;by_cases hbe:b=e
  ·have q':H b=some (.own x):=by
    rcases he with z|z
    ·exact absurd (hbe.trans z) hb
    ·rw[hbe];exact z
   rw[q] at q';cases q';obtain⟨v,hv⟩:=heo;exact⟨v,by rw[hbe];exact hv⟩
  ·refine(ok b u q).stay (λc v hc r=>k c v ?_ r) (λc r=>by rw[A9 (nown c b r)];exact r) λc xs r=>by rw[A9 (ntup c xs r)];exact r
   rcases hc with rfl|hc
   ·exact hbe
   ·rintro rfl;rcases he with z|z
    ·exact nown c b hc z
    ·rw[hc] at z;cases z;exact hb rfl
end
structure Un(fs ex:List Addr)(H H':Hp)(h h':Heap):Prop where
 keep:∀b o,h.get? b=some o->H b=none->b∉fs->b∉ex->h'.get? b=some o
 slot:∀b o,h.get? b=some o->H b=none->b∈fs->b∉ex->∃sl,h'.get? b=some { o with slots:=sl }
 free:∀b o,h.get? b=some o->H b=none->b∉ex->H' b=none
 there:∀b o,h.get? b=some o->b∉ex->∃o',h'.get? b=some o'
 tups:∀b xs,H b=some (.tup xs)->H' b=some (.tup xs)
 frzs:∀b o u,H b=some (.frz o u)->H' b=some (.frz o u)
 tbls:∀b ps,H b=some (.tbl ps)->∃more,H' b=some (.tbl (ps++more))
section
variable{fs ex:List Addr}{H H1:Hp}{h h1 h':Heap}{a x e:Addr}{o:HO}
theorem Un.any(u:Un fs ex H H1 h h1)(q:h.get? b=some ob)(n:H b=none)(hx:b∉ex):∃sl,h1.get? b=some { ob with slots:=sl }:=by
 by_cases hb:b∈fs
 ·exact u.slot b ob q n hb hx
 ·exact⟨ob.slots,u.keep b ob q n hb hx⟩
theorem Un.kept(k:∀b u,h.get? b=some u->h'.get? b=some u):Un fs ex H H h h':=
 ⟨λb ob q _ _ _=>k b ob q,λb ob q _ _ _=>⟨ob.slots,k b ob q⟩,λ_ _ _ n _=>n,λb ob q _=>⟨ob,k b ob q⟩,λ_ _ q=>q,λ_ _ _ q=>q,λ_ ps q=>⟨#[],by rw[q];simp⟩⟩
theorem Un.refl:Un fs ex H H h h:=Un.kept λ_ _ q=>q
theorem Un.laid(k:∀b u,h.get? b=some u->h'.get? b=some u)(hp:h.objs.size<=a)(hn:H a=none):Un fs ex H (upd H a o) h h' where
 keep:=λb u q _ _ _=>k b u q
 slot:=λb u q _ _ _=>⟨u.slots,k b u q⟩
 free:=λb u q n _=>by rw[A9 (AAf (AAN (Heap.lt_size q) hp))];exact n
 there:=λb u q _=>⟨u,k b u q⟩
 tups:=λb xs q=>by rw[A9 (CM q hn)];exact q
 frzs:=λb u xs q=>by rw[A9 (CM q hn)];exact q
 tbls:=λb ps q=>⟨#[],by rw[A9 (CM q hn),q];simp⟩
theorem Un.write(mu:Mut (H x))(he:e=x∨H e=some (.own x))(k:∀b u,b≠e->h.get? b=some u->h'.get? b=some u)(heo:∃u,h'.get? e=some u):Un fs ex H (upd H x o) h h':=by
 have hx:∀b,H b=none->b≠x:=λb n z=>by subst z;rw[n] at mu;exact mu
 have hb:∀b,H b=none->b≠e:=λb n z=>by
  subst z;rcases he with r|r
  ·exact hx b n r
  ·rw[n] at r;cases r
 have hm:∀b u,H b=some u->¬Mut (some u)->b≠x:=λb u q nm z=>by subst z;rw[q] at mu;exact nm mu
 refine⟨λb u q n _ _=>k b u (hb b n) q,λb u q n _ _=>⟨u.slots,k b u (hb b n) q⟩,λb u q n _=>by rw[A9 (hx b n)];exact n,λb u q _=>?_,
  λb xs q=>by rw[A9 (hm b _ q λz=>z)];exact q,λb u xs q=>by rw[A9 (hm b _ q λz=>z)];exact q,λb ps q=>⟨#[],by rw[A9 (hm b _ q λz=>z),q];simp⟩⟩
 by_cases hbe:b=e
 ·subst hbe;exact heo
 ·exact⟨u,k b u hbe q⟩
end
noncomputable def trk(h:Heap)(H:Hp):List Addr:=(List.range h.objs.size).filter λa=>(H a).isSome
noncomputable def L7(h:Heap)(H:Hp):Heap:=PySem.W.hideAll h (trk h H)
theorem R6(h:Heap)(H:Hp):(L7 h H).objs.size=h.objs.size:=PySem.W.hideAll_size _ _
theorem VE(e:h.get? b=some o)(n:H b=none):(L7 h H).get? b=some o:=
 PySem.W.hideAll_get _ e λhm=>by
  have q:(H b).isSome=true:=(List.mem_filter.mp hm).2;rw[n] at q;simp at q
theorem Xi(e:(L7 h H).get? b=some o):h.get? b=some o/\H b=none:=by
 have e':h.get? b=some o:=PySem.W.of_hideAll (trk h H) e;refine⟨e',?_⟩;cases q:H b with
 |none=>rfl
 |some x=>
  have hm:b∈trk h H:=List.mem_filter.mpr ⟨List.mem_range.mpr (Heap.lt_size e'),by simp[q]⟩;have z:(L7 h H).get? b=none:=PySem.W.hideAll_none (trk h H) hm;rw[z] at e;cases e
structure Mod(K:PySem.W.Frag)(mg:Str->Option Value)(base:Heap):Prop where
 kin:K.In base
 glob:base.Ns mainGlobals mg
 blt:∃mb,base.Ns builtinsNs mb/\∀x:Str,x ≠ "__name__" -> mb x=bootBuiltins x
 nolimit:base.NoLimit
structure Cx where
 prog:Program
 w:World
 K:PySem.W.Frag
 mg:Str->Option Value
 base:Heap
 A:Around
 N:List Str
 s₀:Shared
 H₀:Hp
 env:Env
 outer:List Env
 stack:List Env
 ex:List Addr
 fn:Str->Bool
 calm:Bool
 pn:List (Addr×Obj)
 xe:Value->Shared->Prop
def frs(l:List Env):List Addr:=l.filterMap (·.frame)
abbrev Cx.fs(X:Cx):List Addr:=frs X.outer
def Vis(sc:Scope)(x:Str):Prop:=sc.names.lookup x=some .local∨sc.names.lookup x=some .cell∨sc.names.lookup x=some .free
def Loc(sc:Scope)(x:Str):Prop:=sc.names.lookup x=some .local∨sc.names.lookup x=some .cell
def dY(env:Env)(h:Heap)(m:Str->Option Value)(x:Str)(u:Value):Prop:=
 (env.kindOf x=some .local/\m x=some u)∨((env.kindOf x=some .cell∨env.kindOf x=some .free)/\∃c,env.cells.lookup x=some c/\h.IsCell c (some u))
structure Cx.Ok(X:Cx):Prop where
 mod:Mod X.K X.mg X.base
 kind:X.env.scope.kind=.function
 glob:X.env.globals=mainGlobals
 blt:X.env.builtins=builtinsNs
 above:X.s₀.heap.objs.size<=X.env.locals
 inj:∀x y c,X.env.cells.lookup x=some c->X.env.cells.lookup y=some c->x=y
 has:∀x,(X.env.kindOf x=some .cell∨X.env.kindOf x=some .free)->∃c,X.env.cells.lookup x=some c
 cab:∀x c,X.fn x=true->X.env.cells.lookup x=some c->X.s₀.heap.objs.size<=c
 hd:X.calm=true->X.A.handled=none
 frames:X.A.frames=some X.stack
 stk:X.stack=X.outer∨(X.stack=X.env::X.outer/\X.env.frame=some X.env.locals)
 exf:∀b∈X.ex,b≠X.env.locals/\∀x c,X.env.cells.lookup x=some c->c≠b
 bs:∀b o,X.base.get? b=some o->X.s₀.heap.get? b=some o/\X.H₀ b=none
 bsz:X.base.objs.size<=X.s₀.heap.objs.size
 noex:∀b o,X.base.get? b=some o->b∉X.ex
 exfs:∀b∈X.ex,b∉X.fs
 funs:X.s₀.heap.FunFrames X.base X.outer
 frf:∀b∈X.fs,X.H₀ b=none
structure Inv(X:Cx)(pins:List (Addr×Obj))(σ:List (Option V))(H:Hp)(s:Shared):Prop where
 ok:X.Ok
 os:s.os=X.s₀.os
 bare:AllBare s.gens
 base:Un X.fs X.ex X.H₀ H X.s₀.heap s.heap
 loc:∃m,s.heap.Ns X.env.locals m/\∀(i:Nat) (x:Str) (v:V),X.N[i]?=some x->σ[i]?=some (some v)->Vis X.env.scope x->∃u,RelV v u/\dY X.env s.heap m x u
 cell:∀x c,X.env.cells.lookup x=some c->∃v,s.heap.IsCell c v
 free:H X.env.locals=none
 freeC:∀x c,X.env.cells.lookup x=some c->H c=none
 pin:∀p∈X.pn++pins,s.heap.get? p.1=some p.2/\H p.1=none/\p.1≠X.env.locals/\p.1∉X.fs/\∀v,p.2.data≠.cell v
 hok:HOk X.prog X.w H s.heap
 len:σ.length=X.N.length
section
variable{X:Cx}{pins:List (Addr×Obj)}{σ:List (Option V)}{H H':Hp}{s:Shared}{h':Heap}
theorem Cx.Ok.nofr(ok:X.Ok)(e:X.base.get? b=some o):b∉X.fs:=λhb=>by
 have:=(ok.funs.mem hb).1;rw[e] at this;cases this
theorem Inv.bs(I:Inv X pins σ H s):∀b o,X.base.get? b=some o->s.heap.get? b=some o/\H b=none:=λb o e=>
 ⟨I.base.keep b o (I.ok.bs b o e).1 (I.ok.bs b o e).2 (I.ok.nofr e) (I.ok.noex b o e),I.base.free b o (I.ok.bs b o e).1 (I.ok.bs b o e).2 (I.ok.noex b o e)⟩
theorem Inv.bk(I:Inv X pins σ H s):∀b o,X.base.get? b=some o->s.heap.get? b=some o:=λb o e=>(I.bs b o e).1
theorem Inv.mod(I:Inv X pins σ H s):Mod X.K X.mg X.base:=I.ok.mod
theorem Inv.kIn(I:Inv X pins σ H s):X.K.In s.heap:=I.ok.mod.kin.keeps I.bk
theorem Inv.lt(I:Inv X pins σ H s):X.env.locals<s.heap.objs.size:=let ⟨_,hn,_⟩:=I.loc;hn.lt
theorem Inv.sz(I:Inv X pins σ H s):X.s₀.heap.objs.size<=s.heap.objs.size:=AAv I.ok.above (Nat.le_of_lt I.lt)
theorem Inv.nofs(I:Inv X pins σ H s)(h:s.heap.objs.size<=a):a∉X.fs:=λhb=>by
 obtain⟨_,o,ho,_⟩:=I.ok.funs.mem hb;exact absurd (AAN (Heap.lt_size ho) (AAv I.sz h)) (AA4 _)
theorem Inv.cne(I:Inv X pins σ H s):∀x c,X.env.cells.lookup x=some c->c≠X.env.locals:=λx c e z=>by
 obtain⟨v,o,ho,hd⟩:=I.cell x c e;obtain⟨m,⟨o',es,ep,ho',hd',_⟩,_⟩:=I.loc;rw[z,ho'] at ho;cases ho;rw[hd'] at hd;cases hd
theorem Inv.funs(I:Inv X pins σ H s):s.heap.FunFrames X.base X.outer:=by
 have all:∀(l:List Env),(∀b∈frs l,b∈X.fs)->X.s₀.heap.FunFrames X.base l->s.heap.FunFrames X.base l:=by
  intro l
  induction l with
  |nil=>intro _ _;trivial
  |cons env r ih=>
   intro hs hl;obtain⟨hk,⟨L,o,hf,hn,ho,hd⟩,hr⟩:=hl;have hL:L∈X.fs:=hs L (by unfold frs;rw[List.filterMap_cons,hf];exact AAQ);obtain⟨sl,e⟩:=I.base.slot L o ho (I.ok.frf L hL) hL λz=>I.ok.exfs L z hL;exact⟨hk,⟨L,_,hf,hn,e,hd⟩,ih (λb hb=>hs b (by unfold frs;rw[List.filterMap_cons,hf];exact AAR _ hb)) hr⟩
 exact all X.outer (λ_ hb=>hb) I.ok.funs
theorem Inv.stack(I:Inv X pins σ H s):s.heap.FunFrames X.base X.stack:=by
 rcases I.ok.stk with e|⟨e,hf⟩
 ·rw[e];exact I.funs
 ·rw[e];obtain⟨m,hn,_⟩:=I.loc;refine .cons (by rw[I.ok.kind];decide) hf hn ?_ I.funs;exact Heap.get?_none_of_le (AAv I.ok.bsz I.ok.above)
theorem Inv.stkSub(I:Inv X pins σ H s):∀b∈frs X.stack,b∈X.env.locals::X.fs:=λb hb=>by
 rcases I.ok.stk with e|⟨e,hf⟩
 ·rw[e] at hb;exact AAR _ hb
 ·rw[e] at hb;unfold frs at hb;rw[List.filterMap_cons,hf] at hb;exact hb
theorem Inv.stkFree(I:Inv X pins σ H s):∀b∈frs X.stack,H b=none:=λb hb=>by
 rcases AAJ.mp (I.stkSub b hb) with e|hb
 ·rw[e];exact I.free
 ·obtain⟨_,o,ho,_⟩:=I.ok.funs.mem hb;exact I.base.free b o ho (I.ok.frf b hb) λz=>I.ok.exfs b z hb
theorem Inv.step{g':Array GenState}{t':Nat}{ch:List Addr}(I:Inv X pins σ H s)
  (hch:∀b∈ch,(b∈X.ex∨X.s₀.heap.objs.size<=b)/\b≠X.env.locals/\(∀x c,X.env.cells.lookup x=some c->c≠b)/\∀p∈X.pn++pins,p.1≠b)
  (keep:∀b o,b≠X.env.locals->b∉X.fs->b∉ch->s.heap.get? b=some o->H b=none->h'.get? b=some o)
  (slot:∀b o,b≠X.env.locals->b∈X.fs->b∉ch->s.heap.get? b=some o->H b=none->∃sl,h'.get? b=some { o with slots:=sl }) (free:∀b o,b∉ch->s.heap.get? b=some o->H b=none->H' b=none)
  (there:∀b o,b∉ch->s.heap.get? b=some o->∃o',h'.get? b=some o')
  (tups:∀b xs,H b=some (.tup xs)->H' b=some (.tup xs)) (frzs:∀b o u,H b=some (.frz o u)->H' b=some (.frz o u)) (tbls:∀b ps,H b=some (.tbl ps)->∃more,H' b=some (.tbl (ps++more)))
  (ns:∀m,s.heap.Ns X.env.locals m->h'.Ns X.env.locals m) (hok:HOk X.prog X.w H' h') (hg:AllBare g') :
  Inv X pins σ H' { s with heap:=h',gens:=g',drawn:=d',toks:=t' }:=by
 have neL:∀b o,X.s₀.heap.get? b=some o->b≠X.env.locals:=λb o e=>AAf (AAN (Heap.lt_size e) I.ok.above);have neC:∀b o,X.s₀.heap.get? b=some o->b∉X.ex->b∉ch:=λb o e hx hb=>by
  rcases(hch b hb).1 with z|z
  ·exact hx z
  ·exact absurd (AAN (Heap.lt_size e) z) (AA4 _)
 have cellK:∀x c,X.env.cells.lookup x=some c->∀v,s.heap.IsCell c v->h'.IsCell c v:=λx c e v ⟨o,ho,hd⟩=>by
  have nch:c∉ch:=λz=>(hch c z).2.2.1 x c e rfl;by_cases hc:c∈X.fs
  ·obtain⟨sl,q⟩:=slot c o (I.cne x c e) hc nch ho (I.freeC x c e);exact⟨_,q,hd⟩
  ·exact⟨o,keep c o (I.cne x c e) hc nch ho (I.freeC x c e),hd⟩
 refine⟨I.ok,I.os,hg,⟨λb o e n hb hx=>?_,λb o e n hb hx=>?_,λb o e n hx=>?_,λb o e hx=>?_,λb xs e=>tups b xs (I.base.tups b xs e),λb o xs e=>frzs b o xs (I.base.frzs b o xs e),λb ps e=>?_⟩,?_,λx c e=>?_,?_,λx c e=>?_,λp hp=>?_,hok,I.len⟩
 ·exact keep b o (neL b o e) hb (neC b o e hx) (I.base.keep b o e n hb hx) (I.base.free b o e n hx)
 ·obtain⟨sl,e1⟩:=I.base.slot b o e n hb hx;obtain⟨sl',e2⟩:=slot b _ (neL b o e) hb (neC b o e hx) e1 (I.base.free b o e n hx);exact⟨sl',e2⟩
 ·obtain⟨o',e1⟩:=I.base.there b o e hx;exact free b o' (neC b o e hx) e1 (I.base.free b o e n hx)
 ·obtain⟨o',e1⟩:=I.base.there b o e hx;exact there b o' (neC b o e hx) e1
 ·obtain⟨m1,e1⟩:=I.base.tbls b ps e;obtain⟨m2,e2⟩:=tbls b _ e1;exact⟨m1++m2,by rw[e2,Array.append_assoc]⟩
 ·obtain⟨m,hn,hl⟩:=I.loc;refine⟨m,ns m hn,λi x v e1 e2 e3=>?_⟩;obtain⟨u,r,l⟩:=hl i x v e1 e2 e3;refine⟨u,r,?_⟩;rcases l with l|⟨k,c,e,z⟩
  ·exact .inl l
  ·exact .inr ⟨k,c,e,cellK x c e _ z⟩
 ·obtain⟨v,z⟩:=I.cell x c e;exact⟨v,cellK x c e v z⟩
 ·obtain⟨m,⟨o,_,_,ho,_⟩,_⟩:=I.loc;exact free _ o (λz=>(hch _ z).2.1 rfl) ho I.free
 ·obtain⟨v,o,ho,hd⟩:=I.cell x c e;exact free c o (λz=>(hch c z).2.2.1 x c e rfl) ho (I.freeC x c e)
 ·obtain⟨e,n,ne,nf,d⟩:=I.pin p hp;have nch:p.1∉ch:=λz=>(hch p.1 z).2.2.2 p hp rfl;exact⟨keep p.1 p.2 ne nf nch e n,free p.1 p.2 nch e n,ne,nf,d⟩
theorem Inv.un{t':Nat}(I:Inv X pins σ H s)(u:Un X.fs [] H H' s.heap h')(hok:HOk X.prog X.w H' h'):Inv X pins σ H' { s with heap:=h',toks:=t' }:=by
 obtain⟨m,⟨o,es,ep,ho,r⟩,_⟩:=id I.loc;obtain⟨sl,hL⟩:=u.any ho I.free (by simp);exact I.step (g':=s.gens) (d':=s.drawn) (ch:=[]) (λ_ z=>nomatch z) (λb o _ hb _ e n=>u.keep b o e n hb (by simp)) (λb o _ hb _ e n=>u.slot b o e n hb (by simp)) (λb o _ e n=>u.free b o e n (by simp)) (λb o _ e=>u.there b o e (by simp)) u.tups u.frzs u.tbls (λm' hm=>by
  obtain⟨o',es',ep',ho',r'⟩:=hm;rw[ho] at ho';cases ho';exact⟨_,es',ep',hL,r'⟩) hok I.bare
theorem Inv.call{g':Array GenState}{t':Nat}{ch:List Addr}(I:Inv X pins σ H s)(u:Un (frs X.stack) ch H H' s.heap h')(hok:HOk X.prog X.w H' h')(hg:AllBare g')
  (hch:∀b∈ch,(b∈X.ex∨X.s₀.heap.objs.size<=b)/\b≠X.env.locals/\(∀x c,X.env.cells.lookup x=some c->c≠b)/\∀p∈X.pn++pins,p.1≠b) :
  Inv X pins σ H' { s with heap:=h',gens:=g',drawn:=d',toks:=t' }:=by
 obtain⟨m,⟨o,es,ep,ho,r⟩,_⟩:=id I.loc;obtain⟨sl,hL⟩:=u.any ho I.free λz=>(hch _ z).2.1 rfl;exact I.step (ch:=ch) hch (λb o hL hb hc e n=>u.keep b o e n (λz=>(AAJ.mp (I.stkSub b z)).elim hL hb) hc) (λb o _ _ hc e n=>u.any e n hc) (λb o hc e n=>u.free b o e n hc) (λb o hc e=>u.there b o e hc) u.tups u.frzs u.tbls (λm' hm=>by
  obtain⟨o',es',ep',ho',r'⟩:=hm;rw[ho] at ho';cases ho';exact⟨_,es',ep',hL,r'⟩) hok hg
theorem Inv.turned{t':Nat}{it:Addr}(I:Inv X pins σ H s)(k:∀b o,b≠it->s.heap.get? b=some o->h'.get? b=some o)(hn:H it=none)(hL:it≠X.env.locals)
  (h1:it∈X.ex∨X.s₀.heap.objs.size<=it) (h2:∀x c,X.env.cells.lookup x=some c->c≠it) (h3:∀p∈X.pn++pins,p.1≠it):Inv X pins σ H { s with heap:=h',toks:=t' }:=by
 have nit:∀b u,H b=some u->b≠it:=λb u e z=>by rw[z,hn] at e;cases e
 refine I.step (g':=s.gens) (d':=s.drawn) (ch:=[it]) (λb hb=>?_) (λb o _ _ hc e _=>k b o (λz=>hc (by simp[z])) e) (λb o _ _ hc e _=>⟨o.slots,k b o (λz=>hc (by simp[z])) e⟩) (λ_ _ _ _ n=>n)
  (λb o hc e=>⟨o,k b o (λz=>hc (by simp[z])) e⟩) (λ_ _ e=>e) (λ_ _ _ e=>e) (λb ps e=>⟨#[],by rw[e];simp⟩) (λm hm=>?_) (λb u e=>?_) I.bare
 ·have e:b=it:=by simpa using hb
  subst e;exact⟨h1,hL,h2,h3⟩
 ·obtain⟨o,es,ep,ho,r⟩:=hm;exact⟨o,es,ep,k _ o (Ne.symm hL) ho,r⟩
 ·refine(I.hok b u e).stay (λc v hc q=>k c v ?_ q) (λ_ q=>q) λ_ _ q=>q;rcases hc with z|z
  ·rw[z];exact nit b u e
  ·exact nit c _ z
theorem Inv.tok(I:Inv X pins σ H s)(t:Nat):Inv X pins σ H { s with toks:=t }:=I.un (h':=s.heap) (t':=t) Un.refl I.hok
theorem Inv.kept(I:Inv X pins σ H s)(k:∀b u,s.heap.get? b=some u->h'.get? b=some u):Inv X pins σ H { s with heap:=h',toks:=t' }:=I.un (Un.kept k) (I.hok.kept k)
theorem Inv.laid(I:Inv X pins σ H s)(k:∀b u,s.heap.get? b=some u->h'.get? b=some u)(hp:s.heap.objs.size<=a)(new:ObjOk X.prog X.w (upd H a o) h' a o):
  Inv X pins σ (upd H a o) { s with heap:=h',toks:=t' }:=I.un (Un.laid k hp (I.hok.fresh hp)) (I.hok.laid k hp new)
theorem Inv.write(I:Inv X pins σ H s)(mu:Mut (H x))(he:e=x∨H e=some (.own x))(k:∀b u,b≠e->s.heap.get? b=some u->h'.get? b=some u)(heo:∃u,h'.get? e=some u)
  (new:ObjOk X.prog X.w (upd H x o) h' x o):Inv X pins σ (upd H x o) { s with heap:=h',toks:=t' }:=I.un (Un.write mu he k heo) (I.hok.write mu he k heo new)
theorem Inv.weak(I:Inv X pins σ H s)(hl:σ'.length=σ.length)(w:∀(i:Nat) v,σ'[i]?=some (some v)->σ[i]?=some (some v)):Inv X pins σ' H s:=
 ⟨I.ok,I.os,I.bare,I.base,let ⟨m,hn,hl'⟩:=I.loc;⟨m,hn,λi x v e1 e2 e3=>hl' i x v e1 (w i v e2) e3⟩,I.cell,I.free,I.freeC,I.pin,I.hok,hl.trans I.len⟩
theorem Inv.pins_of(I:Inv X pins σ H s)(h:∀p∈pins',s.heap.get? p.1=some p.2/\H p.1=none/\p.1≠X.env.locals/\p.1∉X.fs/\∀v,p.2.data≠.cell v):Inv X pins' σ H s:=
 ⟨I.ok,I.os,I.bare,I.base,I.loc,I.cell,I.free,I.freeC,λp hp=>(AAK.mp hp).elim (λz=>I.pin p (AAd _ z)) (h p),I.hok,I.len⟩
theorem NP{N:List Str}(hN:N.Nodup){i j:Nat}{x:Str}(a:N[i]?=some x)(b:N[j]?=some x):i=j:=by
 obtain⟨h1,e1⟩:=AAU.mp a;obtain⟨h2,e2⟩:=AAU.mp b;exact(List.getElem_inj hN).mp (e1.trans e2.symm)
theorem G1{M:Model}{A:Around}{E:Value->Shared->Prop}{i:Nat}{x:Str}{u:Value}{Q:Unit->Shared->Prop}(I:Inv X pins σ H s)(hN:X.N.Nodup)(hi:X.N[i]?=some x)(hx:Loc X.env.scope x)(r:RelV v u)
  (h:∀s',Inv X pins (σ.set i (some v)) H s'->(∃a,Heap.SameBut a s.heap s'.heap/\(a=X.env.locals∨X.env.cells.lookup x=some a))->Q () s') (hf:X.fn x=true∨X.env.scope.names.lookup x=some .local:=by first|exact .inl rfl|exact .inr rfl|assumption):wpAny M A (storeName X.env x u) Q E s:=by
 obtain⟨m,hn,hl⟩:=id I.loc;have hcls:(X.env.scope.kind==.class||(X.env.scope.kind==.module&&X.env.locals != X.env.globals))=false:=by rw[I.ok.kind];rfl
 have hiσ:i<σ.length:=by rw[I.len];exact(AAU.mp hi).1
 have cne:=I.cne;have tracked:∀{a:Addr} {h':Heap},(∃o,s.heap.get? a=some o/\H a=none)->Heap.SameBut a s.heap h'->HOk X.prog X.w H h':=λ{a h'} ha hs b ob e=>by
  obtain⟨_,_,hfree⟩:=ha;refine(I.hok b ob e).stay (λc w' hc q=>(hs.2 c ?_).trans q) (λ_ q=>q) λ_ _ q=>q;rintro rfl;rcases hc with rfl|hc
  ·rw[hfree] at e;cases e
  ·rw[hfree] at hc;cases hc
 rcases hx with hk|hk
 ·refine wpAny_storeName_local hk hn (λh' hn' hs=>?_) hcls;obtain⟨oL,_,_,hoL,_⟩:=id hn;refine h _ ⟨I.ok,I.os,I.bare,⟨λb o e n hb hx=>?_,λb o e n hb hx=>?_,I.base.free,λb o e hx=>?_,I.base.tups,I.base.frzs,I.base.tbls⟩,⟨_,hn',λj y v' e1 e2 e3=>?_⟩,λy c e=>?_,I.free,I.freeC,λp hp=>?_,tracked ⟨oL,hoL,I.free⟩ hs,by simpa using I.len⟩ ⟨_,hs,.inl rfl⟩
  ·exact(hs.2 b (AAf (AAN (Heap.lt_size e) I.ok.above))).trans (I.base.keep b o e n hb hx)
  ·obtain⟨sl,e1⟩:=I.base.slot b o e n hb hx;exact⟨sl,(hs.2 b (AAf (AAN (Heap.lt_size e) I.ok.above))).trans e1⟩
  ·obtain⟨o',e1⟩:=I.base.there b o e hx;exact⟨o',(hs.2 b (AAf (AAN (Heap.lt_size e) I.ok.above))).trans e1⟩
  ·by_cases hj:j=i
   ·subst hj;rw[hi] at e1;cases e1;rw[List.getElem?_set_self hiσ] at e2;cases e2;exact⟨u,r,.inl ⟨hk,by simp⟩⟩
   ·rw[AAq (Ne.symm hj)] at e2;obtain⟨u',r',q⟩:=hl j y v' e1 e2 e3;refine⟨u',r',?_⟩;rcases q with ⟨k,e⟩|⟨k,c,e,z⟩
    ·refine .inl ⟨k,?_⟩;have:y≠x:=λe=>hj (NP hN e1 (e ▸ hi));simp[this,e]
    ·exact .inr ⟨k,c,e,z.sameBut hs (cne y c e)⟩
  ·obtain⟨w',z⟩:=I.cell y c e;exact⟨w',z.sameBut hs (cne y c e)⟩
  ·obtain⟨e,n,ne,nf,d⟩:=I.pin p hp;exact⟨(hs.2 p.1 ne).trans e,n,ne,nf,d⟩
 ·have hfn:X.fn x=true:=by
   rcases hf with z|z
   ·exact z
   ·rw[z] at hk;cases hk
  obtain⟨c,hc⟩:=I.ok.has x (.inl hk);obtain⟨w',z⟩:=I.cell x c hc;refine wpAny_storeName_cell I.ok.kind hk hc z (λh' hc' hs=>?_);obtain⟨oc,hoc,hocd⟩:=id z;refine h { s with heap:=h' } ⟨I.ok,I.os,I.bare,⟨λb o e n hb hx=>?_,λb o e n hb hx=>?_,I.base.free,λb o e hx=>?_,I.base.tups,I.base.frzs,I.base.tbls⟩,⟨m,hn.sameBut hs (Ne.symm (cne x c hc)),λj y v' e1 e2 e3=>?_⟩,λy c' e=>?_,I.free,I.freeC,λp hp=>?_,tracked ⟨oc,hoc,I.freeC x c hc⟩ hs,by simpa using I.len⟩ ⟨c,hs,.inr hc⟩
  ·exact(hs.2 b (AAf (AAN (Heap.lt_size e) (I.ok.cab x c hfn hc)))).trans (I.base.keep b o e n hb hx)
  ·obtain⟨sl,e1⟩:=I.base.slot b o e n hb hx;exact⟨sl,(hs.2 b (AAf (AAN (Heap.lt_size e) (I.ok.cab x c hfn hc)))).trans e1⟩
  ·obtain⟨o',e1⟩:=I.base.there b o e hx;exact⟨o',(hs.2 b (AAf (AAN (Heap.lt_size e) (I.ok.cab x c hfn hc)))).trans e1⟩
  ·by_cases hj:j=i
   ·subst hj;rw[hi] at e1;cases e1;rw[List.getElem?_set_self hiσ] at e2;cases e2;exact⟨u,r,.inr ⟨.inl hk,c,hc,hc'⟩⟩
   ·rw[AAq (Ne.symm hj)] at e2;obtain⟨u',r',q⟩:=hl j y v' e1 e2 e3;refine⟨u',r',?_⟩;rcases q with q|⟨k,c',e,z'⟩
    ·exact .inl q
    ·refine .inr ⟨k,c',e,z'.sameBut hs ?_⟩;rintro rfl;exact hj (NP hN e1 (I.ok.inj _ _ _ e hc ▸ hi))
  ·by_cases hcc:c'=c
   ·subst hcc;exact⟨_,hc'⟩
   ·obtain⟨w2,z2⟩:=I.cell y c' e;exact⟨w2,z2.sameBut hs hcc⟩
  ·obtain⟨e,n,ne,nf,d⟩:=I.pin p hp;refine⟨(hs.2 p.1 ?_).trans e,n,ne,nf,d⟩;intro q;rw[q,hoc] at e;have q':oc=p.2:=Option.some.inj e;exact d w' (by rw[←q'];exact hocd)
theorem Mr(I:Inv X pins σ H s)(hN:X.N.Nodup)(hi:X.N[i]?=some x)(hx:Loc X.env.scope x)(r:RelV v u)
  (h:∀s',Inv X pins (σ.set i (some v)) H s'->Q () s') (hf:X.fn x=true∨X.env.scope.names.lookup x=some .local:=by first|exact .inl rfl|exact .inr rfl|assumption):wpAny M A (storeName X.env x u) Q E s:=
 G1 I hN hi hx r (λs' I' _=>h s' I') hf
theorem Inv.call'(I:Inv X pins σ H s)(ho:s'.os=s.os)(u:Un (frs X.stack) ch H H' s.heap s'.heap)(hok:HOk X.prog X.w H' s'.heap)(hg:AllBare s'.gens)
  (hch:∀b∈ch,(b∈X.ex∨X.s₀.heap.objs.size<=b)/\b≠X.env.locals/\(∀x c,X.env.cells.lookup x=some c->c≠b)/\∀p∈X.pn++pins,p.1≠b):Inv X pins σ H' s':=by
 obtain⟨h',g',d',t',o'⟩:=s';have e:o'=s.os:=ho;subst e;exact I.call (g':=g') (t':=t') (d':=d') u hok hg hch
end
abbrev XK:=Value->Option Addr->Hp->Prop
abbrev St:=List (Option V)
abbrev VK:=V->Hp->Prop
abbrev TE:=St->Hp->VK->Prop
abbrev TT:=St->Hp->(Bool->Hp->Prop)->Prop
abbrev TA:=St->Hp->(List V->Hp->Prop)->Prop
structure Vo where
 nx:St->Hp->Prop
 rt:VK
 bk:St->Hp->Prop:=λ_ _=>False
 ct:St->Hp->Prop:=λ_ _=>False
abbrev TS:=Vo->St->Hp->Prop
def EP(X:Cx)(pins:List (Addr×Obj))(σ:St)(Q:VK)(u:Value)(s':Shared):Prop:=∃v H',Inv X pins σ H' s'/\RelV v u/\Q v H'
def TP(X:Cx)(pins:List (Addr×Obj))(σ:St)(Q:Bool->Hp->Prop)(b:Bool)(s':Shared):Prop:=∃H',Inv X pins σ H' s'/\Q b H'
def AP(X:Cx)(pins:List (Addr×Obj))(σ:St)(Q:List V->Hp->Prop)(us:List Value)(s':Shared):Prop:=∃vs H',Inv X pins σ H' s'/\Vals vs us/\Q vs H'
def SP(X:Cx)(pins:List (Addr×Obj))(D:Vo)(f:Flow)(s':Shared):Prop:=
 match f with
 | .next=>∃σ' H',Inv X pins σ' H' s'/\D.nx σ' H'
 | .brk=>∃σ' H',Inv X pins σ' H' s'/\D.bk σ' H'
 | .cont=>∃σ' H',Inv X pins σ' H' s'/\D.ct σ' H'
 | .ret u=>∃v σ' H',Inv X pins σ' H' s'/\RelV v u/\D.rt v H'
def PE(X:Cx)(e:Expr)(t:TE):Prop:=
 ∀(pins:List (Addr×Obj)) (s:Shared) (σ:St) (H:Hp) (Q:VK),Inv X pins σ H s->t σ H Q->wpAny (model X.prog X.w) X.A (eval e X.env) (EP X pins σ Q) X.xe s
def PT(X:Cx)(e:Expr)(t:TT):Prop:=
 ∀(pins:List (Addr×Obj)) (s:Shared) (σ:St) (H:Hp) (Q:Bool->Hp->Prop),Inv X pins σ H s->t σ H Q->wpAny (model X.prog X.w) X.A (isTrue e X.env (eval e X.env)) (TP X pins σ Q) X.xe s
def PW(X:Cx)(e:Expr)(t:TT):Prop:=
 ∀(whole:Sem Value) (pins:List (Addr×Obj)) (s:Shared) (σ:St) (H:Hp) (Q:Bool->Hp->Prop),Inv X pins σ H s->t σ H Q->wpAny (model X.prog X.w) X.A (isTrue e X.env whole) (TP X pins σ Q) X.xe s
theorem PW.pt(h:PW X e t):PT X e t:=h _
def PA(X:Cx)(es:List Expr)(t:TA):Prop:=
 ∀(pos:Pos) (pins:List (Addr×Obj)) (s:Shared) (σ:St) (H:Hp) (Q:List V->Hp->Prop),Inv X pins σ H s->t σ H Q->wpAny (model X.prog X.w) X.A (spliced (backTo pos (starEach es X.env))) (AP X pins σ Q) X.xe s
def PS(X:Cx)(st:Stmt)(t:TS):Prop:=
 ∀(pins:List (Addr×Obj)) (s:Shared) (σ:St) (H:Hp) (D:Vo),Inv X pins σ H s->t D σ H->wpAny (model X.prog X.w) X.A (exec st X.env) (SP X pins D) X.xe s
def PSs(X:Cx)(st:List Stmt)(t:TS):Prop:=
 ∀(pins:List (Addr×Obj)) (s:Shared) (σ:St) (H:Hp) (D:Vo),Inv X pins σ H s->t D σ H->wpAny (model X.prog X.w) X.A (execs st X.env) (SP X pins D) X.xe s
theorem thn(h:wpAny M A t Q E s)(hQ:∀a s,Q a s->Q' a s):wpAny M A t Q' E s:=AAl h hQ λ_ _ x=>x
section
variable{X:Cx}
noncomputable def ce(i:Nat):TE:=λσ H Q=>∃v,σ[i]?=some (some v)/\Q v H
def tC(v:V):TE:=λ_ H Q=>Q v H
theorem Zs(hN:X.N[i]?=some x)(hv:Vis X.env.scope x)(hd:(x==("__debug__" : Str))=false:=by decide)(hcd:(x==("__classdict__" : Str))=false:=by decide):PE X (.Name x pos) (ce i):=by
 intro pins s σ H Q I h;obtain⟨v,e,h⟩:=h;obtain⟨m,hn,hl⟩:=I.loc;obtain⟨u,r,l⟩:=hl i x v hN e hv;have fin:EP X pins σ Q u s:=⟨v,H,I,r,h⟩;rcases l with ⟨hk,hm⟩|⟨hk,c,hc,hcell⟩
 ·exact wpAny_Name (wpAny_loadName_local I.ok.kind hk hn hm fin) hd
 ·rcases hk with hk|hk
  ·exact wpAny_Name (wpAny_loadName_cell I.ok.kind hk hc hcell fin) hd
  ·exact wpAny_Name (wpAny_loadName_free I.ok.kind hk hc hcell fin hcd) hd
theorem Zy:PE X (.Constant (.int i) j pos) (tC (.int i)):=λ_ _ _ H _ I h=>wpAny_Constant_int ⟨.int i,H,I.tok _,⟨_,rfl⟩,h⟩
theorem bd:PE X (.Constant (.bool b) j pos) (tC (.bl b)):=λ_ _ _ H _ I h=>Constant_bool ⟨.bl b,H,I,rfl,h⟩
theorem Zx:PE X (.Constant .none j pos) (tC .non):=λ_ _ _ H _ I h=>Constant_none ⟨.non,H,I,rfl,h⟩
theorem UZ:PE X (.Constant (.str x) j pos) (tC (.str x)):=λ_ _ _ H _ I h=>Calls.Constant_str ⟨.str x,H,I.tok _,⟨_,rfl⟩,h⟩
def Gl(X:Cx)(x:Str):Prop:=X.env.kindOf x=some .globalImplicit
theorem L0(I:Inv X pins σ H s)(hg:Gl X x)(hm:X.mg x=some u)(h:Q u s)
  (hd:(x==("__debug__" : Str))=false:=by decide):wpAny (model X.prog X.w) X.A (eval (.Name x pos) X.env) Q E s:=
 Calls.Name_function_global I.ok.kind hg (Calls.loadGlobal_global (by rw[I.ok.glob];exact I.mod.glob.keeps I.bk) hm h) hd
theorem FN(I:Inv X pins σ H s)(hg:Gl X x)(hm:X.mg x=none)(hv:bootBuiltins x=some u)(h:Q u s)
  (hn:x ≠ "__name__" := by decide) (hd:(x==("__debug__" : Str))=false:=by decide):wpAny (model X.prog X.w) X.A (eval (.Name x pos) X.env) Q E s:=by
 obtain⟨mb,h1,h2⟩:=I.mod.blt;exact Calls.Name_function_global I.ok.kind hg (Calls.loadGlobal_builtin (by rw[I.ok.glob];exact I.mod.glob.keeps I.bk) hm (by rw[I.ok.blt];exact h1.keeps I.bk) ((h2 x hn).trans hv) h) hd
theorem QJ(hg:Gl X x)(hm:X.mg x=some u)(r:RelV v u)(hd:(x==("__debug__" : Str))=false:=by decide):PE X (.Name x pos) (tC v):=
 λ_ _ _ H _ I h=>L0 I hg hm ⟨v,H,I,r,h⟩ hd
theorem Xc(hg:Gl X x)(hm:X.mg x=none)(hv:bootBuiltins x=some u)(r:RelV v u)(hn:x ≠ "__name__" := by decide)(hd:(x==("__debug__" : Str))=false:=by decide):PE X (.Name x pos) (tC v):=
 λ_ _ _ H _ I h=>FN I hg hm hv ⟨v,H,I,r,h⟩ hn hd
variable{a b:Expr}{ta tb:TE}{pos:Pos}
noncomputable def tB(t:TE):TT:=λσ H Q=>t σ H λx H1=>∃c,x=.bl c/\Q c H1
theorem Zi(h:PE X e t)(he:∀whole,isTrue e X.env whole=(do let v ←whole;standAt e.pos;holding [v] (truthy v)):=by intro _;rfl):PT X e (tB t):=by
 intro pins s σ H Q I hw;refine isTrue_plain (thn (h pins s σ H _ I hw) λv s1 ⟨x,H1,I1,r1,q1⟩=>?_) (he _);obtain⟨d,rfl,q⟩:=q1;cases r1;exact wpAny_truthy_bool ⟨H1,I1,q⟩
variable{tA tB':TT}{rest:List Expr}
noncomputable def cu(t u:TT):TT:=λσ H Q=>t σ H λc H1=>if c=true then u σ H1 Q else Q false H1
noncomputable def tOr(t u:TT):TT:=λσ H Q=>t σ H λc H1=>if c=true then Q true H1 else u σ H1 Q
noncomputable def ck(t:TT):TT:=λσ H Q=>t σ H λc H1=>Q (!c) H1
theorem XC(ha:PT X a tA):PW X (.BoolOp .And [a] pos) tA:=by
 intro wh pins s σ H Q I h;refine isTrue_and (thn (ha pins s σ H Q I h) λc s1 e=>?_);cases c with
 |true=>exact isTrue_and_nil e
 |false=>exact e
theorem Zg(ha:PT X a tA):PW X (.BoolOp .Or [a] pos) tA:=by
 intro wh pins s σ H Q I h;refine isTrue_or (thn (ha pins s σ H Q I h) λc s1 e=>?_);cases c with
 |false=>exact isTrue_or_nil e
 |true=>exact e
theorem Zh(ha:PT X a tA)(hb:PW X (.BoolOp .And (b::rest) pos) tB'):PW X (.BoolOp .And (a::b::rest) pos) (cu tA tB'):=by
 intro wh pins s σ H Q I h;refine isTrue_and (thn (ha pins s σ H _ I h) λc s1 ⟨H1,I1,q1⟩=>?_);cases c with
 |true=>exact hb wh pins s1 σ H1 Q I1 q1
 |false=>exact⟨H1,I1,q1⟩
theorem bV(ha:PT X a tA)(hb:PW X (.BoolOp .Or (b::rest) pos) tB'):PW X (.BoolOp .Or (a::b::rest) pos) (tOr tA tB'):=by
 intro wh pins s σ H Q I h;refine isTrue_or (thn (ha pins s σ H _ I h) λc s1 ⟨H1,I1,q1⟩=>?_);cases c with
 |true=>exact⟨H1,I1,q1⟩
 |false=>exact hb wh pins s1 σ H1 Q I1 q1
theorem Zj(ha:PT X a tA):PT X (.UnaryOp .Not a pos) (ck tA):=by
 intro pins s σ H Q I h;exact isTrue_not (ha pins s σ H (λc H1=>Q (!c) H1) I h)
noncomputable def bM(ta tb:TE):TE:=λσ H Q=>ta σ H λx H1=>∃c,x=.bl c/\if c=true then tb σ H1 Q else Q (.bl false) H1
noncomputable def bA(ta:TE):TE:=λσ H Q=>ta σ H λx H1=>∃c,x=.bl c/\Q (.bl (!c)) H1
theorem Zv(h:PE X a t):PE X (.BoolOp op [a] pos) t:=λpins s σ H Q I hw=>BoolOp_one (h pins s σ H Q I hw)
theorem Z1(ha:PE X a ta)(hb:PE X (.BoolOp .And (b::rest) pos) tb):PE X (.BoolOp .And (a::b::rest) pos) (bM ta tb):=by
 intro pins s σ H Q I h;refine BoolOp_and (thn (ha pins s σ H _ I h) λv s1 ⟨x,H1,I1,r1,q1⟩=>?_);obtain⟨c,rfl,q1⟩:=q1;cases r1;refine wpAny_truthy_bool ?_;cases c with
 |true=>exact hb pins s1 σ H1 Q I1 q1
 |false=>exact⟨.bl false,H1,I1,rfl,q1⟩
theorem Zw(ha:PE X a ta):PE X (.UnaryOp .Not a pos) (bA ta):=by
 intro pins s σ H Q I h;refine UnaryOp_ (thn (ha pins s σ H _ I h) λv s1 ⟨x,H1,I1,r1,q1⟩=>?_);obtain⟨c,rfl,q1⟩:=q1;cases r1;exact not_of (wpAny_truthy_bool ⟨.bl (!c),H1,I1,rfl,q1⟩)
noncomputable def tIf(t:TT)(ta tb:TE):TE:=λσ H Q=>t σ H λc H1=>if c=true then ta σ H1 Q else tb σ H1 Q
theorem Uc(hc:PT X c tA)(ha:PE X a ta)(hb:PE X b tb):PE X (.IfExp c a b pos) (tIf tA ta tb):=by
 intro pins s σ H Q I h;refine wpAny_IfExp (thn (hc pins s σ H _ I h) λd s1 ⟨H1,I1,q1⟩=>?_);cases d with
 |true=>exact ha pins s1 σ H1 Q I1 q1
 |false=>exact hb pins s1 σ H1 Q I1 q1
end
def SqL(K:PySem.W.Frag)(H:Hp)(a:Addr)(xs:List V):Prop:=
 Rd H a (.lst xs) ∨
  ∃(o:Obj) (its:Array Value) (n:Nat),K.lookup a=some o/\o.cls=.type "list" /\ o.dict=none/\o.data=.seq its n/\its.size<=sizeLine/\Vals xs its.toList
def SqT(K:PySem.W.Frag)(H:Hp)(a:Addr)(xs:List V):Prop:=
 Rd H a (.tup xs) ∨
  ∃(o:Obj) (its:Array Value) (n:Nat),K.lookup a=some o/\o.cls=.type "tuple" /\ o.data=.seq its n/\its.size<=sizeLine/\Vals xs its.toList
noncomputable def dX:Value->Option V
 | .none=>some .non
 | .bool b=>some (.bl b)
 | .int i _=>some (.int i)
 | .str x _=>some (.str x)
 | .bytes b _=>some (.byt b)
 | .float b _=>some (.flt b)
 | .ref a=>some (.ref a)
 | .type n=>some (.ty n)
 |_=>none
theorem RelV.abs(r:RelV x u):dX u=some x:=by
 cases x with
 |non=>cases r;rfl
 |bl _=>cases r;rfl
 |int _=>obtain⟨t,rfl⟩:=r;rfl
 |str _=>obtain⟨t,rfl⟩:=r;rfl
 |byt _=>obtain⟨t,rfl⟩:=r;rfl
 |flt _=>obtain⟨t,rfl⟩:=r;rfl
 |ref _=>cases r;rfl
 |ty _=>cases r;rfl
theorem RelV.inj(r:RelV x u)(q:RelV y u):x=y:=Option.some.inj (r.abs.symm.trans q.abs)
theorem Vals.inj:∀{xs ys:List V} {us:List Value},Vals xs us->Vals ys us->xs=ys
 |_,_,_,.nil,.nil=>rfl
 |_,_,_,.cons r t,.cons r' t'=>by rw[r.inj r',Vals.inj t t']
section
variable{X:Cx}{pins:List (Addr×Obj)}{σ:St}{H:Hp}{s:Shared}{a:Addr}{xs ys:List V}
theorem SqL.of{K:PySem.W.Frag}(h:H a=some (.lst xs)):SqL K H a xs:=.inl (.inl h)
theorem SqT.of{K:PySem.W.Frag}(h:H a=some (.tup xs)):SqT K H a xs:=.inl (.inl h)
theorem Inv.list(I:Inv X pins σ H s)(h:SqL X.K H a xs):∃its:List Value,Vals xs its/\PlainL s.heap a its.toArray/\xs.length<=sizeLine:=by
 rcases h with h|⟨o,its,n,hk,hc,hd,hs,hz,r⟩
 ·obtain⟨z,its,n,r,e⟩:=h.ok I.hok;exact⟨its,r,⟨_,n,e,rfl,rfl,rfl⟩,z⟩
 ·refine⟨its.toList,r,⟨o,n,I.kIn a o hk,hc,hd,by simpa using hs⟩,?_⟩;have e:=r.length;simp only[Array.length_toList] at e;omega
theorem Inv.tuple(I:Inv X pins σ H s)(h:SqT X.K H a xs):∃its:List Value,Vals xs its/\IsTup s.heap a its.toArray/\xs.length<=sizeLine:=by
 rcases h with h|⟨o,its,n,hk,hc,hs,hz,r⟩
 ·obtain⟨z,its,r,p⟩:=h.ok I.hok;exact⟨its,r,p,z⟩
 ·refine⟨its.toList,r,⟨o,I.kIn a o hk,hc,n,by simpa using hs⟩,?_⟩;have e:=r.length;simp only[Array.length_toList] at e;omega
theorem Inv.list_inj(I:Inv X pins σ H s)(h:SqL X.K H a xs)(h':SqL X.K H a ys):xs=ys:=by
 obtain⟨its,r,⟨o,n,e,_,_,d⟩,_⟩:=I.list h;obtain⟨its',r',⟨o',n',e',_,_,d'⟩,_⟩:=I.list h';rw[e] at e';cases e';rw[d] at d';injection d' with d1 _
 have:its=its':=by simpa using congrArg Array.toList d1
 subst this;exact r.inj r'
theorem Inv.tuple_inj(I:Inv X pins σ H s)(h:SqT X.K H a xs)(h':SqT X.K H a ys):xs=ys:=by
 obtain⟨its,r,⟨o,e,_,n,d⟩,_⟩:=I.tuple h;obtain⟨its',r',⟨o',e',_,n',d'⟩,_⟩:=I.tuple h';rw[e] at e';cases e';rw[d] at d';injection d' with d1 _
 have:its=its':=by simpa using congrArg Array.toList d1
 subst this;exact r.inj r'
end
noncomputable abbrev Cx.wish(X:Cx)(E:Value->Shared->Prop):Cx:={ X with xe:=E }
noncomputable abbrev Cx.nox(X:Cx):Cx:=X.wish λ_ _=>False
theorem Cx.Ok.wish{X:Cx}(ok:X.Ok)(E:Value->Shared->Prop):(X.wish E).Ok:=
 ⟨ok.mod,ok.kind,ok.glob,ok.blt,ok.above,ok.inj,ok.has,ok.cab,ok.hd,ok.frames,ok.stk,ok.exf,ok.bs,ok.bsz,ok.noex,ok.exfs,ok.funs,ok.frf⟩
theorem Cx.Ok.unwish{X:Cx}(ok:(X.wish E).Ok):X.Ok:=
 ⟨ok.mod,ok.kind,ok.glob,ok.blt,ok.above,ok.inj,ok.has,ok.cab,ok.hd,ok.frames,ok.stk,ok.exf,ok.bs,ok.bsz,ok.noex,ok.exfs,ok.funs,ok.frf⟩
section
variable{X:Cx}{pins:List (Addr×Obj)}{σ:St}{H:Hp}{s:Shared}{E:Value->Shared->Prop}
theorem Inv.wish(I:Inv X pins σ H s)(E:Value->Shared->Prop):Inv (X.wish E) pins σ H s:=⟨I.ok.wish E,I.os,I.bare,I.base,I.loc,I.cell,I.free,I.freeC,I.pin,I.hok,I.len⟩
theorem Inv.unwish(I:Inv (X.wish E) pins σ H s):Inv X pins σ H s:=⟨I.ok.unwish,I.os,I.bare,I.base,I.loc,I.cell,I.free,I.freeC,I.pin,I.hok,I.len⟩
theorem SP.unwish(h:SP (X.wish E) pins D f s'):SP X pins D f s':=by
 cases f with
 |next=>obtain⟨σ',H',I,q⟩:=h;exact⟨σ',H',I.unwish,q⟩
 |brk=>obtain⟨σ',H',I,q⟩:=h;exact⟨σ',H',I.unwish,q⟩
 |cont=>obtain⟨σ',H',I,q⟩:=h;exact⟨σ',H',I.unwish,q⟩
 |ret u=>obtain⟨v,σ',H',I,r,q⟩:=h;exact⟨v,σ',H',I.unwish,r,q⟩
theorem PSs.nox{st:List Stmt}(h:PSs X.nox st t):PSs X st t:=λpins s σ H D I hw=>
 AAl (h pins s σ H D (I.wish _) hw) (λ_ _ q=>q.unwish) λ_ _ z=>False.elim z
end
section
variable{X:Cx}{st:Stmt}{rest:List Stmt}{t u:TS}{e:Expr}{te:TE}{pos:Pos}
def bB:TS:=λD σ H=>D.nx σ H
noncomputable def cg(t u:TS):TS:=λD σ H=>t { D with nx:=u D } σ H
theorem XI:PSs X [] bB:=λ_ _ σ H _ I h=>wpAny_execs_nil ⟨σ,H,I,h⟩
theorem UN(h1:PS X st t)(h2:PSs X rest u):PSs X (st::rest) (cg t u):=by
 intro pins s σ H D I h;refine wpAny_execs_cons (thn (h1 pins s σ H { D with nx:=u D } I h) λf s1 q=>?_);cases f with
 |next=>
  obtain⟨σ',H',I',q⟩:=q;exact h2 pins s1 σ' H' D I' q
 |ret v=>exact q
 |brk=>exact q
 |cont=>exact q
theorem XH(h1:PS X st t):PSs X [st] t:=by
 intro pins s σ H D I h;refine wpAny_execs_cons (thn (h1 pins s σ H D I h) λf s1 q=>?_);cases f with
 |next=>exact wpAny_execs_nil q
 |ret v=>exact q
 |brk=>exact q
 |cont=>exact q
theorem Inv.quiet(I:Inv X pins σ H s):interactive X.env=false:=by simp[interactive,I.ok.kind]
noncomputable def bG(te:TE):TS:=λD σ H=>te σ H λ_ H1=>D.nx σ H1
theorem XL(he:PE X e te)(hs:swapsWith e none pos.line X.env=pure false:=by rfl):PS X (.Expr e pos) (bG te):=by
 intro pins s σ H D I h;exact wpAny_Expr_any (thn (he pins s σ H _ I h) λv s1 ⟨x,H1,I1,r1,q1⟩=>⟨σ,H1,I1,q1⟩) I.quiet hs
def cj(te:TE):TS:=λD σ H=>te σ H D.rt
theorem Zl(he:PE X e te):PS X (.Return (some e) pos) (cj te):=by
 intro pins s σ H D I h;exact wpAny_Return_some (thn (he pins s σ H _ I h) λv s1 ⟨x,H1,I1,r1,q1⟩=>⟨x,σ,H1,I1,r1,q1⟩)
noncomputable def cp(c:TT)(t u:TS):TS:=λD σ H=>c σ H λb H1=>if b=true then t D σ H1 else u D σ H1
theorem bY(hc:PT X c tc)(ha:PSs X a t)(hb:PSs X b u):PS X (.If c a b pos) (cp tc t u):=by
 intro pins s σ H D I h;refine wpAny_If (thn (hc pins s σ H _ I h) λd s1 ⟨H1,I1,q1⟩=>?_);cases d with
 |true=>exact ha pins s1 σ H1 D I1 q1
 |false=>exact hb pins s1 σ H1 D I1 q1
def Tc:TS:=λ_ _ _=>False
theorem UP:PS X st Tc:=λ_ _ _ _ _ _ h=>h.elim
theorem Rc:PSs X sts Tc:=λ_ _ _ _ _ _ h=>h.elim
end
abbrev TG:=V->St->Hp->(St->Hp->Prop)->Prop
abbrev TGs:=List V->St->Hp->(St->Hp->Prop)->Prop
def PG(X:Cx)(target:Expr)(t:TG):Prop:=
 ∀(pins:List (Addr×Obj)) (s:Shared) (σ:St) (H:Hp) (v:V) (u:Value) (Q:St->Hp->Prop),Inv X pins σ H s->RelV v u->t v σ H Q->
  wpAny (model X.prog X.w) X.A (assign target X.env u) (λ_ s'=>∃σ' H',Inv X pins σ' H' s'/\Q σ' H') X.xe s
def PGs(X:Cx)(ts:List Expr)(t:TGs):Prop:=
 ∀(pins:List (Addr×Obj)) (s:Shared) (σ:St) (H:Hp) (vs:List V) (us:List Value) (Q:St->Hp->Prop),Inv X pins σ H s->Vals vs us->t vs σ H Q->
  wpAny (model X.prog X.w) X.A (assignInOrder ((assignEach ts X.env).map (·.2)) us) (λ_ s'=>∃σ' H',Inv X pins σ' H' s'/\Q σ' H') X.xe s
abbrev cV:=V->V->V->Hp->(Hp->Prop)->Prop
def cW(X:Cx)(t:cV):Prop:=
 ∀(pins:List (Addr×Obj)) (s:Shared) (σ:St) (H:Hp) (o i v:V) (ov iv u:Value) (Q:Hp->Prop),Inv X pins σ H s->RelV o ov->RelV i iv->RelV v u->t o i v H Q->
  wpAny (model X.prog X.w) X.A (setItem ov iv u) (λ_ s'=>∃H',Inv X pins σ H' s'/\Q H') X.xe s
section
variable{X:Cx}{pos:Pos}
noncomputable def Dh(i:Nat):TG:=λv σ H Q=>Q (σ.set i (some v)) H
theorem Au(hN:X.N.Nodup)(hi:X.N[i]?=some x)(hx:Loc X.env.scope x)(hf:X.fn x=true∨X.env.scope.names.lookup x=some .local:=by first|exact .inl rfl|exact .inr rfl|assumption):PG X (.Name x pos) (Dh i):=by
 intro pins s σ H v u Q I r h;exact wpAny_assign_Name (Mr I hN hi hx r (λs' I'=>⟨_,H,I',h⟩) hf)
def cJ:TGs:=λvs σ H Q=>vs=[]/\Q σ H
noncomputable def Ys(t:TG)(u:TGs):TGs:=λvs σ H Q=>∃v r,vs=v::r/\t v σ H λσ' H'=>u r σ' H' Q
theorem Cp:PGs X [] cJ:=by
 intro pins s σ H vs us Q I r h;obtain⟨e,h⟩:=h;subst e;cases r;exact assignInOrder_nil ⟨σ,H,I,h⟩
theorem A8(h1:PG X e t)(h2:PGs X es u)
  (hs:(assignEach (e::es) X.env).map (·.2)=assign e X.env::(assignEach es X.env).map (·.2):=by rfl):PGs X (e::es) (Ys t u):=by
 intro pins s σ H vs us Q I r h;obtain⟨v,vr,e1,h⟩:=h;subst e1;cases r with
 |cons r rr=>
  rw[hs];refine assignInOrder_cons (thn (h1 pins s σ H _ _ _ I r h) λ_ s1 ⟨σ1,H1,I1,q1⟩=>?_);exact h2 pins s1 σ1 H1 _ _ Q I1 rr q1
noncomputable def aX(K:PySem.W.Frag)(n:Nat)(t:TGs):TG:=λv σ H Q=>∃a xs,v=.ref a/\SqT K H a xs/\xs.length=n/\t xs σ H Q
theorem Oi(hc:X.calm=true)(h:PGs X es t)
  (hn:(assignEach es X.env).length=n:=by rfl) (hst:(assignEach es X.env).findIdx? (·.1)=none:=by rfl):PG X (.Tuple es k pos) (aX X.K n t):=by
 intro pins s σ H v u Q I r hw;obtain⟨a,xs,e1,hq,hl,hw⟩:=hw;subst e1;cases r;obtain⟨its,rv,ht,hz⟩:=I.tuple hq;refine assign_Tuple_tuple (I.ok.hd hc) ht (by simp[hn,←hl,rv.length]) hst λh' hx=>?_;have I1:Inv X pins σ H { s with heap:=h' }:=I.kept (t':=s.toks) λb o e=>hx b o (AAf (Heap.lt_size e)) e;exact h pins _ σ H xs _ Q I1 (by simpa using rv) hw
noncomputable def dU(to ti:TE)(t:cV):TG:=λv σ H Q=>to σ H λo H1=>ti σ H1 λi H2=>t o i v H2 λH3=>Q σ H3
theorem Zr(ho:PE X o to)(hi:PE X i ti)(hs:cW X t)
  (ha:∀v,assign (.Subscript o i pos) X.env v=(do
   let ov ←holding [v] (eval o X.env)
   let iv ←holding [v,ov] (eval i X.env)
   standAt pos
   holding [v,ov,iv] (setItem ov iv v)
   release [v,ov,iv] []):=by intro _;rfl):PG X (.Subscript o i pos) (dU to ti t):=by
 intro pins s σ H v u Q I r h;rw[ha];refine AAA (AAr (thn (ho pins s σ H _ I h) λov s1 ⟨x,H1,I1,r1,q1⟩=>?_));refine AAA (AAr (thn (hi pins s1 σ H1 _ I1 q1) λiv s2 ⟨y,H2,I2,r2,q2⟩=>?_));refine AAA (wpAny_standAt (AAA (AAr (thn (hs pins s2 σ H2 x y v ov iv u _ I2 r1 r2 r q2) λ_ s3 ⟨H3,I3,q3⟩=>?_))));exact wpAny_release ⟨σ,H3,I3,q3⟩
noncomputable def Ti(te:TE)(g:TG):TS:=λD σ H=>te σ H λx H1=>g x σ H1 D.nx
theorem Zn(he:PE X e te)(hg:PG X tg g)(hs:swapsWithSole [tg] e pos.line X.env=pure false:=by rfl)(hw:swappedStores [tg] e X.env=pure none:=by rfl)
  (h1:(assignEach [tg] X.env).map (·.2)=[assign tg X.env]:=by rfl):PS X (.Assign [tg] e pos) (Ti te g):=by
 intro pins s σ H D I h;refine wpAny_Assign_stores (thn (he pins s σ H _ I h) λv s1 ⟨x,H1,I1,r1,q1⟩=>?_) hs hw;rw[h1];exact thn (hg pins s1 σ H1 x v _ I1 r1 q1) λ_ s2 q=>q
theorem Zk(hN:X.N.Nodup)(hi:X.N[i]?=some x)(hx:Loc X.env.scope x)(he:PE X e te)(hs:swapsWith e (some (.Name x pos')) pos.line X.env=pure false:=by rfl)(hf:X.fn x=true∨X.env.scope.names.lookup x=some .local:=by first|exact .inl rfl|exact .inr rfl|assumption):
  PS X (.Assign [.Name x pos'] e pos) (Ti te (Dh i)):=by
 intro pins s σ H D I h;refine wpAny_Assign_Name (thn (he pins s σ H _ I h) λv s1 ⟨y,H1,I1,r1,q1⟩=>?_) hs;exact Mr I1 hN hi hx r1 (λs2 I2=>⟨_,H1,I2,q1⟩) hf
end
section
variable{X:Cx}{pos:Pos}
noncomputable def ZQ(c:TT)(tb:TS):TS:=λD σ H=>∃W:Nat->St->Hp->Prop,(∃m,W m σ H)/\∀m σ H,W m σ H->
 c σ H λb H1=>if b=true then ∃N:St->Hp->Prop,(∀σ' H',N σ' H'->∃m',m'<m/\W m' σ' H')/\tb { D with nx:=N,ct:=N,bk:=D.nx } σ H1 else D.nx σ H1
theorem UO(hp:PassesOwn (model X.prog X.w) X.A X.env X.xe)(hc:PT X c tc)(hb:PSs X body tb):PS X (.While c body [] pos) (ZQ tc tb):=by
 intro pins s σ H D I h;obtain⟨W,⟨m0,w0⟩,turn⟩:=h;refine wpAny_While (codeAny_whileLoop (λn s'=>∃σ' H',Inv X pins σ' H' s'/\W n σ' H') ?_ m0 ⟨σ,H,I,w0⟩);rintro n s1 ⟨σ1,H1,I1,w1⟩;refine wpAny_passesOwn hp (thn (hc pins s1 σ1 H1 _ I1 (turn n σ1 H1 w1)) λb s2 ⟨H2,I2,q2⟩=>?_);cases b with
 |true=>
  obtain⟨N,hN,q2⟩:=q2;rw[if_pos rfl];refine wpAny_passesOwn hp (thn (hb pins s2 σ1 H2 _ I2 q2) λf s3 q3=>?_);cases f with
  |next=>
   obtain⟨σ3,H3,I3,n3⟩:=q3;obtain⟨m',hm,w3⟩:=hN σ3 H3 n3;exact⟨m',hm,σ3,H3,I3,w3⟩
  |cont=>
   obtain⟨σ3,H3,I3,n3⟩:=q3;obtain⟨m',hm,w3⟩:=hN σ3 H3 n3;exact⟨m',hm,σ3,H3,I3,w3⟩
  |brk=>exact q3
  |ret v=>exact q3
 |false=>
  rw[if_neg AAi];exact wpAny_execs_nil ⟨σ1,H2,I2,q2⟩
end
structure It where
 go:Nat->Hp->Prop
 yld:Nat->Hp->V->Hp->Prop
 stop:Nat->Hp->Prop
def Ew(X:Cx)(pins:List (Addr×Obj))(H:Hp)(b:Addr):Prop:=
 H b=none/\b≠X.env.locals/\b∉X.fs/\(b∈X.ex∨X.s₀.heap.objs.size<=b)/\(∀x c,X.env.cells.lookup x=some c->c≠b)/\∀p∈X.pn++pins,p.1≠b
theorem Inv.fpOk(I:Inv X pins σ H s)(hb:s.heap.objs.size<=b)(hn:H' b=none):Ew X pins H' b:=by
 refine⟨hn,Nat.ne_of_gt (AAN I.lt hb),I.nofs hb,.inr (AAv I.sz hb),λx c e z=>?_,λp hp z=>?_⟩
 ·obtain⟨v,q⟩:=I.cell x c e;exact absurd (AAN q.lt (by rw[z];exact hb)) (AA4 _)
 ·exact absurd (AAN (Heap.lt_size (I.pin p hp).1) (by rw[z];exact hb)) (AA4 _)
structure ML(P:Program)(w:World)(K:PySem.W.Frag)(tg:Expr)(J:It)(fp:List Addr)(it:Addr)(tn:Nat->Heap->Prop):Prop where
 mem:it∈fp
 obj:∀i h,tn i h->∀b∈fp,∃o,h.get? b=some o/\∀v,o.data≠.cell v
 keep:∀i h h',tn i h->(∀b∈fp,∀o,h.get? b=some o->h'.get? b=some o)->tn i h'
 item:∀(X:Cx),X.prog=P->X.w=w->X.K=K->X.calm=true->∀(i:Nat) (pins:List (Addr×Obj)) (s:Shared) (σ:St) (H:Hp) (E:Value->Shared->Prop),Inv X pins σ H s->(∀b∈fp,Ew X pins H b)->tn i s.heap->J.go i H->
  wpAny (model P w) X.A (pyNext (.ref it)) (λr s1=>∃u,r=some u /\
   wpAny (model P w) X.A (letOwnedTupleGo tg (.ref it) u) (λ_ s2=>∃x H',Inv X pins σ H' s2/\RelV x u/\J.yld i H x H'/\tn (i+1) s2.heap/\∀b∈fp,H' b=none) E s1) E s
 done:∀(X:Cx),X.prog=P->X.w=w->X.K=K->X.calm=true->∀(i:Nat) (pins:List (Addr×Obj)) (s:Shared) (σ:St) (H:Hp) (E:Value->Shared->Prop),Inv X pins σ H s->(∀b∈fp,Ew X pins H b)->tn i s.heap->J.stop i H->
  wpAny (model P w) X.A (pyNext (.ref it)) (λr s1=>r=none/\Inv X pins σ H s1) E s
 self:∀(A:Around) (i:Nat) (s:Shared) (Q:Value->Shared->Prop) (E:Value->Shared->Prop),tn i s.heap->Q (.ref it) s->wpAny (model P w) A (pyIter (.ref it)) Q E s
abbrev TI:=St->Hp->(It->Hp->Prop)->Prop
def PIE(X:Cx)(pins:List (Addr×Obj))(σ:St)(tg:Expr)(R:It->Hp->Prop)(itv:Value)(s2:Shared):Prop:=
 ∃(it:Addr) (fp:List Addr) (tn:Nat->Heap->Prop) (J:It) (H':Hp),itv=.ref it/\Inv X pins σ H' s2/\ML X.prog X.w X.K tg J fp it tn/\tn 0 s2.heap/\(∀b∈fp,Ew X pins H' b)/\R J H'
def PI(X:Cx)(tg iter:Expr)(wi:TI):Prop:=
 ∀(pins:List (Addr×Obj)) (s:Shared) (σ:St) (H:Hp) (R:It->Hp->Prop),Inv X pins σ H s->wi σ H R->
  wpAny (model X.prog X.w) X.A (eval iter X.env) (λv s1=>wpAny (model X.prog X.w) X.A (pyIter v) (PIE X pins σ tg R) X.xe s1) X.xe s
theorem VF(ho:s.heap.get? it=some o)(hc:o.cls=.type n)(hd:o.data=.fields vs)
  (hn:["enumerate", "zip", "dict_itemiterator", "dict_reverseitemiterator", "odict_iterator", "itertools.zip_longest", "itertools.pairwise"].contains n=false) (hQ:Q () s):wpAny M A (letOwnedTupleGo tg (.ref it) u) Q E s:=by
 unfold letOwnedTupleGo;cases tg<;>first
  |exact AAB hQ
  |(cases u<;>first
    |exact AAB hQ
    |(refine AAA (wpAny_load ho ?_);rw[hc,hd];show wpAny M A (if (["enumerate", "zip", "dict_itemiterator", "dict_reverseitemiterator", "odict_iterator", "itertools.zip_longest", "itertools.pairwise"].contains n&&vs[0]?==some (rawInt _))=true then _ else _) Q E s;rw[if_neg (by intro h;rw[hn,Bool.false_and] at h;cases h)];exact AAB hQ))
noncomputable def Itl(K:PySem.W.Frag)(a:Addr):It:=
 ⟨λi H=>∃xs x,SqL K H a xs/\xs[i]?=some x,λi H x H'=>H'=H/\∀xs,SqL K H a xs->xs[i]?=some x,λi H=>∃xs,SqL K H a xs/\xs.length<=i⟩
noncomputable def Itt(K:PySem.W.Frag)(a:Addr):It:=
 ⟨λi H=>∃xs x,SqT K H a xs/\xs[i]?=some x,λi H x H'=>H'=H/\∀xs,SqT K H a xs->xs[i]?=some x,λi H=>∃xs,SqT K H a xs/\xs.length<=i⟩
noncomputable def Itr(lo:Int)(n:Nat):It:=⟨λi _=>i<n,λi H x H'=>H'=H/\x=.int (lo+i),λi _=>n<=i⟩
theorem RH{P:Program}{w:World}{K:PySem.W.Frag}{tg:Expr}(a it:Addr):ML P w K tg (Itl K a) [it] it (λi h=>h.IsListIter it a i) where
 mem:=by simp
 obj:=λi h st b hb=>by
  have e:b=it:=by simpa using hb
  subst e;obtain⟨o,e,c,d⟩:=st;exact⟨o,e,λv z=>by rw[d] at z;cases z⟩
 keep:=λi h h' st k=>st.at λo e=>k it (by simp) o e
 item:=by
  intro X hP hw hK hc i pins s σ H E I hf st hg;subst hP hw hK;obtain⟨xs,x,hq,hx⟩:=hg;obtain⟨its,rv,p,hz⟩:=I.list hq;obtain⟨u,hu,ru⟩:=rv.get hx;obtain⟨f0,f1,f2,f3,f4,f5⟩:=hf it (by simp);refine wpAny_pyNext_list_item st p.isList (x:=u) (by simpa using hu) λh' st' sb=>?_;have I1:Inv X pins σ H { s with heap:=h' }:=I.turned (t':=s.toks) (λb o hb e=>(sb.2 b hb).trans e) f0 f1 f3 f4 f5;obtain⟨o,e,c,d⟩:=id st';exact⟨u,rfl,VF (s:={ s with heap:=h' }) e c d (by decide) ⟨x,H,I1,ru,⟨rfl,λys hy=>by rw[I.list_inj hy hq];exact hx⟩,st',λb hb=>(hf b hb).1⟩⟩
 done:=by
  intro X hP hw hK hc i pins s σ H E I hf st hg;subst hP hw hK;obtain⟨xs,hq,hx⟩:=hg;obtain⟨its,rv,p,hz⟩:=I.list hq;obtain⟨f0,f1,f2,f3,f4,f5⟩:=hf it (by simp);have hl:=rv.length;exact wpAny_pyNext_list_end (I.ok.hd hc) st p.isList (by simp;omega) λh' eb=>⟨rfl,I.turned (t':=s.toks) (λb o hb e=>eb b o hb e) f0 f1 f3 f4 f5⟩
 self:=λ_ _ _ _ _ st h=>wpAny_pyIter_listiter st h
theorem OR{P:Program}{w:World}{K:PySem.W.Frag}{tg:Expr}(a it:Addr):ML P w K tg (Itt K a) [it] it (λi h=>h.IsTupleIter it a i) where
 mem:=by simp
 obj:=λi h st b hb=>by
  have e:b=it:=by simpa using hb
  subst e;obtain⟨o,e,c,d⟩:=st;exact⟨o,e,λv z=>by rw[d] at z;cases z⟩
 keep:=λi h h' st k=>st.at λo e=>k it (by simp) o e
 item:=by
  intro X hP hw hK hc i pins s σ H E I hf st hg;subst hP hw hK;obtain⟨xs,x,hq,hx⟩:=hg;obtain⟨its,rv,p,hz⟩:=I.tuple hq;obtain⟨u,hu,ru⟩:=rv.get hx;obtain⟨f0,f1,f2,f3,f4,f5⟩:=hf it (by simp);refine wpAny_pyNext_tuple_item st (show s.heap.IsTuple a its.toArray from p) (x:=u) (by simpa using hu) λh' st' sb=>?_;have I1:Inv X pins σ H { s with heap:=h' }:=I.turned (t':=s.toks) (λb o hb e=>(sb.2 b hb).trans e) f0 f1 f3 f4 f5;obtain⟨o,e,c,d⟩:=id st';exact⟨u,rfl,VF (s:={ s with heap:=h' }) e c d (by decide) ⟨x,H,I1,ru,⟨rfl,λys hy=>by rw[I.tuple_inj hy hq];exact hx⟩,st',λb hb=>(hf b hb).1⟩⟩
 done:=by
  intro X hP hw hK hc i pins s σ H E I hf st hg;subst hP hw hK;obtain⟨xs,hq,hx⟩:=hg;obtain⟨its,rv,p,hz⟩:=I.tuple hq;obtain⟨f0,f1,f2,f3,f4,f5⟩:=hf it (by simp);have hl:=rv.length;exact wpAny_pyNext_tuple_end (I.ok.hd hc) st (show s.heap.IsTuple a its.toArray from p) (by simp;omega) λh' eb=>⟨rfl,I.turned (t':=s.toks) (λb o hb e=>eb b o hb e) f0 f1 f3 f4 f5⟩
 self:=λ_ _ _ _ _ st h=>wpAny_pyIter_tupleiter st h
theorem OS{P:Program}{w:World}{K:PySem.W.Frag}{tg:Expr}(it:Addr)(lo:Int)(n:Nat):ML P w K tg (Itr lo n) [it] it (λi h=>IsRangeIter h it (lo+(i:Nat) * 1) ((n:Int)-(i:Nat)) 1) where
 mem:=by simp
 obj:=λi h st b hb=>by
  have e:b=it:=by simpa using hb
  subst e;exact⟨_,st,λv z=>by
   have z':Data.fields _=Data.cell v:=z;cases z'⟩
 keep:=λi h h' st k=>k it (by simp) _ st
 item:=by
  intro X hP hw hK hc i pins s σ H E I hf st hg;subst hP hw hK;obtain⟨f0,f1,f2,f3,f4,f5⟩:=hf it (by simp);have W:=Walks.range (prog:=X.prog) (w:=X.w) (I.ok.hd hc) it lo 1 n;refine W.item i s _ _ hg st λv h' tk hv st' kk=>?_;obtain⟨t,rfl⟩:=hv;have I1:Inv X pins σ H { s with heap:=h',toks:=tk }:=I.turned (λb o hb e=>kk b o (by simpa using hb) e) f0 f1 f3 f4 f5;refine⟨_,rfl,VF (s:={ s with heap:=h',toks:=tk }) (n := "range_iterator") st' rfl rfl (by decide) ⟨.int (lo+i),H,I1,⟨t,?_⟩,⟨rfl,rfl⟩,st',λb hb=>(hf b hb).1⟩⟩;rw[Int.mul_one]
 done:=by
  intro X hP hw hK hc i pins s σ H E I hf st hg;subst hP hw hK;obtain⟨f0,f1,f2,f3,f4,f5⟩:=hf it (by simp);exact wpAny_pyNext_range_end (I.ok.hd hc) st (by have:n<=i:=hg;omega) λh' eb=>⟨rfl,I.turned (t':=s.toks) (λb o hb e=>eb b o hb e) f0 f1 f3 f4 f5⟩
 self:=λ_ _ _ _ _ st h=>wpAny_pyIter_rangeiter st h
section
variable{X:Cx}{tg:Expr}
noncomputable def Yq(K:PySem.W.Frag)(tl:TE):TI:=λσ H R=>tl σ H λx H1=>∃a,x=.ref a/\(∃xs,SqL K H1 a xs)/\R (Itl K a) H1
noncomputable def cH(K:PySem.W.Frag)(tl:TE):TI:=λσ H R=>tl σ H λx H1=>∃a,x=.ref a/\(∃xs,SqT K H1 a xs)/\R (Itt K a) H1
theorem Ls{l:Expr}{tl:TE}(hl:PE X l tl):PI X tg l (Yq X.K tl):=by
 intro pins s σ H R I h;refine thn (hl pins s σ H _ I h) λv s1 ⟨x,H1,I1,r1,q1⟩=>?_;obtain⟨a,e,⟨xs,hq⟩,q⟩:=q1;subst e;cases r1;obtain⟨its,rv,p,hz⟩:=I1.list hq;refine wpAny_pyIter_list p.isList ?_;refine⟨s1.heap.objs.size,[s1.heap.objs.size],_,_,H1,rfl,I1.kept (t':=s1.toks) λb o e=>AAC _ e,RH a _,⟨_,AAD _ rfl,rfl,rfl⟩,λb hb=>?_,q⟩;have e:b=s1.heap.objs.size:=by simpa using hb
 subst e;exact I1.fpOk (AAF _) (I1.hok.fresh (AAF _))
theorem Zq{l:Expr}{tl:TE}(hl:PE X l tl):PI X tg l (cH X.K tl):=by
 intro pins s σ H R I h;refine thn (hl pins s σ H _ I h) λv s1 ⟨x,H1,I1,r1,q1⟩=>?_;obtain⟨a,e,⟨xs,hq⟩,q⟩:=q1;subst e;cases r1;obtain⟨its,rv,p,hz⟩:=I1.tuple hq;refine wpAny_pyIter_tuple (show s1.heap.IsTuple a its.toArray from p) ?_;refine⟨s1.heap.objs.size,[s1.heap.objs.size],_,_,H1,rfl,I1.kept (t':=s1.toks) λb o e=>AAC _ e,OR a _,⟨_,AAD _ rfl,rfl,rfl⟩,λb hb=>?_,q⟩;have e:b=s1.heap.objs.size:=by simpa using hb
 subst e;exact I1.fpOk (AAF _) (I1.hok.fresh (AAF _))
theorem UI{pins:List (Addr×Obj)}{σ:St}{H:Hp}{s:Shared}{lo hi:Int}{t u v:Tok}{tk:Nat}(I:Inv X pins σ H s)(h1:-(2 ^ 62)<=lo)(h2:lo<2 ^ 62)(h3:-(2 ^ 62)<=hi)(h4:hi<2 ^ 62)
  (q:R (Itr lo (hi-lo).toNat) H):wpAny (model X.prog X.w) X.A (pyIter (.ref s.heap.objs.size)) (PIE X pins σ tg R) E { s with heap:=s.heap.push { cls:=.type "range",data:=.fields #[.int lo t,.int hi u,.int 1 v] },toks:=tk }:=by
 refine wpAny_pyIter_range (IsRange.new ..) (small_one h1 h2 h3 h4) ?_;have I1:Inv X pins σ H { s with heap:=s.heap.push { cls:=.type "range",data:=.fields #[.int lo t,.int hi u,.int 1 v] },toks:=tk }:=I.kept λb o e=>AAC _ e;refine⟨(s.heap.push { cls:=.type "range",data:=.fields #[.int lo t,.int hi u,.int 1 v] }).objs.size,[(s.heap.push { cls:=.type "range",data:=.fields #[.int lo t,.int hi u,.int 1 v] }).objs.size],_,_,H,rfl,
  I1.kept (t':=tk) λb o e=>AAC _ e,OS _ lo (hi-lo).toNat,?_,λb hb=>?_,q⟩
 ·have e1:lo+((0:Nat):Int) * 1=lo:=by simp
  have e2:(((hi-lo).toNat:Nat):Int)-((0:Nat):Int)=Builtin.Range.rangeSize lo hi 1:=by rw[rangeSize_one];split<;>omega
  show IsRangeIter _ _ (lo+((0:Nat):Int) * 1) ((((hi-lo).toNat:Nat):Int)-((0:Nat):Int)) 1;rw[e1,e2];exact AAD _ rfl
 ·have e:b=(s.heap.push { cls:=.type "range",data:=.fields #[.int lo t,.int hi u,.int 1 v] }).objs.size:=by simpa using hb
  subst e;exact I1.fpOk (AAF _) (I1.hok.fresh (AAF _))
noncomputable def cI(ta:TA):TI:=λσ H R=>ta σ H λvs H1=>∃j:Int,vs=[.int j]/\-(2 ^ 62)<=j/\j<2 ^ 62/\R (Itr 0 j.toNat) H1
theorem Rh{a:Expr}{p pos:Pos}(hg:Gl X "range")(hm:X.mg "range" = none)(ha:PA X [a] ta)(hs:starEach [a] X.env=[(false,eval a X.env)]:=by rfl):PI X tg (.Call (.Name "range" p) [a] [] pos) (cI ta):=by
 intro pins s σ H R I h;refine Call_ (FN I hg hm boot_range (PyProof.Rows.callWith_type1 (thn (ha pos pins s σ H _ I h) λus s1 ⟨vs,H1,I1,r1,q1⟩=>?_) hs rfl));obtain⟨j,e,q1,q2,q⟩:=q1;subst e;cases r1 with
 |cons r rr=>
  cases rr;obtain⟨t,rfl⟩:=r;exact call_range_1 (UI I1 (by omega) (by omega) q1 q2 (by simpa using q))
noncomputable def cq(wi:TI)(g:TG)(tb:TS):TS:=λD σ H=>wi σ H λJ H1=>∃W:Nat->Nat->St->Hp->Prop,(∃m,W 0 m σ H1)/\∀i m σ H,W i m σ H->
 (J.stop i H/\D.nx σ H)∨(J.go i H/\∃N:St->Hp->Prop,(∀σ' H',N σ' H'->∃m',m'<m/\W (i+1) m' σ' H')/\∀x H',J.yld i H x H'->g x σ H' λσ2 H2=>tb { D with nx:=N,ct:=N,bk:=D.nx } σ2 H2)
noncomputable def Lr(fp:List Addr)(h:Heap):List (Addr×Obj):=fp.filterMap λb=>(h.get? b).map λo=>(b,o)
theorem Bb(hb:b∈fp)(e:h.get? b=some o):(b,o)∈Lr fp h:=List.mem_filterMap.mpr ⟨b,hb,by rw[e];rfl⟩
theorem Rl(hp:p∈Lr fp h):p.1∈fp/\h.get? p.1=some p.2:=by
 obtain⟨b,hb,e⟩:=List.mem_filterMap.mp hp;cases q:h.get? b with
 |none=>rw[q] at e;cases e
 |some o=>
  rw[q] at e;have e':(b,o)=p:=Option.some.inj e;subst e';exact⟨hb,q⟩
theorem Inv.pinned(I:Inv X pins σ H s)(hf:∀b∈fp,Ew X pins H b)(ho:∀b∈fp,∃o,s.heap.get? b=some o/\∀v,o.data≠.cell v):Inv X (pins++Lr fp s.heap) σ H s:=
 I.pins_of λp hp=>(AAK.mp hp).elim (λz=>I.pin p (AAc _ z)) λz=>by
  obtain⟨hb,e⟩:=Rl z;obtain⟨f0,f1,f2,_⟩:=hf p.1 hb;obtain⟨o,e',d⟩:=ho p.1 hb;rw[e] at e';cases e';exact⟨e,f0,f1,f2,d⟩
theorem Inv.unpinned(I:Inv X (pins++pl) σ H s):Inv X pins σ H s:=I.pins_of λp hp=>I.pin p (AAc _ (AAd _ hp))
theorem UQ(hp:PassesOwn (model X.prog X.w) X.A X.env X.xe)(hc:X.calm=true)(hi:PI X tg iter wi)(hg:PG X tg g)(hb:PSs X body tb)
  (hs:∀x,foldedSetIterable iter X.env x=pure x:=by intro _;rfl):PS X (.For tg iter body [] pos) (cq wi g tb):=by
 intro pins s σ H D I h;refine wpAny_For (thn (hi pins s σ H _ I h) λv s1 h1=>thn h1 λitv s2 h2=>?_) hs;obtain⟨it,fp,tn,J,H2,e,I2,T,st2,f2,W,⟨m0,w0⟩,turn⟩:=h2;subst e;have stat:∀{H':Hp},(∀b∈fp,H' b=none)->∀b∈fp,Ew X pins H' b:=λhn b hb=>⟨hn b hb,(f2 b hb).2⟩;refine codeAny_forLoop_any (λn s'=>∃i σ' H',Inv X pins σ' H' s'/\tn i s'.heap/\(∀b∈fp,H' b=none)/\W i n σ' H') ?_ m0 ⟨0,σ,H2,I2,st2,λb hb=>(f2 b hb).1,w0⟩;rintro n s3 ⟨i,σ3,H3,I3,st3,fr3,w3⟩;rcases turn i n σ3 H3 w3 with ⟨stop,qn⟩|⟨go,N,hN,step⟩
 ·refine wpAny_passesOwn hp (thn (T.done X rfl rfl rfl hc i pins s3 σ3 H3 X.xe I3 (stat fr3) st3 stop) λr s4 ⟨hr,I4⟩=>?_);subst hr;exact wpAny_execs_nil ⟨σ3,H3,I4,qn⟩
 ·refine wpAny_passesOwn hp (thn (T.item X rfl rfl rfl hc i pins s3 σ3 H3 X.xe I3 (stat fr3) st3 go) λr s4 ⟨u,hr,h4⟩=>?_);subst hr;refine wpAny_passesOwn hp (thn h4 λ_ s5 zz=>?_);obtain⟨x,H5,I5,r5,y5,st5,fr5⟩:=zz;have I5':=I5.pinned (stat fr5) (T.obj _ _ st5);refine wpAny_passesOwn hp (thn (hg _ s5 σ3 H5 x u _ I5' r5 (step x H5 y5)) λ_ s6 ⟨σ6,H6,I6,q6⟩=>?_);refine wpAny_passesOwn hp (thn (hb _ s6 σ6 H6 _ I6 q6) λf s7 q7=>?_);have again:∀{σ7:St} {H7:Hp},Inv X (pins++Lr fp s5.heap) σ7 H7 s7->N σ7 H7->∃m,m<n/\∃i σ' H',Inv X pins σ' H' s7/\tn i s7.heap/\(∀b∈fp,H' b=none)/\W i m σ' H':=λ{σ7 H7} I7 n7=>by
   obtain⟨m',hm,w7⟩:=hN σ7 H7 n7;refine⟨m',hm,i+1,σ7,H7,I7.unpinned,T.keep _ _ _ st5 λb hb o e=>(I7.pin (b,o) (AAc _ (AAc _ (Bb hb e)))).1,λb hb=>?_,w7⟩;obtain⟨o,e,d⟩:=T.obj _ _ st5 b hb;exact(I7.pin (b,o) (AAc _ (AAc _ (Bb hb e)))).2.1
  cases f with
  |next=>obtain⟨σ7,H7,I7,n7⟩:=q7;exact again I7 n7
  |cont=>obtain⟨σ7,H7,I7,n7⟩:=q7;exact again I7 n7
  |brk=>obtain⟨σ7,H7,I7,q7⟩:=q7;exact⟨σ7,H7,I7.unpinned,q7⟩
  |ret v=>obtain⟨x7,σ7,H7,I7,r7,q7⟩:=q7;exact⟨x7,σ7,H7,I7.unpinned,r7,q7⟩
end
abbrev R2:=V->V->Hp->VK->Prop
def OpR(X:Cx)(f:Value->Value->Sem Value)(r:R2):Prop:=
 ∀(pins:List (Addr×Obj)) (s:Shared) (σ:St) (H:Hp) (x y:V) (v u:Value) (Q:VK),Inv X pins σ H s->RelV x v->RelV y u->r x y H Q->
  wpAny (model X.prog X.w) X.A (f v u) (EP X pins σ Q) X.xe s
def UnR(X:Cx)(f:Value->Sem Value)(r:V->Hp->VK->Prop):Prop:=
 ∀(pins:List (Addr×Obj)) (s:Shared) (σ:St) (H:Hp) (x:V) (v:Value) (Q:VK),Inv X pins σ H s->RelV x v->r x H Q->
  wpAny (model X.prog X.w) X.A (f v) (EP X pins σ Q) X.xe s
def CT(X:Cx)(f:Value)(r:List V->Hp->VK->Prop):Prop:=
 ∀(pins:List (Addr×Obj)) (s:Shared) (σ:St) (H:Hp) (xs:List V) (us:List Value) (Q:VK),Inv X pins σ H s->Vals xs us->r xs H Q->
  wpAny (model X.prog X.w) X.A (call f us) (EP X pins σ Q) X.xe s
noncomputable def tOp(r:R2)(ta tb:TE):TE:=λσ H Q=>ta σ H λx H1=>tb σ H1 λy H2=>r x y H2 Q
noncomputable def tUn(r:V->Hp->VK->Prop)(ta:TE):TE:=λσ H Q=>ta σ H λx H1=>r x H1 Q
noncomputable def rI(C:Int->Int->Prop)(g:Int->Int->V):R2:=λx y H Q=>∃i j,x=.int i/\y=.int j/\C i j/\Q (g i j) H
noncomputable def rI0(g:Int->Int->V):R2:=λx y H Q=>∃i j,x=.int i/\y=.int j/\Q (g i j) H
noncomputable def rU(g:Int->V):V->Hp->VK->Prop:=λx H Q=>∃i,x=.int i/\Q (g i) H
section
variable{X:Cx}{a b:Expr}{ta tb:TE}{pos:Pos}
theorem ah(ha:PE X a ta)(hb:PE X b tb){pins:List (Addr×Obj)}{s:Shared}{H:Hp}{R:V->V->Hp->Prop}(I:Inv X pins σ H s)
  (h:ta σ H λx H1=>tb σ H1 λy H2=>R x y H2) {Q:Value->Shared->Prop} {f:Value->Value->Sem Value}
  (hf:∀v u s2 x y H2,Inv X pins σ H2 s2->RelV x v->RelV y u->R x y H2->wpAny (model X.prog X.w) X.A (f v u) Q X.xe s2) :
  wpAny (model X.prog X.w) X.A (eval a X.env) (λv s₁=>wpAny (model X.prog X.w) X.A (eval b X.env) (λu s₂=>wpAny (model X.prog X.w) X.A (f v u) Q X.xe s₂) X.xe s₁) X.xe s:=by
 refine thn (ha pins s σ H _ I h) λv s1 ⟨x,H1,I1,r1,q1⟩=>?_;refine thn (hb pins s1 σ H1 _ I1 q1) λu s2 ⟨y,H2,I2,r2,q2⟩=>?_;exact hf v u s2 x y H2 I2 r1 r2 q2
theorem bb{op:Operator}{r:R2}(ho:OpR X (binaryOp op) r)(ha:PE X a ta)(hb:PE X b tb):PE X (.BinOp a op b pos) (tOp r ta tb):=by
 intro pins s σ H Q I h;exact wpAny_BinOp (ah ha hb I h λv u s2 x y H2 I2 rx ry q=>ho pins s2 σ H2 x y v u Q I2 rx ry q)
theorem ba(ho:UnR X (unaryOp op) r)(ha:PE X a ta):PE X (.UnaryOp op a pos) (tUn r ta):=by
 intro pins s σ H Q I h;exact UnaryOp_ (thn (ha pins s σ H _ I h) λv s1 ⟨x,H1,I1,r1,q1⟩=>ho pins s1 σ H1 x v Q I1 r1 q1)
theorem opI{f:Value->Value->Sem Value}{g:Int->Int->Int}
  (rule:∀(i j:Int) (t u:Tok) (s:Shared) (Q:Value->Shared->Prop) (E:Value->Shared->Prop),C i j->Q (.int (g i j) s.toks) { s with toks:=s.toks+1 }->wpAny (model X.prog X.w) X.A (f (.int i t) (.int j u)) Q E s) :
  OpR X f (rI C λi j=>.int (g i j)):=by
 intro pins s σ H x y v u Q I rx ry h;obtain⟨i,j,rfl,rfl,hc,q⟩:=h;obtain⟨t,rfl⟩:=rx;obtain⟨t',rfl⟩:=ry;exact rule i j t t' s _ _ hc ⟨.int (g i j),H,I.tok _,⟨_,rfl⟩,q⟩
theorem bn{g:Int->Int->Int}
  (rule:∀(i j:Int) (t u:Tok) (s:Shared) (Q:Value->Shared->Prop) (E:Value->Shared->Prop),Q (.int (g i j) s.toks) { s with toks:=s.toks+1 }->wpAny (model X.prog X.w) X.A (f (.int i t) (.int j u)) Q E s) :
  OpR X f (rI0 λi j=>.int (g i j)):=by
 intro pins s σ H x y v u Q I rx ry h;obtain⟨i,j,rfl,rfl,q⟩:=h;obtain⟨t,rfl⟩:=rx;obtain⟨t',rfl⟩:=ry;exact rule i j t t' s _ _ ⟨.int (g i j),H,I.tok _,⟨_,rfl⟩,q⟩
theorem Xh{g:Int->Int->Bool}
  (rule:∀(i j:Int) (t u:Tok) (s:Shared) (Q:Value->Shared->Prop) (E:Value->Shared->Prop),Q (.bool (g i j)) s->wpAny (model X.prog X.w) X.A (f (.int i t) (.int j u)) Q E s) :
  OpR X f (rI0 λi j=>.bl (g i j)):=by
 intro pins s σ H x y v u Q I rx ry h;obtain⟨i,j,rfl,rfl,q⟩:=h;obtain⟨t,rfl⟩:=rx;obtain⟨t',rfl⟩:=ry;exact rule i j t t' s _ _ ⟨.bl (g i j),H,I,rfl,q⟩
def df(i j:Int):Prop:=0<j/\j<1073741824
def de(i j:Int):Prop:=0<=j/\j<=1000000/\i.natAbs<2 ^ 64
def CMul(i j:Int):Prop:=(-(2 ^ 64)<i/\i<2 ^ 64)∨(-(2 ^ 64)<j/\j<2 ^ 64)
theorem CMul.ok(h:CMul i j):IntMulOk i j:=by
 rcases h with ⟨h1,h2⟩|⟨h1,h2⟩
 ·exact .of_left (intBits_le_64 h1 h2)
 ·exact .of_right (intBits_le_64 h1 h2)
theorem aA:OpR X (binaryOp .Add) (rI0 λi j=>.int (i+j)):=bn λ_ _ _ _ _ _ _ q=>add_int q
theorem Z2:OpR X (binaryOp .Sub) (rI0 λi j=>.int (i-j)):=bn λ_ _ _ _ _ _ _ q=>sub_int q
theorem Z6:OpR X (binaryOp .Mult) (rI CMul λi j=>.int (i * j)):=opI λ_ _ _ _ _ _ _ hc q=>mul_int q hc.ok
theorem Xf:OpR X (binaryOp .FloorDiv) (rI df λi j=>.int (i / j)):=opI λi j _ _ _ _ _ hc q=>by
 have h1:(0:Int)<j:=hc.1;have h2:j<1073741824:=hc.2;exact floordiv_int (by omega) (by rw[Int.fdiv_eq_ediv_of_nonneg i (by omega)];exact q) (.inl (PyProof.noPylong_small (by omega)))
theorem Z7:OpR X (binaryOp .Mod) (rI (λ_ j=>0<j) λi j=>.int (i % j)):=opI λi j _ _ _ _ _ hc q=>by
 have h1:(0:Int)<j:=hc;exact mod_int' (by omega) (by rw[Int.fmod_eq_emod_of_nonneg i (by omega)];exact q)
theorem Z4:OpR X (binaryOp .Pow) (rI de λi j=>.int (i ^ j.toNat)):=opI λ_ _ _ _ _ _ _ hc q=>pow_int_small hc.1 hc.2.1 hc.2.2 q
theorem unI{g:Int->Int}
  (rule:∀(i:Int) (t:Tok) (s:Shared) (Q:Value->Shared->Prop) (E:Value->Shared->Prop),Q (.int (g i) s.toks) { s with toks:=s.toks+1 }->wpAny (model X.prog X.w) X.A (f (.int i t)) Q E s) :
  UnR X f (rU λi=>.int (g i)):=by
 intro pins s σ H x v Q I rx h;obtain⟨i,rfl,q⟩:=h;obtain⟨t,rfl⟩:=rx;exact rule i t s _ _ ⟨.int (g i),H,I.tok _,⟨_,rfl⟩,q⟩
theorem ZK:UnR X (unaryOp .USub) (rU λi=>.int (-i)):=unI λ_ _ _ _ _ q=>neg_int q
end
section
variable{X:Cx}{a b c:Expr}{ta tb tc:TE}{pos:Pos}
theorem MA(I:Inv X pins σ H s)(q:Q (.bl k) H)(e:k=k'):EP X pins σ Q (.bool k') s:=by
 subst e;exact⟨.bl k,H,I,rfl,q⟩
theorem be:OpR X (compareOp .Lt) (rI0 λi j=>.bl (decide (i<j))):=Xh λ_ _ _ _ _ _ _ q=>lt_int q
theorem bh:OpR X (compareOp .LtE) (rI0 λi j=>.bl (decide (i<=j))):=Xh λ_ _ _ _ _ _ _ q=>le_int q
theorem bj:OpR X (compareOp .Gt) (rI0 λi j=>.bl (decide (j<i))):=Xh λ_ _ _ _ _ _ _ q=>gt_int q
theorem bm:OpR X (compareOp .GtE) (rI0 λi j=>.bl (decide (j<=i))):=Xh λ_ _ _ _ _ _ _ q=>ge_int q
theorem Rj:OpR X (compareOp .In) (λx y H Q=>∃i j,x=.str i/\y=.str j/\Q (.bl (!(Builtin.Str.occurrences j i 0 j.length 1).isEmpty)) H):=by
 intro pins s σ H x y v u Q I rx ry h;obtain⟨i,j,rfl,rfl,q⟩:=h;obtain⟨t,rfl⟩:=rx;obtain⟨t',rfl⟩:=ry;exact in_str (MA I q rfl)
theorem Z8:OpR X (compareOp .Is) (λx y H Q=>y=.non/\Q (.bl (decide (x=.non))) H):=by
 intro pins s σ H x y v u Q I rx ry h;obtain⟨rfl,q⟩:=h;cases ry;refine is_none_gen (MA I q ?_);cases x<;>first
  |(cases rx;rfl)
  |(obtain⟨t,rfl⟩:=rx;rfl)
theorem Xe:OpR X (compareOp .IsNot) (λx y H Q=>y=.non/\Q (.bl (!decide (x=.non))) H):=by
 intro pins s σ H x y v u Q I rx ry h;obtain⟨rfl,q⟩:=h;cases ry;refine isnot_none_gen (MA I q ?_);cases x<;>first
  |(cases rx;rfl)
  |(obtain⟨t,rfl⟩:=rx;rfl)
theorem Lw:OpR X (compareOp .NotIn) (λx y H Q=>∃i j,x=.str i/\y=.str j/\Q (.bl (!(!(Builtin.Str.occurrences j i 0 j.length 1).isEmpty))) H):=by
 intro pins s σ H x y v u Q I rx ry h;obtain⟨i,j,rfl,rfl,q⟩:=h;obtain⟨t,rfl⟩:=rx;obtain⟨t',rfl⟩:=ry;exact notIn_str (MA I q rfl)
theorem Uq(b:Expr)(h:op≠.In:=by decide)(h2:op≠.NotIn:=by decide):behindInMarks op b=false:=by
 have e1:(op==CmpOp.In)=false:=by cases op<;>first|rfl|exact absurd rfl h
 have e2:(op==CmpOp.NotIn)=false:=by cases op<;>first|rfl|exact absurd rfl h2
 cases b<;>simp[behindInMarks,e1,e2]
theorem Xa{r:R2}(ho:OpR X (compareOp op) r)(ha:PE X a ta)(hb:PE X b tb)(hm:behindInMarks op b=false):PE X (.Compare a [op] [b] pos) (tOp r ta tb):=by
 intro pins s σ H Q I h;exact wpAny_Compare1 (ah ha hb I h λv u s2 x y H2 I2 rx ry q=>ho pins s2 σ H2 x y v u Q I2 rx ry q) hm
noncomputable def a7(t:TE):TT:=λσ H Q=>t σ H λx H'=>∃k,x=.bl k/\Q k H'
theorem XG(ho:OpR X (compareOp op) r)(ha:PE X a ta)(hb:PE X b tb)(hm:behindInMarks op b=false):PT X (.Compare a [op] [b] pos) (a7 (tOp r ta tb)):=by
 intro pins s σ H Q I h;refine wpAny_isTrue_Compare1 (thn (ha pins s σ H _ I h) λv s1 ⟨x,H1,I1,r1,q1⟩=>thn (hb pins s1 σ H1 _ I1 q1) λu s2 ⟨y,H2,I2,r2,q2⟩=>
  thn (ho pins s2 σ H2 x y v u _ I2 r1 r2 q2) λc s3 ⟨z,H3,I3,r3,k,e,q3⟩=>?_) hm
 subst e;cases r3;exact wpAny_truthy_bool ⟨H3,I3,q3⟩
noncomputable def Th(r r':R2)(ta tb tc:TE):TE:=λσ H Q=>ta σ H λx H1=>tb σ H1 λy H2=>r x y H2 λz H3=>∃k,z=.bl k /\
 (if k=true then tc σ H3 λw' H4=>r' y w' H4 Q else Q (.bl false) H3)
theorem Ug(ho:OpR X (compareOp op) r)(ho':OpR X (compareOp op') r')(ha:PE X a ta)(hb:PE X b tb)(hc:PE X c tc)
  (hm:lastMarks [op,op'] [b,c]=false:=by with_unfolding_all rfl):PE X (.Compare a [op,op'] [b,c] pos) (Th r r' ta tb tc):=by
 intro pins s σ H Q I h;refine Compare_chain (thn (ha pins s σ H _ I h) λv s1 ⟨x,H1,I1,r1,q1⟩=>chain_link (thn (hb pins s1 σ H1 _ I1 q1) λu s2 ⟨y,H2,I2,r2,q2⟩=>
  thn (ho pins s2 σ H2 x y v u _ I2 r1 r2 q2) λd s3 ⟨z,H3,I3,r3,k,e,q3⟩=>?_)) hm
 subst e;cases r3;refine wpAny_truthy_bool ?_;cases k with
 |false=>exact ite_ff ⟨.bl false,H3,I3,rfl,q3⟩
 |true=>exact ite_tt (chain_last (thn (hc pins s3 σ H3 _ I3 q3) λw' s4 ⟨z',H4,I4,r4,q4⟩=>ho' pins s4 σ H4 y z' u w' Q I4 r2 r4 q4))
theorem HG:(sizeLine:Nat)<2 ^ 63:=by rw[sizeLine_eq];decide
theorem Ol:OpR X (binaryOp .Add) (λx y H Q=>∃i j,x=.str i/\y=.str j/\i.length+j.length<=sizeLine/\Q (.str (i++j)) H):=by
 intro pins s σ H x y v u Q I rx ry h;obtain⟨i,j,rfl,rfl,hz,q⟩:=h;obtain⟨t,rfl⟩:=rx;obtain⟨t',rfl⟩:=ry;exact add_str (λt' tk=>⟨.str (i++j),H,I.tok _,⟨_,rfl⟩,q⟩) hz
theorem Ih(r:Vals [x] us):∃u,us=[u]/\RelV x u:=by
 cases r with
 |cons r1 r2=>cases r2;exact⟨_,rfl,r1⟩
theorem az(r:Vals [x,y] us):∃u w',us=[u,w']/\RelV x u/\RelV y w':=by
 cases r with
 |cons r1 r2=>
  cases r2 with
  |cons r3 r4=>cases r4;exact⟨_,_,rfl,r1,r3⟩
theorem SK:CT X (.type "int") (λxs H Q=>(∃i,xs=[.int i]/\Q (.int i) H)∨∃k,xs=[.bl k]/\Q (.int (if k then 1 else 0)) H):=by
 intro pins s σ H xs us Q I r h;rcases h with ⟨i,rfl,q⟩|⟨k,rfl,q⟩
 ·obtain⟨u,rfl,t,rfl⟩:=Ih r;exact call_int_int ⟨.int i,H,I,⟨_,rfl⟩,q⟩
 ·obtain⟨u,rfl,r1⟩:=Ih r;cases r1;exact call_int_bool ⟨.int (if k then 1 else 0),H,I.tok _,⟨_,rfl⟩,q⟩
def dZ(K:PySem.W.Frag)(x:V)(H:Hp)(n:Nat):Prop:=
 match x with
 | .str y=>y.length<=sizeLine/\n=y.length
 | .byt y=>y.size<=sizeLine/\n=y.size
 | .ref p=>(∃xs,SqL K H p xs/\n=xs.length)∨∃xs,SqT K H p xs/\n=xs.length
 |_=>False
theorem Vh:CT X (.builtin "len") (λxs H Q=>∃x n,xs=[x]/\dZ X.K x H n/\Q (.int n) H):=by
 intro pins s σ H xs us Q I r h;obtain⟨x,n,rfl,e,q⟩:=h;obtain⟨u,rfl,rx⟩:=Ih r;have hl:=HG;have hs:sizeLine=16777216:=sizeLine_eq;cases x with
 |str y=>
  obtain⟨t,rfl⟩:=rx;obtain⟨hy,e'⟩:y.length<=sizeLine/\n=y.length:=e;subst e';exact len_str (by omega) ⟨.int _,H,I.tok _,⟨_,rfl⟩,q⟩
 |byt y=>
  obtain⟨t,rfl⟩:=rx;obtain⟨hy,e'⟩:y.size<=sizeLine/\n=y.size:=e;subst e';exact PySem.W.len_bytes (by omega) ⟨.int _,H,I.tok _,⟨_,rfl⟩,q⟩
 |ref p=>
  cases rx;have e':(∃xs,SqL X.K H p xs/\n=xs.length)∨∃xs,SqT X.K H p xs/\n=xs.length:=e;rcases e' with ⟨xs,hx,e'⟩|⟨xs,hx,e'⟩
  ·subst e';obtain⟨its,r',pl,hz⟩:=I.list hx;have hlen:=r'.length;exact Calls.call_len_list pl.isList (by simp only[List.size_toArray];omega) ⟨.int xs.length,H,I.tok _,⟨_,by simp only[List.size_toArray];rw[hlen]⟩,q⟩
  ·subst e';obtain⟨its,r',pl,hz⟩:=I.tuple hx;have hlen:=r'.length;exact len_tuple pl (by simp only[List.size_toArray];omega) ⟨.int xs.length,H,I.tok _,⟨_,by simp only[List.size_toArray];rw[hlen]⟩,q⟩
 |_=>exact(show False from e).elim
end
structure ObjM(h:Heap)(x dx C:Addr)(mA:Str->Option Value):Prop where
 obj:h.get? x=some (PySem.W.instObj C dx)
 ns:h.Ns1 dx mA
 ne:dx≠x
theorem Rr{h:Heap}{dx:Addr}{mA:Str->Option Value}(n:h.Ns1 dx mA):∃od,h.get? dx=some od/\∀name,PySem.W.lookIn name od=some (mA name):=by
 obtain⟨o,es,ep,ho,hd,hk,_,hm⟩:=n;refine⟨o,ho,λname=>?_⟩;have e:=hm name;unfold nsFind findBy at e;rw[←Array.find?_toList] at e;unfold PySem.W.lookIn;rw[hd];dsimp only;split
 ·rename_i y q;rw[q] at e;exact congrArg some e
 ·rename_i q;rw[q] at e;have a:es.toList.any (·.refKey)=false:=by
   rw[List.any_eq_false];intro y hy;obtain⟨z,t,hkey⟩:=hk y (Array.mem_toList_iff.mp hy);simp[DictEntry.refKey,hkey]
  have a':¬es.toList.any (·.refKey)=true:=by rw[a];exact AAi
  rw[if_neg a'];exact congrArg some e
theorem ObjM.look(I:ObjM h x dx C mA):∃od,PySem.W.InstAt h x (PySem.W.instObj C dx) C (some od)/\∀name,PySem.W.lookIn name od=some (mA name):=
 let ⟨od,ho,hl⟩:=Rr I.ns
 ⟨od,⟨I.obj,rfl,rfl,ho⟩,hl⟩
section
variable{prog:Program}{w:World}{A:Around}{E:Value->Shared->Prop}{s:Shared}{K:PySem.W.Frag}{x dx C f:Addr}{mA:Str->Option Value}{name:Str}{v:Value}
theorem YH(X:K.In s.heap)(I:ObjM s.heap x dx C mA)(hg:PySem.W.plainGet K C name=true)(hh:PySem.W.hasDictIn K C=true)
  (ha:PySem.W.findIn K (.ref C) name=some none) (hv:mA name=some v) (hv':PySem.W.handedIn v=true) (h:Q v { s with toks:=s.toks+1 }) :
  wpAny (model prog w) A (getAttr (.ref x) name expr) Q E s:=by
 obtain⟨od,J,hl⟩:=I.look;exact PySem.W.get_value X J (PySem.W.plainGet_of hg).1 (PySem.W.findObj_own hh ha rfl (by rw[hl,hv])) hv' h
theorem VH(X:K.In s.heap)(I:ObjM s.heap x dx C mA)(hg:PySem.W.plainGet K C name=true)
  (hf:PySem.W.findIn K (.ref C) name=some (some (.ref f))) (ht:PySem.W.isFn K (.ref f)=true) (hv:mA name=none) (h:Q (.ref f,[.ref x]) s) :
  wpAny (model prog w) A (getMethod (.ref x) name pl) Q E s:=by
 obtain⟨od,J,hl⟩:=I.look;exact PySem.W.method_fn X J (PySem.W.plainGet_of hg).1 (PySem.W.plainGet_of hg).2 hf (beq_iff_eq.mp ht) (by show (PySem.W.lookIn name od).map (·.isSome)=some false;rw[hl,hv];rfl) h
theorem Wq(X:K.In s.heap)(I:ObjM s.heap x dx C mA)
  (hs:PySem.W.findIn K (.ref C) "__setattr__" = some (some (.builtin "object.__setattr__"))) (hp:PySem.W.plainOver K C=true) (ht:PySem.W.takerIn K C name=some none) (hh:PySem.W.hasDictIn K C=true)
  (hw:PySem.Within mA ns) (hsz:ns.length<=sizeLine)
  (h:∀h',ObjM h' x dx C (λy=>if y=name then some v else mA y)->Heap.SameBut dx s.heap h'->Q () { s with heap:=h',toks:=s.toks+2 }) :
  wpAny (model prog w) A (setAttr (.ref x) name v) Q E s:=by
 obtain⟨od,J,hl⟩:=I.look;refine PySem.W.set_plain X J hs (PySem.W.osa_open (s:={ s with toks:=s.toks+1 }) (r:=none) X J hp ht λb=>?_);obtain⟨cd,hc,hd'⟩:=PySem.W.any_some hh;have hx:s.heap.get? x=some ⟨.ref C,some dx,.plain,#[]⟩:=I.obj;refine AAA (AAB (AAA (AAA (wpAny_loadPart hx (AAA (PySem.W.Looks.here (s:={ s with toks:=s.toks+1 }) (PySem.W.looks_clsIn X hc) ?_))))));rw[hd'];refine AAB (a:=some dx) (AAA (AAB (AAA ?_)));refine wpAny_nsSet1 (s:={ s with toks:=s.toks+1 }) I.ns λh' hn2 hs2=>?_;obtain⟨oD,esD,epD,hoD,hdD,hcD⟩:=hn2.count (PySem.Within.cons name v hw);refine AAA (wpAny_lookBehind hoD (by rw[hdD];exact pastItsLine_dict (AAv hcD (by rw[AAI];omega))) ?_);exact AAB (h _ ⟨(hs2.2 _ (Ne.symm I.ne)).trans I.obj,hn2,I.ne⟩ hs2)
theorem Us(X:K.In s.heap)(hm:PySem.W.makesIn K C=true)
  (hi:PySem.W.findIn K (.ref C) "__init__" = some (some (.ref f))) (hf:PySem.W.typeIn K (.ref f)=some (.type "function"))
  (h:codeAny (model prog w) (A.under (.builtin "type.__call__" ⟨.ref C::vs,kw⟩)) (.call (.ref f) ⟨.ref (s.heap.objs.size+1)::vs,kw⟩) (PySem.W.InitBack (s.heap.objs.size+1) R)
   { s with heap:=(s.heap.push PySem.W.emptyDict).push (PySem.W.instObj C s.heap.objs.size) }) :
  codeAny (model prog w) A (.call (.ref C) ⟨vs,kw⟩) R s:=by
 obtain⟨hh,g,d,t,os⟩:=s;exact PySem.W.make_core (PySem.W.makes_of X hm) (PySem.W.looks_findIn X hi) (λself=>PySem.W.bind_fn X self hf) (.inl rfl) h
end
noncomputable def EO(f:Str)(v:V):List (Str×V)->List (Str×V)
 |[]=>[(f,v)]
 |(g,x)::r=>if g=f then (g,v)::r else (g,x)::EO f v r
theorem Hq(f g:Str)(v:V):∀fs:List (Str×V),(EO f v fs).lookup g=if g=f then some v else fs.lookup g
 |[]=>by
  show List.lookup g [(f,v)]=_;by_cases h:g=f
  ·have hb:(g==f)=true:=beq_iff_eq.mpr h;simp only[List.lookup,hb,if_pos h]
  ·have hb:(g==f)=false:=AAg.mpr h;simp only[List.lookup,hb,if_neg h]
 |(k,x)::r=>by
  have ih:=Hq f g v r;rw[show EO f v ((k,x)::r)=(if k=f then (k,v)::r else (k,x)::EO f v r) from rfl];by_cases hk:k=f
  ·rw[if_pos hk];by_cases h:g=k
   ·have hb:(g==k)=true:=beq_iff_eq.mpr h;simp only[List.lookup,hb,if_pos (h.trans hk)]
   ·have hb:(g==k)=false:=AAg.mpr h;simp only[List.lookup,hb,if_neg (λe:g=f=>h (e.trans hk.symm))]
  ·rw[if_neg hk];by_cases h:g=k
   ·have hb:(g==k)=true:=beq_iff_eq.mpr h;simp only[List.lookup,hb,if_neg (λe:g=f=>hk (h.symm.trans e))]
   ·have hb:(g==k)=false:=AAg.mpr h;simp only[List.lookup,hb];exact ih
theorem HJ(f:Str)(v:V):∀fs:List (Str×V),f∈(EO f v fs).map (·.1)/\∀g,g∈fs.map (·.1)->g∈(EO f v fs).map (·.1)
 |[]=>⟨by simp[EO],λg h=>by simp at h⟩
 |(k,x)::r=>by
  obtain⟨i1,i2⟩:=HJ f v r;rw[show EO f v ((k,x)::r)=(if k=f then (k,v)::r else (k,x)::EO f v r) from rfl];by_cases hk:k=f
  ·rw[if_pos hk];subst hk;exact⟨by simp,λg h=>by simpa using h⟩
  ·rw[if_neg hk];refine⟨?_,λg h=>?_⟩
   ·rw[AAX];exact AAR _ i1
   ·rw[AAX] at h ⊢;rcases AAJ.mp h with e|e
    ·exact AAJ.mpr (.inl e)
    ·exact AAR _ (i2 g e)
theorem Hr(f:Str)(v:V):∀fs:List (Str×V),(EO f v fs).length<=fs.length+1
 |[]=>by simp[EO]
 |(k,x)::r=>by
  have ih:=Hr f v r;rw[show EO f v ((k,x)::r)=(if k=f then (k,v)::r else (k,x)::EO f v r) from rfl];by_cases hk:k=f
  ·rw[if_pos hk,AAI,AAI];omega
  ·rw[if_neg hk,AAI,AAI];omega
theorem RelO.some_of(r:RelO (some v) o):∃u,o=some u/\RelV v u:=by
 cases o with
 |none=>exact(show False from r).elim
 |some u=>exact⟨u,rfl,r⟩
theorem RelO.none_of(r:RelO none o):o=none:=by
 cases o with
 |none=>rfl
 |some u=>exact(show False from r).elim
theorem R8(r:RelV v u):PySem.W.handedIn u=true:=by
 cases v with
 |non=>cases (show u=Value.none from r);rfl
 |bl b=>cases (show u=Value.bool b from r);rfl
 |int i=>obtain⟨t,e⟩:=(show ∃t,u=Value.int i t from r);cases e;rfl
 |str x=>obtain⟨t,e⟩:=(show ∃t,u=Value.str x t from r);cases e;rfl
 |byt b=>obtain⟨t,e⟩:=(show ∃t,u=Value.bytes b t from r);cases e;rfl
 |flt b=>obtain⟨t,e⟩:=(show ∃t,u=Value.float b t from r);cases e;rfl
 |ref a=>cases (show u=Value.ref a from r);rfl
 |ty n=>cases (show u=Value.type n from r);rfl
section
variable{P:Program}{w:World}{H:Hp}{h:Heap}{a C dx:Addr}{fs:List (Str×V)}
theorem IU(hok:HOk P w H h)(e:H a=some (.ins C dx fs)):∃mA,ObjM h a dx C mA/\(∀f,RelO (fs.lookup f) (mA f))/\PySem.Within mA (fs.map (·.1))/\fs.length<=1000/\H dx=some (.own a):=by
 obtain⟨d,z,ne,ob,mA,n,r,q⟩:=(show ObjOk P w H h a (.ins C dx fs) from hok a _ e);exact⟨mA,⟨ob,n,ne⟩,r,q,z,d⟩
end
structure Cls(K:PySem.W.Frag)(C:Addr):Prop where
 pg:PySem.W.plainGet K C Str.empty=true
 hd:PySem.W.hasDictIn K C=true
 po:PySem.W.plainOver K C=true
 sa:PySem.W.findIn K (.ref C) "__setattr__" = some (some (.builtin "object.__setattr__"))
theorem Cls.get{K:PySem.W.Frag}{C:Addr}(c:Cls K C)(f:Str):PySem.W.plainGet K C f=true:=c.pg
def NoAttr(K:PySem.W.Frag)(C:Addr)(f:Str):Prop:=PySem.W.findIn K (.ref C) f=some none
theorem NoAttr.taker{K:PySem.W.Frag}{C:Addr}{f:Str}(n:NoAttr K C f):PySem.W.takerIn K C f=some none:=by
 unfold PySem.W.takerIn;rw[show PySem.W.findIn K (.ref C) f=some none from n];rfl
structure YT(K:PySem.W.Frag)(C:Addr)(m:Str)(f:Addr):Prop where
 at_:PySem.W.findIn K (.ref C) m=some (some (.ref f))
 fn:PySem.W.isFn K (.ref f)=true
 kp:PySem.W.keepIn K (.ref f)=true
section
variable{X:Cx}{pins:List (Addr×Obj)}{σ:St}{H:Hp}{s:Shared}{a C dx:Addr}{fs:List (Str×V)}{f:Str}{v:V}{A:Around}{E:Value->Shared->Prop}
theorem Oz(I:Inv X pins σ H s)(e:H a=some (.ins C dx fs))(c:Cls X.K C)(n:NoAttr X.K C f)(l:fs.lookup f=some v)
  (h:∀u s',Inv X pins σ H s'->RelV v u->Q u s'):wpAny (model X.prog X.w) A (getAttr (.ref a) f b) Q E s:=by
 obtain⟨mA,O,r,_,_,_⟩:=IU I.hok e;obtain⟨u,hu,ru⟩:=RelO.some_of (v:=v) (o:=mA f) (by rw[←l];exact r f);exact YH I.kIn O (c.get f) c.hd n hu (R8 ru) (h u _ (I.tok _) ru)
theorem Oy(I:Inv X pins σ H s)(e:H a=some (.ins C dx fs))(c:Cls X.K C)(k:YT X.K C m g)(l:fs.lookup m=none)
  (h:Q (.ref g,[.ref a]) s):wpAny (model X.prog X.w) A (getMethod (.ref a) m pl) Q E s:=by
 obtain⟨mA,O,r,_,_,_⟩:=IU I.hok e;have hn:mA m=none:=RelO.none_of (by rw[←l];exact r m);exact VH I.kIn O (c.get m) k.at_ k.fn hn h
theorem OW(I:Inv X pins σ H s)(e:H a=some (.ins C dx fs))(c:Cls X.K C)(n:NoAttr X.K C f)(hl:fs.length<1000)(ry:RelV y u)
  (h:∀s',Inv X pins σ (upd H a (.ins C dx (EO f y fs))) s'->Q () s'):wpAny (model X.prog X.w) A (setAttr (.ref a) f u) Q E s:=by
 obtain⟨mA,O,r,wi,_,ho⟩:=IU I.hok e;have hz:(fs.map (·.1)).length<=sizeLine:=by rw[AAG,sizeLine_eq];omega
 refine Wq I.kIn O c.sa c.po n.taker c.hd wi hz λh' O' sb=>h _ ?_;have hd:∃o,h'.get? dx=some o:=let ⟨o,_,_,e',_⟩:=O'.ns;⟨o,e'⟩
 refine I.write (x:=a) (e:=dx) (by rw[e];exact True.intro) (.inr ho) (λb q hb z=>(sb.2 b hb).trans z) hd ?_;refine⟨by rw[A9 O.ne];exact ho,?_,O.ne,O'.obj,_,O'.ns,λg=>?_,λg hg=>?_⟩
 ·have:=Hr f y fs;omega
 ·show RelO ((EO f y fs).lookup g) (if g=f then some u else mA g);rw[Hq];by_cases q:g=f
  ·rw[if_pos q,if_pos q];exact ry
  ·rw[if_neg q,if_neg q];exact r g
 ·by_cases q:g=f
  ·rw[q];exact(HJ f y fs).1
  ·refine(HJ f y fs).2 g (wi g λz=>hg ?_);show (if g=f then some u else mA g)=none;rw[if_neg q];exact z
theorem Inv.made(I:Inv X pins σ H s):Inv X pins σ (upd (upd H s.heap.objs.size (.own (s.heap.objs.size+1))) (s.heap.objs.size+1) (.ins C s.heap.objs.size []))
  { s with heap:=(s.heap.push PySem.W.emptyDict).push (PySem.W.instObj C s.heap.objs.size) }:=by
 have e1:(s.heap.push PySem.W.emptyDict).get? s.heap.objs.size=some PySem.W.emptyDict:=AAD s.heap rfl;have e2:((s.heap.push PySem.W.emptyDict).push (PySem.W.instObj C s.heap.objs.size)).get? (s.heap.objs.size+1)=some (PySem.W.instObj C s.heap.objs.size):=by
  have:=AAD (s.heap.push PySem.W.emptyDict) (o:=PySem.W.instObj C s.heap.objs.size) rfl
  rwa [Heap.size_push] at this
 have e3:(s.heap.push PySem.W.emptyDict).Ns s.heap.objs.size (λ_=>none):=⟨PySem.W.emptyDict,#[],_,e1,rfl,(λe he=>absurd he (by simp)),λ_=>rfl⟩;have I1:=I.laid (a:=s.heap.objs.size) (o:=.own (s.heap.objs.size+1)) (h':=s.heap.push PySem.W.emptyDict) (t':=s.toks) (λb u q=>AAC _ q) (AAF _) ⟨_,e1⟩;refine I1.laid (a:=s.heap.objs.size+1) (o:=.ins C s.heap.objs.size []) (t':=s.toks) (λb u q=>AAC _ q) (Nat.le_of_eq (Heap.size_push _ _)) ?_;have ne:s.heap.objs.size≠s.heap.objs.size+1:=AAf (Nat.lt_succ_self _);refine⟨by rw[A9 ne,BK],AAm _,ne,e2,λ_=>none,(Heap.Ns1.of_empty e3).at λo q=>AAC _ q,λ_=>True.intro,λy hy=>absurd rfl hy⟩
theorem YR(hb:attributeBase e f env (eval e env)=eval e env)
  (h:wpAny (model prog w) A (eval e env) (λo s₁=>wpAny (model prog w) A (getAttr o f true) Q E s₁) E s):wpAny (model prog w) A (eval (.Attribute e f pos) env) Q E s:=
 Attribute_any_ h (by rw[arm_eval_Attribute,hb])
end
noncomputable def cr(K:PySem.W.Frag)(ta:TE)(f:Str):TE:=λσ H Q=>ta σ H λx H1=>∃a C dx fs v,x=.ref a/\H1 a=some (.ins C dx fs)/\Cls K C/\NoAttr K C f/\fs.lookup f=some v/\Q v H1
noncomputable def cv(K:PySem.W.Frag)(ta tv:TE)(f:Str):TS:=λD σ H=>tv σ H λy H1=>ta σ H1 λx H2=>∃a C dx fs,x=.ref a/\H2 a=some (.ins C dx fs)/\Cls K C/\NoAttr K C f/\fs.length<1000 /\
 D.nx σ (upd H2 a (.ins C dx (EO f y fs)))
section
variable{X:Cx}{o e value:Expr}{f:Str}{pos pos':Pos}{ta tv:TE}
theorem Zz(he:PE X e ta)(hb:attributeBase e f X.env (eval e X.env)=eval e X.env):PE X (.Attribute e f pos) (cr X.K ta f):=by
 intro pins s σ H Q I h;refine YR hb (thn (he pins s σ H _ I h) λu s1 zz=>?_);obtain⟨x,H1,I1,rx,a,C,dx,fs,v,ex,ea,c,n,l,q⟩:=zz;subst ex;obtain rfl:u=Value.ref a:=rx;exact Oz I1 ea c n l λu' s2 I2 ru=>⟨v,H1,I2,ru,q⟩
theorem Zm(ha:PE X o ta)(hv:PE X value tv)(hs:swapsWith value (some (.Attribute o f pos')) pos.line X.env=pure false):PS X (.Assign [.Attribute o f pos'] value pos) (cv X.K ta tv f):=by
 intro pins s σ H D I h;refine plainObj_wpAny_Assign_Attribute (thn (hv pins s σ H _ I h) λu s1 ⟨y,H1,I1,ry,q⟩=>thn (ha pins s1 σ H1 _ I1 q) λov s2 z=>?_) hs;obtain⟨x,H2,I2,rx,a,C,dx,fs,ex,ea,c,n,l,q2⟩:=z;subst ex;obtain rfl:ov=Value.ref a:=rx;exact OW I2 ea c n l ry λs3 I3=>⟨σ,_,I3,q2⟩
end
section
variable{X:Cx}{pins:List (Addr×Obj)}{σ:St}{H:Hp}{s:Shared}{A:Around}{E:Value->Shared->Prop}{Q:Value->Shared->Prop}{c:Value}{b:Bool}
inductive Gn (K:PySem.W.Frag) (H:Hp):V->Value->Prop where
 |non:Gn K H .non (.type "NoneType")
 |bl (x:Bool):Gn K H (.bl x) (.type "bool")
 |int (i:Int):Gn K H (.int i) (.type "int")
 |str (x:Str):Gn K H (.str x) (.type "str")
 |flt (x:UInt64):Gn K H (.flt x) (.type "float")
 |lst {a:Addr} {xs:List V} (e:H a=some (.lst xs)):Gn K H (.ref a) (.type "list")
 |frz {a:Addr} {o:Obj} {xs:List V} (e:H a=some (.frz o (.lst xs))):Gn K H (.ref a) (.type "list")
 |tup {a:Addr} {xs:List V} (e:H a=some (.tup xs)):Gn K H (.ref a) (.type "tuple")
 |dK {a:Addr} {kvs:List (Key×V)} (e:H a=some (.dK kvs)):Gn K H (.ref a) (.type "dict")
 |dT {a:Addr} {kvs:List (List Key×V)} (e:H a=some (.dT kvs)):Gn K H (.ref a) (.type "dict")
 |ins {a C dx:Addr} {fs:List (Str×V)} (e:H a=some (.ins C dx fs)) (cl:Cls K C) (ha:PySem.W.findIn K (.ref C) "__class__" = some (some (.builtin "object.__class__")))
   (hn:PySem.W.specialIn K (.builtin "object.__class__") "__get__" = some (some (.builtin "getset_descriptor.__get__"))) (htk:PySem.W.takesIn K (.builtin "object.__class__")=some true)
   (hm:PySem.W.mroIn K C (.type "object")=some true):Gn K H (.ref a) (.ref C)
theorem Rx(I:Inv X pins σ H s)(rx:RelV x u)(ty:Gn X.K H x t)(e:PySem.W.kitOne X.K t c=some b)(h:∀tk,Q (.bool b) { s with toks:=tk }):
  wpAny (model X.prog X.w) A (call (.builtin "isinstance") [u,c]) Q E s:=by
 cases ty with
 |non=>cases (show u=Value.none from rx);exact PySem.W.kia_one PySem.W.kitx_none I.kIn True.intro e (λz=>nomatch z) h
 |bl y=>cases (show u=Value.bool y from rx);exact PySem.W.kia_one PySem.W.kitx_bool I.kIn True.intro e (λz=>nomatch z) h
 |int i=>obtain⟨t,q⟩:=(show ∃t,u=Value.int i t from rx);cases q;exact PySem.W.kia_one PySem.W.kitx_int I.kIn True.intro e (λz=>nomatch z) h
 |str y=>obtain⟨t,q⟩:=(show ∃t,u=Value.str y t from rx);cases q;exact PySem.W.kia_one PySem.W.kitx_str I.kIn True.intro e (λz=>nomatch z) h
 |flt y=>obtain⟨t,q⟩:=(show ∃t,u=Value.float y t from rx);cases q;exact PySem.W.kia_one PySem.W.kitx_float I.kIn True.intro e (λz=>nomatch z) h
 |@lst a xs ea=>
  cases (show u=Value.ref a from rx);obtain⟨_,_,n,_,h1⟩:=(show ObjOk X.prog X.w H s.heap a (.lst xs) from I.hok a _ ea);exact PySem.W.kia_one PySem.W.kitx_list I.kIn ⟨_,h1,rfl⟩ e (λz=>nomatch z) h
 |@frz a ob xs ea=>
  cases (show u=Value.ref a from rx);obtain⟨_,_,_,n,_,h1⟩:=(show ObjOk X.prog X.w H s.heap a (.frz ob (.lst xs)) from I.hok a _ ea);exact PySem.W.kia_one PySem.W.kitx_list I.kIn ⟨_,h1,rfl⟩ e (λz=>nomatch z) h
 |@tup a xs ea=>
  cases (show u=Value.ref a from rx);obtain⟨_,_,_,p⟩:=(show ObjOk X.prog X.w H s.heap a (.tup xs) from I.hok a _ ea);obtain⟨o,h1,h2,_⟩:=p;exact PySem.W.kia_one PySem.W.kitx_tuple I.kIn ⟨o,h1,h2⟩ e (λz=>nomatch z) h
 |@dK a kvs ea=>
  cases (show u=Value.ref a from rx);obtain⟨_,_,vs,_,p⟩:=(show ObjOk X.prog X.w H s.heap a (.dK kvs) from I.hok a _ ea);obtain⟨o,es,ep,h1,h2,_⟩:=p;exact PySem.W.kia_one PySem.W.kitx_dict I.kIn ⟨o,h1,h2.1⟩ e (λz=>nomatch z) h
 |@dT a kvs ea=>
  cases (show u=Value.ref a from rx);obtain⟨_,_,xs,_,o,es,ep,h1,h2,_⟩:=(show ObjOk X.prog X.w H s.heap a (.dT kvs) from I.hok a _ ea);exact PySem.W.kia_one PySem.W.kitx_dict I.kIn ⟨o,h1,h2.1⟩ e (λz=>nomatch z) h
 |@ins a C dx fs ea cl ha hn htk hm=>
  cases (show u=Value.ref a from rx);obtain⟨mA,O,_⟩:=IU I.hok ea;obtain⟨od,J,_⟩:=O.look;exact PySem.W.kia_one (PySem.W.kitx_own (cl.get _) cl.hd ha hn htk hm) I.kIn J e (λz=>nomatch z) h
end
structure Room(k:Nat)(A:Around):Prop where
 hd:A.handled=none
 dp:A.depth+3 * k+5<recursionLimit
 un:A.units+16 * k+200<cLine
theorem Room.mono(r:Room k A)(h:j<=k):Room j A:=⟨r.hd,by have:=r.dp;omega,by have:=r.un;omega⟩
theorem Room.deeper(r:Room (k+1) A)(env:Env):Room k (A.deeper env):=
 ⟨r.hd,by have:=r.dp;show A.depth+1+3 * k+5<_;omega,by have:=r.un;show A.units+3+16 * k+200<_;omega⟩
theorem Os{A:Around}{us:List Value}{kw:List (Str×Value)}:(A.under (.builtin "type.__call__" ⟨.ref C::us,kw⟩)).depth=A.depth+1:=by
 first|rfl|simp[Around.under,Code.weight,Code.isCreation,Code.isGuard,Code.isCaller,Code.frames,Code.isFrame,guardIds]
theorem Oq{A:Around}{C:Addr}:(A.under (.builtin "type.__call__" ⟨.ref C::us,kw⟩)).units=A.units+1:=by
 first|rfl|simp[Around.under,Code.cUnits,Code.frames,Code.isFrame]
theorem Room.make(r:Room (k+1) A)(C:Addr)(us:List Value)(kw:List (Str×Value)):Room k (A.under (.builtin "type.__call__" ⟨.ref C::us,kw⟩)):=
 ⟨r.hd,by have:=r.dp;rw[Os];omega,by have:=r.un;rw[Oq];omega⟩
theorem Room.depth(r:Room k A):A.depth<recursionLimit:=by have:=r.dp;omega
theorem Room.units(r:Room k A):A.units+64<cLine:=by have:=r.un;omega
def cm:TA:=λ_ H Q=>Q [] H
noncomputable def bJ(ta:TE)(tr:TA):TA:=λσ H Q=>ta σ H λx H1=>tr σ H1 λxs H2=>Q (x::xs) H2
section
variable{X:Cx}{e:Expr}{es:List Expr}{te:TE}{t:TA}{pos:Pos}
theorem F3:PA X [] cm:=λ_ _ _ _ H Q I h=>Calls.spliced_nil ⟨[],H,I,.nil,h⟩
theorem EQ(ha:PE X e te)(hr:PA X es t)(hs:starEach (e::es) X.env=(false,eval e X.env)::starEach es X.env:=by rfl):PA X (e::es) (bJ te t):=by
 intro pos pins s σ H Q I h;rw[hs];show wpAny _ _ (spliced ((false,eval e X.env)::backTo pos (starEach es X.env))) _ _ s;refine Calls.spliced_cons (thn (ha pins s σ H _ I h) λu s1 ⟨x,H1,I1,r1,q1⟩=>?_);exact thn (hr pos pins s1 σ H1 _ I1 q1) λus s2 ⟨xs,H2,I2,r2,q2⟩=>⟨x::xs,H2,I2,.cons r1 r2,q2⟩
noncomputable def cf(t:TA):TE:=λσ H Q=>t σ H λxs H1=>xs.length<=sizeLine/\∀p,H1 p=none->Q (.ref p) (upd H1 p (.tup xs))
noncomputable def cn(t:TA):TE:=λσ H Q=>t σ H λxs H1=>xs.length<=sizeLine/\∀p,H1 p=none->Q (.ref p) (upd H1 p (.lst xs))
theorem Zt(h:PA X es t):PE X (.Tuple es x1 pos) (cf t):=by
 intro pins s σ H Q I hq;refine wpAny_Tuple_spliced (thn (h pos pins s σ H _ I hq) λus s1 ⟨xs,H1,I1,r,z,q⟩=>⟨by rw[←r.length];exact z,?_⟩);have hf:H1 s1.heap.objs.size=none:=I1.hok.fresh (AAF _);refine⟨.ref s1.heap.objs.size,upd H1 s1.heap.objs.size (.tup xs),I1.laid (t':=s1.toks) (λb u e=>AAC _ e) (AAF _) ?_,rfl,q _ hf⟩;exact⟨z,us,r,⟨_,AAD _ rfl,rfl,_,rfl⟩⟩
theorem Ub(h:PA X es t):PE X (.List es pos) (cn t):=by
 intro pins s σ H Q I hq;refine wpAny_List_spliced (thn (h pos pins s σ H _ I hq) λus s1 ⟨xs,H1,I1,r,z,q⟩=>⟨by rw[←r.length];exact z,?_⟩);have hf:H1 s1.heap.objs.size=none:=I1.hok.fresh (AAF _);refine⟨.ref s1.heap.objs.size,upd H1 s1.heap.objs.size (.lst xs),I1.laid (t':=s1.toks) (λb u e=>AAC _ e) (AAF _) ?_,rfl,q _ hf⟩;exact⟨z,us,0,r,AAD _ rfl⟩
end
abbrev Sp:=List V->Hp->VK->XK->Prop
abbrev CXT:=List Env->Hp->Shared->XK->Value->Shared->Prop
structure Env0(P:Program)(w:World)(K:PySem.W.Frag)(mg:Str->Option Value)(base:Heap)(A:Around)(outer:List Env)(s:Shared)(H:Hp):Prop where
 frames:A.frames=some outer
 mod:Mod K mg base
 bs:∀b o,base.get? b=some o->s.heap.get? b=some o/\H b=none
 bsz:base.objs.size<=s.heap.objs.size
 funs:s.heap.FunFrames base outer
 frf:∀b∈frs outer,H b=none
 hok:HOk P w H s.heap
 bare:AllBare s.gens
def CE(outer:List Env)(P:Program)(w:World)(H:Hp)(s:Shared)(Q:VK)(u:Value)(s':Shared):Prop:=
 ∃v H',s'.os=s.os/\AllBare s'.gens/\Un (frs outer) [] H H' s.heap s'.heap/\HOk P w H' s'.heap/\RelV v u/\Q v H'
def CR(CX:CXT)(outer:List Env)(P:Program)(w:World)(H:Hp)(s:Shared)(Q:VK)(E:XK)(r:Result)(s':Shared):Prop:=
 match r with
 | .ok (.ret u)=>CE outer P w H s Q u s'
 | .ok _=>False
 | .error e=>CX outer H s E e s'
structure FnOk(P:Program)(w:World)(K:PySem.W.Frag)(mg:Str->Option Value)(base:Heap)(CX:CXT)(k:Nat)(f:Addr)(fd:FuncData)(ps:List Str)(sp:Sp):Prop where
 len:∀vs H Q E,sp vs H Q E->vs.length=ps.length
 run:∀(A:Around) (outer:List Env) (s:Shared) (H:Hp) (args:Args) (us:List Value) (vs:List V) (Q:VK) (E:XK),Room k A->Env0 P w K mg base A outer s H->BindsTo s fd args (ps.zip us)->Vals vs us->sp vs H Q E->
  codeAny (model P w) A (.call (.ref f) args) (CR CX outer P w H s Q E) s
theorem FnOk.mono{P:Program}{w:World}{K:PySem.W.Frag}{mg:Str->Option Value}{base:Heap}(F:FnOk P w K mg base CX j f fd ps sp)(h:j<=k):
  FnOk P w K mg base CX k f fd ps sp:=⟨F.len,λA outer s H args us vs Q E hr=>F.run A outer s H args us vs Q E (hr.mono h)⟩
theorem FnOk.imp{P:Program}{w:World}{K:PySem.W.Frag}{mg:Str->Option Value}{base:Heap}(F:FnOk P w K mg base CX k f fd ps sp)
  (h:∀vs H Q E,sp' vs H Q E->sp vs H Q E):FnOk P w K mg base CX k f fd ps sp':=
 ⟨λvs H Q E q=>F.len vs H Q E (h _ _ _ _ q),λA outer s H args us vs Q E hr he hb hv hs=>F.run A outer s H args us vs Q E hr he hb hv (h _ _ _ _ hs)⟩
theorem Env0.make{P:Program}{w:World}{K:PySem.W.Frag}{mg:Str->Option Value}(e:Env0 P w K mg base A outer s H)(C:Addr)(us:List Value)(kw:List (Str×Value)):
  Env0 P w K mg base (A.under (.builtin "type.__call__" ⟨.ref C::us,kw⟩)) outer s H:=⟨by first|exact e.frames|(simpa[Around.under,Code.envs,Code.isFrame,pushEnvs] using e.frames),e.mod,e.bs,e.bsz,e.funs,e.frf,e.hok,e.bare⟩
section
variable{X:Cx}{pins:List (Addr×Obj)}{σ:St}{H:Hp}{s s':Shared}
theorem Inv.env0(I:Inv X pins σ H s):Env0 X.prog X.w X.K X.mg X.base X.A X.stack s H:=
 ⟨I.ok.frames,I.ok.mod,I.bs,AAv I.ok.bsz I.sz,I.stack,I.stkFree,I.hok,I.bare⟩
theorem Inv.after(I:Inv X pins σ H s)(h:CE X.stack X.prog X.w H s Q u s'):EP X pins σ Q u s':=by
 obtain⟨v,H',os,bare,un,hok,r,q⟩:=h;obtain⟨hh,g,d,t,os'⟩:=s';obtain rfl:os'=s.os:=os;exact⟨v,H',I.call (h':=hh) (g':=g) (d':=d) (t':=t) (ch:=[]) un hok bare (λb z=>absurd z (by simp)),r,q⟩
end
noncomputable def bK(sp:Sp)(dvs:List V)(E:XK)(t:TA):TE:=λσ H Q=>t σ H λvs H1=>sp (vs++dvs) H1 Q E
noncomputable def bC(C:Addr)(m:Str)(sp:Sp)(dvs:List V)(E:XK)(ta:TE)(t:TA):TE:=λσ H Q=>ta σ H λx H1=>∃a dx fs,x=.ref a/\H1 a=some (.ins C dx fs)/\fs.lookup m=none /\
 t σ H1 λvs H2=>sp (x::(vs++dvs)) H2 Q E
noncomputable def bD(C:Addr)(sp:Sp)(dvs:List V)(E:XK)(t:TA):TE:=λσ H Q=>t σ H λvs H1=>∀x dx,H1 x=none->H1 dx=none->dx≠x->
 sp (.ref x::(vs++dvs)) (upd (upd H1 dx (.own x)) x (.ins C dx [])) (λv H2=>v=.non/\Q (.ref x) H2) E
def Binds(K:PySem.W.Frag)(fd:FuncData)(ps:List Str)(ds:List Value):Prop:=
 ∀(s:Shared) (us:List Value),K.In s.heap->(us++ds).length=ps.length->BindsTo s fd ⟨us,[]⟩ (ps.zip (us++ds))
theorem Binds.all{K:PySem.W.Frag}(h:∀us:List Value,us.length=ps.length->bindArgs fd ⟨us,[]⟩=pure (ps.zip us)):Binds K fd ps []:=λs us _ hl=>by
 rw[AAb] at hl ⊢;exact .of_eq (h us hl)
def Hc(CX:CXT)(X:Cx)(E:XK):Prop:=∀(pins:List (Addr×Obj)) (σ:St) (H:Hp) (s:Shared) (e:Value) (s':Shared),Inv X pins σ H s->CX X.stack H s E e s'->X.xe e s'
section
variable{X:Cx}{CX:CXT}{k:Nat}{f C:Addr}{fd:FuncData}{ps:List Str}{sp:Sp}{dvs:List V}{ds:List Value}{E:XK}{x m:Str}{p pos apos:Pos}{e o:Expr}{es:List Expr}{ta:TE}{t:TA}
theorem Tw(F:FnOk X.prog X.w X.K X.mg X.base CX k f fd ps sp)(hr:Room k X.A)(hb:Binds X.K fd ps ds)(hd:Vals dvs ds)(hx:Hc CX X E)
  (I:Inv X pins σ H s) (r:Vals vs us) (h:sp (vs++dvs) H Q E):wpAny (model X.prog X.w) X.A (call (.ref f) us) (EP X pins σ Q) X.xe s:=by
 have r2:Vals (vs++dvs) (us++ds):=r.append hd;have hl:(us++ds).length=ps.length:=by rw[←r2.length];exact F.len _ _ _ _ h
 refine wpAny_call (codeAny_mono (F.run X.A X.stack s H ⟨us,[]⟩ (us++ds) (vs++dvs) Q E hr I.env0 (hb s us I.kIn hl) r2 h) λr s' hq=>?_);cases r with
 |error e=>exact hx pins σ H s e s' I hq
 |ok fl=>
  cases fl with
  |ret u=>exact I.after hq
  |next=>exact False.elim hq
  |brk=>exact False.elim hq
  |cont=>exact False.elim hq
theorem Xb(F:FnOk X.prog X.w X.K X.mg X.base CX k f fd ps sp)(hr:Room k X.A)(hg:Gl X x)(hm:X.mg x=some (.ref f))(hk:PySem.W.keepIn X.K (.ref f)=true)(hb:Binds X.K fd ps ds)(hd:Vals dvs ds)(hx:Hc CX X E)
  (ha:PA X (e::es) t) (hdb:(x==("__debug__" : Str))=false:=by decide) (he:starEach (e::es) X.env=(false,eval e X.env)::starEach es X.env:=by rfl) (hpl:(backTo pos (starEach es X.env)).any (·.1)=false:=by rfl) :
  PE X (.Call (.Name x p) (e::es) [] pos) (bK sp dvs E t):=by
 intro pins s σ H Q I h;refine wpAny_Call_Name_kw (L0 I hg hm ?_ hdb);refine PySem.W.callWith_K (h₀:=X.base) I.ok.mod.kin hk (thn (ha pos pins s σ H _ I h) λus s1 ⟨vs,H1,I1,r,q⟩=>⟨I1.kIn,?_⟩) he hpl;exact Tw F hr hb hd hx I1 r q
theorem XT(he:PE X o ta)(c:Cls X.K C)(hm:YT X.K C m f)(F:FnOk X.prog X.w X.K X.mg X.base CX k f fd ps sp)(hr:Room k X.A)(hb:Binds X.K fd ps ds)(hd:Vals dvs ds)(hx:Hc CX X E)(ha:PA X (e::es) t)
  (hst:starEach (e::es) X.env=(false,eval e X.env)::starEach es X.env:=by rfl) (hpl:(backTo pos (starEach es X.env)).any (·.1)=false:=by rfl)
  (ht:eval (.Call (.Attribute o m apos) (e::es) [] pos) X.env=(do
   let ov ←eval o X.env
   standAt apos.atName
   let (f,first) ←holding [ov] (getMethod ov m pl)
   callWith pos f first (backTo pos (starEach (e::es) X.env)) (backToKw pos (keywordEach [] X.env))):=by rfl) :
  PE X (.Call (.Attribute o m apos) (e::es) [] pos) (bC C m sp dvs E ta t):=by
 intro pins s σ H Q I h;refine PySem.W.methodCall_KW (pl:=pl) (thn (he pins s σ H _ I h) λu s1 ⟨x,H1,I1,rx,a,dx,fs,ex,ea,l,q⟩=>?_) ht;subst ex;obtain rfl:u=Value.ref a:=rx;refine Oy I1 ea c hm l ?_;refine PySem.W.callWith_K (first:=[.ref a]) (h₀:=X.base) I.ok.mod.kin hm.kp (thn (ha pos pins s1 σ H1 _ I1 q) λus s2 ⟨vs,H2,I2,r,q2⟩=>⟨I2.kIn,?_⟩) hst hpl;exact Tw (us:=.ref a::us) (vs:=.ref a::vs) F hr hb hd hx I2 (.cons rfl r) q2
structure Mk(K:PySem.W.Frag)(C f:Addr):Prop where
 makes:PySem.W.makesIn K C=true
 init:PySem.W.findIn K (.ref C) "__init__" = some (some (.ref f))
 fn:PySem.W.isFn K (.ref f)=true
 kp:PySem.W.keepIn K (.ref C)=true
theorem Tv(M:Mk X.K C f)(F:FnOk X.prog X.w X.K X.mg X.base CX k f fd ps sp)(hr:Room (k+1) X.A)(hb:Binds X.K fd ps ds)(hd:Vals dvs ds)
  (hx:Hc CX X E) (I:Inv X pins σ H s) (r:Vals vs us)
  (h:∀x dx,H x=none->H dx=none->dx≠x->sp (.ref x::(vs++dvs)) (upd (upd H dx (.own x)) x (.ins C dx [])) (λv H2=>v=.non/\Q (.ref x) H2) E) :
  wpAny (model X.prog X.w) X.A (call (.ref C) us) (EP X pins σ Q) X.xe s:=by
 have hq:=h (s.heap.objs.size+1) s.heap.objs.size (I.hok.fresh (Nat.le_succ _)) (I.hok.fresh (AAF _)) (AAf (Nat.lt_succ_self _));have I2:=Inv.made (C:=C) I;have r2:Vals (V.ref (s.heap.objs.size+1)::(vs++dvs)) (Value.ref (s.heap.objs.size+1)::(us++ds)):=.cons rfl (r.append hd);have hl:(Value.ref (s.heap.objs.size+1)::us++ds).length=ps.length:=by
  have e:=r2.length;rw[F.len _ _ _ _ hq] at e;exact e.symm
 refine wpAny_call (Us (f:=f) I.kIn M.makes M.init (beq_iff_eq.mp M.fn) (codeAny_mono (F.run _ X.stack _ _ ⟨Value.ref (s.heap.objs.size+1)::us,[]⟩ (Value.ref (s.heap.objs.size+1)::(us++ds)) _ _ E (hr.make C us [])
  (I2.env0.make C us []) (hb _ (Value.ref (s.heap.objs.size+1)::us) I2.kIn hl) r2 hq) λr s' hq'=>?_))
 cases r with
 |error e=>exact hx pins σ _ _ e s' I2 hq'
 |ok fl=>
  cases fl with
  |ret u=>
   obtain⟨v,H',I3,rv,ev,q3⟩:=I2.after hq';subst ev;exact⟨rv,⟨V.ref (s.heap.objs.size+1),H',I3,rfl,q3⟩⟩
  |next=>exact False.elim hq'
  |brk=>exact False.elim hq'
  |cont=>exact False.elim hq'
theorem XV(M:Mk X.K C f)(F:FnOk X.prog X.w X.K X.mg X.base CX k f fd ps sp)(hr:Room (k+1) X.A)(hg:Gl X x)(hm:X.mg x=some (.ref C))(hb:Binds X.K fd ps ds)(hd:Vals dvs ds)(hx:Hc CX X E)
  (ha:PA X (e::es) t) (hdb:(x==("__debug__" : Str))=false:=by decide) (he:starEach (e::es) X.env=(false,eval e X.env)::starEach es X.env:=by rfl) (hpl:(backTo pos (starEach es X.env)).any (·.1)=false:=by rfl) :
  PE X (.Call (.Name x p) (e::es) [] pos) (bD C sp dvs E t):=by
 intro pins s σ H Q I h;refine wpAny_Call_Name_kw (L0 I hg hm ?_ hdb);refine PySem.W.callWith_K (h₀:=X.base) I.ok.mod.kin M.kp (thn (ha pos pins s σ H _ I h) λus s1 ⟨vs,H1,I1,r,q⟩=>⟨I1.kIn,?_⟩) he hpl;exact Tv M F hr hb hd hx I1 r q
end
structure Ae(N P:List Str)(sc:Scope):Prop where
 kind:sc.kind=.function
 co:sc.isCoroutine=false
 gen:sc.isGenerator=false
 nd:N.Nodup
 pre:N.take P.length=P
 par:∀x∈P,sc.names.lookup x=some .local∨sc.names.lookup x=some .cell
 nofree:∀y∈sc.names,y.2≠.free
theorem LH{kindOf:Str->Option NameKind}:∀{binds:List (Str×Value)} {m:Str->Option Value},(∀v,(x,v)∉binds)->bindL kindOf binds m x=m x
 |[],_,_=>rfl
 |(n,v)::r,m,h=>by
  unfold bindL;rw[LH λw hw=>h w (AAR _ hw)];split
  ·have:x≠n:=by rintro rfl;exact h v AAQ
   simp[this]
  ·rfl
theorem LJ{kindOf:Str->Option NameKind}:∀{binds:List (Str×Value)} {m:Str->Option Value},(∀v,(x,v)∉binds)->bindC kindOf binds m x=m x
 |[],_,_=>rfl
 |(n,v)::r,m,h=>by
  unfold bindC;rw[LJ λw hw=>h w (AAR _ hw)];split
  ·rfl
  ·have:x≠n:=by rintro rfl;exact h v AAQ
   simp[this]
theorem LI{kindOf:Str->Option NameKind}:∀{P:List Str} {vs:List Value} {i:Nat} {m:Str->Option Value},P.Nodup->P[i]?=some x->vs[i]?=some v->kindOf x=some .local->
  bindL kindOf (P.zip vs) m x=some v
 |[],_,_,_,_,h,_,_=>by simp at h
 |_::_,[],_,_,_,_,h,_=>by simp at h
 |p::P,w::vs,0,m,nd,h1,h2,hk=>by
  simp at h1 h2;subst h1;subst h2;show bindL kindOf ((p,w)::P.zip vs) m p=_;unfold bindL;rw[LH λv hv=>(List.nodup_cons.mp nd).1 (List.of_mem_zip hv).1,if_pos hk];simp
 |p::P,w::vs,i+1,m,nd,h1,h2,hk=>by
  show bindL kindOf ((p,w)::P.zip vs) m x=_;unfold bindL;exact LI (i:=i) (List.nodup_cons.mp nd).2 (by simpa using h1) (by simpa using h2) hk
theorem LK{kindOf:Str->Option NameKind}:∀{P:List Str} {vs:List Value} {i:Nat} {m:Str->Option Value},P.Nodup->P[i]?=some x->vs[i]?=some v->kindOf x≠some .local->
  bindC kindOf (P.zip vs) m x=some v
 |[],_,_,_,_,h,_,_=>by simp at h
 |_::_,[],_,_,_,_,h,_=>by simp at h
 |p::P,w::vs,0,m,nd,h1,h2,hk=>by
  simp at h1 h2;subst h1;subst h2;show bindC kindOf ((p,w)::P.zip vs) m p=_;unfold bindC;rw[LJ λv hv=>(List.nodup_cons.mp nd).1 (List.of_mem_zip hv).1,if_neg hk];simp
 |p::P,w::vs,i+1,m,nd,h1,h2,hk=>by
  show bindC kindOf ((p,w)::P.zip vs) m x=_;unfold bindC;exact LK (i:=i) (List.nodup_cons.mp nd).2 (by simpa using h1) (by simpa using h2) hk
noncomputable def start(N:List Str)(vs:List V):St:=vs.map some++List.replicate (N.length-vs.length) none
noncomputable def IH(CX:CXT)(P:Program)(w:World)(K:PySem.W.Frag)(mg:Str->Option Value)(base:Heap)(N:List Str)(qual:Str)(scope:Scope)(f:Addr)(cd:Value)(A:Around)(outer:List Env)(s:Shared)(H:Hp)(E:XK):Cx where
 prog:=P
 w:=w
 K:=K
 mg:=mg
 base:=base
 A:=A.deeper (envOfC qual scope s.heap.objs.size f cd)
 N:=N
 s₀:=s
 H₀:=H
 env:=envOfC qual scope s.heap.objs.size f cd
 outer:=outer
 stack:=envOfC qual scope s.heap.objs.size f cd::outer
 ex:=[]
 calm:=true
 fn:=λ_=>true
 pn:=[]
 xe:=λe s'=>wpAny (model P w) (A.deeper (envOfC qual scope s.heap.objs.size f cd)) (leaving (envOfC qual scope s.heap.objs.size f cd) e) (λ_ s''=>CX outer H s E e s'') (λe' s''=>CX outer H s E e' s'') s'
theorem N3{sc:Scope}(h:sc.names.lookup x=some .cell):∃c,(cellsFrom n sc.names []).lookup x=some c:=by
 have q:=PySem.W.cellsFrom_some sc.names n [] (.inl h);exact Option.isSome_iff_exists.mp q
theorem Ry{CX:CXT}{P:Program}{w:World}{K:PySem.W.Frag}{mg:Str->Option Value}{base:Heap}{N ps:List Str}{qual:Str}{scope:Scope}
  (S:Ae N ps scope) (hd:A.handled=none) (e0:Env0 P w K mg base A outer s H) (hl:vs.length=ps.length) (r:Vals vs us)
  (x:InCallC s s.heap.objs.size (bindL (envOfC qual scope s.heap.objs.size f cd).kindOf (ps.zip us) λ_=>none) (cellsFrom (s.heap.objs.size+1) scope.names []) (bindC (envOfC qual scope s.heap.objs.size f cd).kindOf (ps.zip us) λ_=>none) s1) :
  Inv (IH CX P w K mg base N qual scope f cd A outer s H E) [] (start N vs) H s1:=by
 have hpl:ps.length<=N.length:=by have:=congrArg List.length S.pre;rw[List.length_take] at this;omega
 obtain⟨h1,tk,rfl,hk⟩:=x.done;have noA:∀b:Addr,b∉(IH CX P w K mg base N qual scope f cd A outer s H E).ex:=λb z=>absurd (show b∈([]:List Addr) from z) (by simp);refine⟨⟨e0.mod,S.kind,rfl,rfl,AAF _,λy z c h1 h2=>?_,λy hy=>?_,λy c _ h=>?_,λ_=>hd,Around.frames_deeper e0.frames,.inr ⟨rfl,rfl⟩,λb z=>absurd z (noA b),e0.bs,e0.bsz,λb _ _=>noA b,λb z=>absurd z (noA b),e0.funs,e0.frf⟩,
  rfl,e0.bare,Un.kept hk,⟨_,x.toInCall.ns,λi y v h1 h2 h3=>?_⟩,λy c h=>⟨_,x.cell y c h⟩,e0.hok.fresh (AAF _),λy c h=>?_,λp hp=>absurd (show p∈([]:List (Addr×Obj)) from hp) (by simp),e0.hok.kept hk,?_⟩
 ·exact name_of_addr x.apart (PySem.mem_of_lookup h1) (PySem.mem_of_lookup h2)
 ·have hy:scope.names.lookup y=some .cell∨scope.names.lookup y=some .free:=hy;rcases hy with hy|hy
  ·exact N3 hy
  ·exact absurd rfl (S.nofree _ (PySem.mem_of_lookup hy))
 ·exact Nat.le_of_lt (x.above y c (PySem.mem_of_lookup h))
 ·have hi:i<vs.length:=by
   unfold start at h2;by_cases hi:i<vs.length
   ·exact hi
   ·rw[AAS (by simpa using hi)] at h2;rw[List.getElem?_replicate] at h2;split at h2<;>cases h2
  have ha:vs[i]?=some v:=by
   unfold start at h2;rw[AAT (by simpa using hi),AAW] at h2;cases e:vs[i]? with
   |none=>rw[e] at h2;cases h2
   |some a=>rw[e] at h2;cases h2;rfl
  obtain⟨u,hu,rv⟩:=r.get ha;have hp:ps[i]?=some y:=by
   rw[←S.pre,List.getElem?_take_of_lt (by omega)];exact h1
  have ndP:ps.Nodup:=by rw[←S.pre];exact S.nd.sublist (List.take_sublist _ _)
  refine⟨u,rv,?_⟩;rcases S.par y (AAV hp) with k|k
  ·exact .inl ⟨k,LI ndP hp hu k⟩
  ·obtain⟨c,e⟩:=N3 (n:=s.heap.objs.size+1) k;refine .inr ⟨.inl k,c,e,?_⟩;have q:=x.cell y c e;rw[LK ndP hp hu (by show scope.names.lookup y≠_;rw[k];decide)] at q;exact q
 ·exact e0.hok.fresh (Nat.le_of_lt (x.above y c (PySem.mem_of_lookup h)))
 ·unfold start;show _=N.length;rw[AAH,AAG,AAp];omega
theorem cK{CX:CXT}{P:Program}{w:World}{K:PySem.W.Frag}{mg:Str->Option Value}{base:Heap}{k:Nat}{f:Addr}{name qual:Str}{params:Arguments}{body:List Stmt}{scope:Scope}{dV kV doc pm cdv ct oc:Value}{an od:Option Addr}
  {osl:Array (Option Value)} {N ps:List Str} {sp:Sp} (lk:K.lookup f=some ⟨oc,od,.func (PySem.W.fnOf name qual params body scope dV kV doc pm an cdv ct),osl⟩) (hcd:PySem.W.codeIn K cdv qual=true) (S:Ae N ps scope)
  (len:∀vs H Q E,sp vs H Q E->vs.length=ps.length)
  (hbody:∀(A:Around) (outer:List Env) (s:Shared) (H:Hp) (vs:List V) (Q:VK) (E:XK),Room k (A.deeper (envOfC qual scope s.heap.objs.size f cdv))->sp vs H Q E->
   ∃t,PSs (IH CX P w K mg base N qual scope f cdv A outer s H E) body t/\t { nx:=λ_ H'=>Q .non H',rt:=Q } (start N vs) H) :
  FnOk P w K mg base CX (k+1) f (PySem.W.fnOf name qual params body scope dV kV doc pm an cdv ct) ps sp:=by
 refine⟨len,λA outer s H args us vs Q E hr e0 hb r hsp=>?_⟩;have hl:=len _ _ _ _ hsp;have KX:K.In s.heap:=e0.mod.kin.keeps λb o e=>(e0.bs b o e).1;have lim:s.heap.NoLimit:=e0.mod.nolimit.keeps λb o e=>(e0.bs b o e).1;have hkind:∀y∈ps.zip us,scope.names.lookup y.1=some .local∨(scope.names.lookup y.1=some .cell/\((cellsFrom (s.heap.objs.size+1) scope.names []).lookup y.1).isSome=true):=λ⟨n,v⟩ hy=>by
  rcases S.par n (List.of_mem_zip hy).1 with q|q
  ·exact .inl q
  ·exact .inr ⟨q,PySem.W.cellsFrom_some _ _ _ (.inl q)⟩
 refine codeAny_call_function hr.depth (KX _ _ lk) rfl S.co S.gen rfl (PySem.W.codeRec_of KX hcd) (hb _ _ _ _ ?_);refine wpAny_newFunctionEnv_cells S.kind hkind λenv he s1 x=>?_;subst he;refine⟨lim.keeps x.toInCall.keep,codeAny_func ?_⟩;obtain⟨t,ht,hq⟩:=hbody A outer s H vs Q E (hr.deeper _) hsp;have I:Inv (IH CX P w K mg base N qual scope f cdv A outer s H E) [] (start N vs) H s1:=Ry S hr.hd e0 hl r x;refine AAl (ht [] s1 (start N vs) H _ I hq) (λfl s' hs=>?_) λe s' hs=>hs;have fin:∀{σ':St} {H':Hp} {v:V} {u:Value},Inv (IH CX P w K mg base N qual scope f cdv A outer s H E) [] σ' H' s'->RelV v u->Q v H'->CE outer P w H s Q u s':=
  λ{σ' H' v u} J rv q=>⟨v,H',J.os,J.bare,J.base,J.hok,rv,q⟩
 cases fl with
 |ret u=>
  obtain⟨v,σ',H',J,rv,q⟩:=hs;exact fin J rv q
 |next=>
  obtain⟨σ',H',J,q⟩:=hs;exact fin (v:=V.non) (u:=Value.none) J rfl q
 |brk=>
  obtain⟨_,_,_,q⟩:=hs;exact False.elim q
 |cont=>
  obtain⟨_,_,_,q⟩:=hs;exact False.elim q
section
variable{X:Cx}{x:Str}{p pos:Pos}{e:Expr}{es:List Expr}{t:TA}{id T:String}{r:List V->Hp->VK->Prop}
noncomputable def tCB(r:List V->Hp->VK->Prop)(t:TA):TE:=λσ H Q=>t σ H λvs H1=>r vs H1 Q
theorem JQ(hc:CT X (.builtin id) r)(hg:Gl X x)(hm:X.mg x=none)(hv:bootBuiltins x=some (.builtin id))(ha:PA X (e::es) t)(hn:x ≠ "__name__" := by decide)(hdb:(x==("__debug__" : Str))=false:=by decide)
  (he:starEach (e::es) X.env=(false,eval e X.env)::starEach es X.env:=by rfl) (hpl:(backTo pos (starEach es X.env)).any (·.1)=false:=by rfl):PE X (.Call (.Name x p) (e::es) [] pos) (tCB r t):=by
 intro pins s σ H Q I h;refine wpAny_Call_Name_kw (FN I hg hm hv ?_ hn hdb);exact PyProof.Rows.callWith_builtin1 (thn (ha pos pins s σ H _ I h) λus s1 ⟨vs,H1,I1,r1,q1⟩=>hc pins s1 σ H1 vs us Q I1 r1 q1) he hpl
theorem D7(hc:CT X (.type T) r)(hg:Gl X x)(hm:X.mg x=none)(hv:bootBuiltins x=some (.type T))(ha:PA X (e::es) t)(hn:x ≠ "__name__" := by decide)(hdb:(x==("__debug__" : Str))=false:=by decide)
  (he:starEach (e::es) X.env=(false,eval e X.env)::starEach es X.env:=by rfl) (hpl:(backTo pos (starEach es X.env)).any (·.1)=false:=by rfl):PE X (.Call (.Name x p) (e::es) [] pos) (tCB r t):=by
 intro pins s σ H Q I h;refine wpAny_Call_Name_kw (FN I hg hm hv ?_ hn hdb);exact PyProof.Rows.callWith_type1 (thn (ha pos pins s σ H _ I h) λus s1 ⟨vs,H1,I1,r1,q1⟩=>hc pins s1 σ H1 vs us Q I1 r1 q1) he hpl
end
end L2
namespace HT
open PySem PyProof.Rows
section
open PySem.SeqAt
open PySem.AutoSeq1 (wpAny_loadPart')
open PySem.MeetsSeq PySem.MeetsSeq2 PySem.MeetsSeq3
end
section
variable{prog:Program}{w:World}{A:Around}{E:Value->Shared->Prop}{s:Shared}
theorem YQ(ht:IsTup s.heap t vs.toArray)(hb:IsTup s.heap b ws.toArray)(hv:vs≠[])
  (h1:ws=[]->Q (.ref t) s) (h2:ws≠[]->Q (.ref s.heap.objs.size) { s with heap:=s.heap.push { cls:=.type "tuple",data:=.seq (vs++ws).toArray } })
  (hsz:vs.length+ws.length<=sizeLine):wpAny (model prog w) A (binaryOp .Add (.ref t) (.ref b)) Q E s:=by
 obtain⟨⟨cls,dd,data,sl⟩,ho,hc,n,hd⟩:=id ht;obtain⟨⟨cls2,dd2,data2,sl2⟩,ho2,hc2,n2,hd2⟩:=id hb;simp only at hc hd hc2 hd2;subst hc hd hc2 hd2;have e:vs.toArray++ws.toArray=(vs++ws).toArray:=by simp
 by_cases hw:ws=[]
 ·exact concat_meets ⟨_,ho,rfl⟩ ⟨_,ho2,rfl⟩ noFill_tuple_add seq_tuple_add PySem.F.slot_tuple_add PySem.F.entry_tuple_add (PySem.F.args_tuple_add_2 _ _)
   (tuple_addW1 t b vs.toArray ws.toArray n n2 dd dd2 sl sl2 (by simpa using hv) (by simp[hw])) ⟨ho,ho2,h1 hw⟩
 ·refine concat_meets ⟨_,ho,rfl⟩ ⟨_,ho2,rfl⟩ noFill_tuple_add seq_tuple_add PySem.F.slot_tuple_add PySem.F.entry_tuple_add (PySem.F.args_tuple_add_2 _ _)
   (tuple_addW2 t b vs.toArray ws.toArray n n2 dd dd2 sl sl2 (by simpa using hv) (by simpa using hw) (by rw[List.size_toArray,List.size_toArray];exact hsz)) ⟨ho,ho2,?_⟩
  rw[e];exact h2 hw
noncomputable def sIx(n d:Nat):Option Int->Nat
 |none=>d
 |some v=>if v<0 then (v+(n:Int)).toNat else min v.toNat n
theorem M2(n d:Nat):sIx n d none=d:=rfl
theorem P8(n d k:Nat):sIx n d (some (k:Int))=min k n:=by
 show (if (k:Int)<0 then ((k:Int)+(n:Int)).toNat else min (k:Int).toNat n)=min k n;rw[if_neg (by omega),Int.toNat_natCast]
theorem ZW(n d:Nat)(hd:d<=n)(o:Option Int):sIx n d o<=n:=by
 cases o with
 |none=>exact hd
 |some v=>
  show (if v<0 then (v+(n:Int)).toNat else min v.toNat n)<=n;by_cases hv:v<0
  ·rw[if_pos hv];omega
  ·rw[if_neg hv];exact Nat.min_le_right _ _
theorem Qw(v:Int)(n d:Nat):(if v<0 then max (v+(n:Int)) 0 else min v (n:Int))=((sIx n d (some v):Nat):Int):=by
 show (if v<0 then max (v+(n:Int)) 0 else min v (n:Int))=(((if v<0 then (v+(n:Int)).toNat else min v.toNat n):Nat):Int);by_cases hv:v<0
 ·simp only[if_pos hv];omega
 ·simp only[if_neg hv];omega
theorem PJ(lo hi:Option Int)(n:Nat):Builtin.Slice.sliceAdjust lo hi 1 (n:Int)=(((sIx n 0 lo:Nat):Int),((sIx n n hi:Nat):Int)):=by
 have h1:¬((1:Int)<0):=by omega
 unfold Builtin.Slice.sliceAdjust;simp only[h1,if_false];refine Prod.ext ?_ ?_
 ·cases lo with
  |none=>rfl
  |some v=>exact Qw v n 0
 ·cases hi with
  |none=>rfl
  |some v=>exact Qw v n n
theorem Oh(i j:Nat):Builtin.Slice.slicePlaces (i:Int) (j:Int) 1=j-i:=by
 unfold Builtin.Slice.slicePlaces;have h1:(1:Int) > 0:=by omega
 simp only[h1,if_true,Int.ediv_one];split<;>omega
theorem Ix(p:IsPart v o)(h:Q o s):wpAny (model prog w) A (Builtin.Slice.slicePartIndex v) Q E s:=by
 cases p with
 |none=>exact slicePart_none h
 |int i t=>exact slicePart_int h
theorem D3{sl:Addr}{vl vu:Value}{lo hi:Option Int}{n:Nat}{Q:Int×Int×Nat->Shared->Prop}(hs:s.heap.IsSliceOf sl vl vu .none)(pl:IsPart vl lo)(pu:IsPart vu hi)
  (h:Q (((sIx n 0 lo:Nat):Int),1,sIx n n hi-sIx n 0 lo) s):wpAny (model prog w) A (Builtin.Slice.sliceApplied (.ref sl) (pure (n:Int))) Q E s:=by
 obtain⟨os,hos,hcs,hds⟩:=id hs;unfold Builtin.Slice.sliceApplied Builtin.Slice.sliceFields;refine AAA (AAA (AAz hos hds (x:=vl) rfl (AAA (AAz hos hds (x:=vu) rfl (AAA (AAz hos hds (x:=.none) rfl (AAB ?_)))))));refine AAA (slicePart_none ?_);show wpAny _ _ (if ((1:Int)==0)=true then _ else _) _ _ s;rw[if_neg (by decide)];refine AAA (Ix pl (AAA (Ix pu (AAA (AAB ?_)))));show wpAny _ _ (match Builtin.Slice.sliceAdjust lo hi 1 (n:Int) with|(lo,hi)=>pure (lo,(1:Int),Builtin.Slice.slicePlaces lo hi 1)) _ _ s;rw[PJ lo hi n];show wpAny _ _ (pure (((sIx n 0 lo:Nat):Int),(1:Int),Builtin.Slice.slicePlaces ((sIx n 0 lo:Nat):Int) ((sIx n n hi:Nat):Int) 1)) _ _ s;rw[Oh];exact AAB h
theorem UW(xs:Array Value)(i k:Nat):((List.range k).filterMap λ(m:Nat)=>xs[((i:Int)+(m:Int) * 1).toNat]?).toArray=((xs.toList.drop i).take k).toArray:=by
 have e:(λ(m:Nat)=>xs[((i:Int)+(m:Int) * 1).toNat]?)=λm=>xs[i+m]?:=by
  funext m
  have:((i:Int)+(m:Int) * 1).toNat=i+m:=by omega
  rw[this]
 rw[e];have:=pick_run xs i k;rw[List.filterMap_map] at this;have e2:((λx=>xs[x]?) ∘ λx=>i+x)=λm=>xs[i+m]?:=rfl;rw[e2] at this;rw[this]
theorem GX{t sl:Addr}{items:Array Value}{vl vu:Value}{lo hi:Option Int}{Q:Value->Shared->Prop}(ht:IsTup s.heap t items)(hs:s.heap.IsSliceOf sl vl vu .none)(pl:IsPart vl lo)(pu:IsPart vu hi)
  (hw:¬(sIx items.size 0 lo=0/\sIx items.size items.size hi=items.size))
  (h:Q (.ref s.heap.objs.size) { s with heap:=s.heap.push { cls:=.type "tuple",data:=.seq ((items.toList.drop (sIx items.size 0 lo)).take (sIx items.size items.size hi-sIx items.size 0 lo)).toArray } })
  (hsz:items.size<=sizeLine):wpAny (model prog w) A (getItem (.ref t) (.ref sl)) Q E s:=by
 have htake:sizeOk (.seq ((items.toList.drop (sIx items.size 0 lo)).take (sIx items.size items.size hi-sIx items.size 0 lo)).toArray):=by
  show ((items.toList.drop (sIx items.size 0 lo)).take (sIx items.size items.size hi-sIx items.size 0 lo)).toArray.size<=sizeLine;rw[List.size_toArray,List.length_take,List.length_drop,Array.length_toList];omega
 have hj:sIx items.size items.size hi<=items.size:=ZW _ _ (AAF _) hi;obtain⟨os,hos,hcs,hds⟩:=id hs;have hTs:s.TypeIs (.ref sl) "slice" := ⟨os,hos,hcs⟩;unfold getItem
 try with_reducible refine AAr ?_
 first|refine AAA (AAB ?_)|skip
 refine AAA (wpAny_sequenceKey ht.typeIs (by decide) ?_);refine AAA (wpAny_callSpecial?_slot (name:=Str.ofString "__getitem__") ht.typeIs PyProof.Rows.slot_tuple_getitem
  (AAe PyProof.Rows.slot_tuple_getitem ht.typeIs entry_tuple_getitem ?_ (args_tuple_getitem _ _)))
 show wpAny _ _ (Builtin.Tuple.tupleItemsOf (.ref t) >>= _) _ _ s;refine AAA (tupleItemsOf_ ht ?_);refine AAA (wpAny_typeOf hTs ?_);rw[if_pos (by decide)];refine AAA (D3 hs pl pu ?_);have hno:¬((((sIx items.size 0 lo:Nat):Int)==0&&(1:Int)==1&&(sIx items.size items.size hi-sIx items.size 0 lo)==items.size)=true):=by
  intro q;rw[Bool.and_eq_true,Bool.and_eq_true] at q;have q1:((sIx items.size 0 lo:Nat):Int)=0:=eq_of_beq q.1.1;have q2:sIx items.size items.size hi-sIx items.size 0 lo=items.size:=eq_of_beq q.2;exact hw ⟨by omega,by omega⟩
 show wpAny _ _ (if (((sIx items.size 0 lo:Nat):Int)==0&&(1:Int)==1&&(sIx items.size items.size hi-sIx items.size 0 lo)==items.size)=true then _ else _) _ _ s;rw[if_neg hno,UW]
 first
  |exact AAA (m:=Builtin.Tuple.tupleExact _) (AAt (AAB ⟨_,rfl,AAB h⟩) htake)
  |exact AAA (m:=Builtin.Tuple.tupleExact _) (AAt (AAA (AAB (AAB ⟨_,rfl,AAB h⟩))) htake)
  |exact AAA (AAA (m:=Builtin.Tuple.tupleExact _) (AAt (AAB (AAB ⟨_,rfl,AAB h⟩)) htake))
  |exact AAA (AAA (m:=Builtin.Tuple.tupleExact _) (AAt (AAB ⟨_,rfl,AAB h⟩) htake))
end
end HT
namespace L2
open PySem PySem.Spec PyProof.Rows
abbrev TO:=St->Hp->(Option Int->Hp->Prop)->Prop
def PO(X:Cx)(e:Option Expr)(t:TO):Prop:=
 ∀(pins:List (Addr×Obj)) (s:Shared) (σ:St) (H:Hp) (Q:Option Int->Hp->Prop),Inv X pins σ H s->t σ H Q->
  wpAny (model X.prog X.w) X.A (evalPart e X.env) (λu s'=>∃o H',Inv X pins σ H' s'/\IsPart u o/\Q o H') X.xe s
def Wk:TO:=λ_ H Q=>Q none H
noncomputable def a8(t:TE):TO:=λσ H Q=>t σ H λx H1=>∃i,x=.int i/\Q (some i) H1
theorem Ji:∀{us:List Value},Vals (ns.map V.int) us->IntsAre us ns:=by
 induction ns with
 |nil=>intro us r;rw[List.map_nil] at r;cases r;exact .nil
 |cons n ns ih=>
  intro us r;rw[AAX] at r;cases r with
  |cons r1 r2=>
   obtain⟨t,e⟩:=r1;subst e;exact .cons n t (ih r2)
section
variable{X:Cx}{e:Expr}{te:TE}{lo hi:Option Expr}{tl th:TO}{pos p2:Pos}
theorem XQ:PO X none Wk:=by
 intro pins s σ H Q I h;rw[evalPart_none];exact AAB ⟨none,H,I,.none,h⟩
theorem XO(h:PE X e te):PO X (some e) (a8 te):=by
 intro pins s σ H Q I hw;rw[evalPart_some];refine thn (h pins s σ H _ I hw) λu s1 ⟨x,H1,I1,r1,q1⟩=>?_;obtain⟨i,rfl,q⟩:=q1;obtain⟨t,rfl⟩:=r1;exact⟨some i,H1,I1,.int i t,q⟩
def SlR(X:Cx)(r:V->Option Int->Option Int->Hp->VK->Prop):Prop:=
 ∀(pins:List (Addr×Obj)) (s:Shared) (σ:St) (H:Hp) (x:V) (v vl vu:Value) (lo hi:Option Int) (sl:Addr) (Q:VK),Inv X pins σ H s->RelV x v->s.heap.IsSliceOf sl vl vu .none->IsPart vl lo->IsPart vu hi->r x lo hi H Q->
  ∃T id,typeLookup (.type T) "__getitem__" = pure (some (.builtin id))/\s.TypeIs v T/\wpAny (model X.prog X.w) X.A (getItem v (.ref sl)) (EP X pins σ Q) X.xe s
theorem SlR.or(h:SlR X r)(h':SlR X r'):SlR X (λx lo hi H Q=>r x lo hi H Q∨r' x lo hi H Q):=by
 intro pins s σ H x v vl vu lo hi sl Q I rx hs pl pu q;rcases q with q|q
 ·exact h pins s σ H x v vl vu lo hi sl Q I rx hs pl pu q
 ·exact h' pins s σ H x v vl vu lo hi sl Q I rx hs pl pu q
noncomputable def tSl(r:V->Option Int->Option Int->Hp->VK->Prop)(te:TE)(tl th:TO):TE:=λσ H Q=>te σ H λx H1=>tl σ H1 λl H2=>th σ H2 λu H3=>r x l u H3 Q
theorem Ua(hr:SlR X r)(he:PE X e te)(hl:PO X lo tl)(hu:PO X hi th):PE X (.Subscript e (.Slice lo hi none p2) pos) (tSl r te tl th):=by
 intro pins s σ H Q I h;refine Subscript_ (thn (he pins s σ H _ I h) λv s1 ⟨x,H1,I1,r1,q1⟩=>?_);refine wpAny_Slice (thn (hl pins s1 σ H1 _ I1 q1) λvl s2 ⟨l,H2,I2,pl,q2⟩=>thn (hu pins s2 σ H2 _ I2 q2) λvu s3 ⟨u,H3,I3,pu,q3⟩=>?_);rw[evalPart_none];refine AAB ?_;have I4:Inv X pins σ H3 { s3 with heap:=s3.heap.push { cls:=.type "slice",data:=.fields #[vl,vu,.none] } }:=I3.kept (t':=s3.toks) λb ob q=>AAC _ q;obtain⟨T,id,hT,ht,hg⟩:=hr pins { s3 with heap:=s3.heap.push { cls:=.type "slice",data:=.fields #[vl,vu,.none] } } σ H3 x v vl vu l u s3.heap.objs.size Q I4 r1 (Heap.IsSliceOf.new ..) pl pu q3;show wpAny (model X.prog X.w) X.A (subscriptTail e (.Slice lo hi none p2) v (.ref s3.heap.objs.size)) (EP X pins σ Q) X.xe { s3 with heap:=s3.heap.push { cls:=.type "slice",data:=.fields #[vl,vu,.none] } };exact tail_any (ops:=[.ref s3.heap.objs.size,v]) ht hT hg (by with_unfolding_all rfl)
noncomputable def Nz(xs:List V)(lo hi:Option Int):List V:=(xs.drop (HT.sIx xs.length 0 lo)).take (HT.sIx xs.length xs.length hi-HT.sIx xs.length 0 lo)
theorem Hy(xs:List V)(lo hi:Option Int):(Nz xs lo hi).length<=xs.length:=by
 unfold Nz;rw[List.length_take,List.length_drop];omega
noncomputable def cy(K:PySem.W.Frag):V->Option Int->Option Int->Hp->VK->Prop:=λx lo hi H Q=>∃a xs,x=.ref a/\SqT K H a xs /\
 ¬(HT.sIx xs.length 0 lo=0/\HT.sIx xs.length xs.length hi=xs.length)/\∀p,H p=none->Q (.ref p) (upd H p (.tup (Nz xs lo hi)))
theorem ZU:SlR X (cy X.K):=by
 intro pins s σ H x v vl vu lo hi sl Q I rx hs pl pu h;obtain⟨a,xs,rfl,hx,hw,q⟩:=h;cases rx;obtain⟨its,r,ht,hz⟩:=I.tuple hx;have hlen:its.toArray.size=xs.length:=by rw[List.size_toArray];exact r.length.symm
 refine⟨"tuple",_,PyProof.Rows.slot_tuple_getitem.lookup,ht.typeIs,?_⟩;refine HT.GX ht hs pl pu (by rw[hlen];exact hw) ?_ (by rw[hlen];exact hz);rw[hlen];refine⟨.ref s.heap.objs.size,_,I.laid (t':=s.toks) (o:=.tup (Nz xs lo hi)) (λb ob q=>AAC _ q) (AAF _) ?_,rfl,q _ (I.hok.fresh (AAF _))⟩;exact⟨AAv (Hy xs lo hi) hz,_,(r.drop (HT.sIx xs.length 0 lo)).take (HT.sIx xs.length xs.length hi-HT.sIx xs.length 0 lo),IsTup.new _ _⟩
noncomputable def bT(K:PySem.W.Frag):R2:=λx y H Q=>∃a b xs ys,x=.ref a/\y=.ref b/\SqT K H a xs/\SqT K H b ys/\xs≠[]/\xs.length+ys.length<=sizeLine /\
 (ys=[]->Q (.ref a) H)/\(ys≠[]->∀p,H p=none->Q (.ref p) (upd H p (.tup (xs++ys))))
theorem Vals.nil_iff(r:Vals xs us):us=[]↔xs=[]:=by
 cases r with
 |nil=>simp
 |cons _ _=>simp
theorem Xg:OpR X (binaryOp .Add) (bT X.K):=by
 intro pins s σ H x y v u Q I rx ry h;obtain⟨a,b,xs,ys,rfl,rfl,ha,hb,hx,hz,q1,q2⟩:=h;cases rx;cases ry;obtain⟨its,r1,p1,_⟩:=I.tuple ha;obtain⟨its2,r2,p2,_⟩:=I.tuple hb;refine HT.YQ p1 p2 (λz=>hx (r1.nil_iff.mp z)) (λz=>⟨.ref a,H,I,rfl,q1 (r2.nil_iff.mp z)⟩) (λz=>?_) (by rw[←r1.length,←r2.length];exact hz);refine⟨.ref s.heap.objs.size,_,I.laid (t':=s.toks) (o:=.tup (xs++ys)) (λb ob q=>AAC _ q) (AAF _) ?_,rfl,q2 (λw=>z (r2.nil_iff.mpr w)) _ (I.hok.fresh (AAF _))⟩;exact⟨by rw[AAH];exact hz,_,r1.append r2,IsTup.new _ _⟩
theorem N4:CT X (.type "tuple") (λxs H Q=>∃a ys,xs=[.ref a]/\SqT X.K H a ys/\Q (.ref a) H):=by
 intro pins s σ H xs us Q I r h;obtain⟨a,ys,rfl,ha,q⟩:=h;obtain⟨u,rfl,ru⟩:=Ih r;cases ru;obtain⟨its,_,p1,_⟩:=I.tuple ha;exact call_tuple_same (items:=its.toArray) p1 ⟨.ref a,H,I,rfl,q⟩
end
noncomputable def ixN(n:Nat)(i:Int):Option Nat:=if 0<=i then (if i<n then some i.toNat else none) else if -(n:Int)<=i then some (i+n).toNat else none
noncomputable def atI{α:Type}(xs:List α)(i:Int):Option α:=(ixN xs.length i).bind λj=>xs[j]?
theorem Qi(h:ixN n i=some j):seqIndex? i n=some j/\j<n/\-(n:Int)<=i/\i<n:=by
 unfold ixN at h;by_cases h0:0<=i
 ·rw[if_pos h0] at h;by_cases h1:i<n
  ·rw[if_pos h1] at h;have e:i.toNat=j:=Option.some.inj h;exact⟨by rw[seqIndex_of h0 h1,e],by omega,by omega,h1⟩
  ·rw[if_neg h1] at h;cases h
 ·rw[if_neg h0] at h;by_cases h1:-(n:Int)<=i
  ·rw[if_pos h1] at h;have e:(i+n).toNat=j:=Option.some.inj h;exact⟨by rw[seqIndex_neg (by omega) h1,e],by omega,h1,by omega⟩
  ·rw[if_neg h1] at h;cases h
theorem MK(h:atI xs i=some v):∃j,seqIndex? i xs.length=some j/\xs[j]?=some v/\j<xs.length/\-(xs.length:Int)<=i/\i<xs.length:=by
 unfold atI at h;cases e:ixN xs.length i with
 |none=>rw[e] at h;cases h
 |some j=>
  rw[e] at h;obtain⟨h1,h2,h3,h4⟩:=Qi e;exact⟨j,h1,h,h2,h3,h4⟩
theorem Bk{α:Type}{xs:List α}{j:Nat}{v:α}(h:xs[j]?=some v):atI xs (j:Int)=some v:=by
 have hj:j<xs.length:=(AAU.mp h).1;have e:ixN xs.length (j:Int)=some j:=by
  unfold ixN;rw[if_pos (by omega),if_pos (by omega)];simp
 unfold atI;rw[e];exact h
theorem OB(xs:List α)(v:α):atI (xs++[v]) (-1)=some v:=by
 have hl:(xs++[v]).length=xs.length+1:=by simp
 have e:ixN (xs++[v]).length (-1)=some xs.length:=by
  unfold ixN;rw[hl,if_neg (by decide),if_pos (by omega)];congr 1;omega
 unfold atI;rw[e];show (xs++[v])[xs.length]?=some v;simp
def Q0(b:Expr):Prop:=∀o i,subscripted b false o i=operate [o,i] (getItem o i)
def IxR(X:Cx)(r:R2):Prop:=
 ∀(value slice:Expr) (pins:List (Addr×Obj)) (s:Shared) (σ:St) (H:Hp) (x y:V) (v u:Value) (Q:VK),Inv X pins σ H s->RelV x v->RelV y u->r x y H Q->
  subscripted slice false v u=operate [v,u] (getItem v u)->wpAny (model X.prog X.w) X.A (subscriptTail value slice v u) (EP X pins σ Q) X.xe s
def MtR(X:Cx)(id:String)(r:V->List V->Hp->VK->Prop):Prop:=
 ∀(pins:List (Addr×Obj)) (s:Shared) (σ:St) (H:Hp) (x:V) (xs:List V) (v:Value) (us:List Value) (Q:VK),Inv X pins σ H s->RelV x v->Vals xs us->r x xs H Q->
  wpAny (model X.prog X.w) X.A (call (.builtin id) (v::us)) (EP X pins σ Q) X.xe s
section
variable{X:Cx}{a b:Expr}{ta tb:TE}{pos:Pos}
theorem IxR.or(h:IxR X r)(h':IxR X r'):IxR X (λx y H Q=>r x y H Q∨r' x y H Q):=by
 intro value slice pins s σ H x y v u Q I rx ry q hs;rcases q with q|q
 ·exact h value slice pins s σ H x y v u Q I rx ry q hs
 ·exact h' value slice pins s σ H x y v u Q I rx ry q hs
theorem bc(hr:IxR X r)(ha:PE X a ta)(hb:PE X b tb)(hs:Q0 b):PE X (.Subscript a b pos) (tOp r ta tb):=by
 intro pins s σ H Q I h;exact Subscript_ (ah ha hb I h λv u s2 x y H2 I2 rx ry q=>hr a b pins s2 σ H2 x y v u Q I2 rx ry q (hs _ _))
noncomputable def bS(K:PySem.W.Frag):R2:=λx y H Q=>∃p xs i v,x=.ref p/\y=.int i/\SqL K H p xs/\atI xs i=some v/\Q v H
noncomputable def bQ(K:PySem.W.Frag):R2:=λx y H Q=>∃p xs i v,x=.ref p/\y=.int i/\SqT K H p xs/\atI xs i=some v/\Q v H
noncomputable def bR:R2:=λx y H Q=>∃z i c,x=.str z/\y=.int i/\z.length<=sizeLine/\atI z.cps.toList i=some c/\Q (.str ⟨#[c]⟩) H
theorem ix_list:IxR X (bS X.K):=by
 intro value slice pins s σ H x y v u Q I rx ry h hs;obtain⟨p,xs,i,z,rfl,rfl,hq,he,q⟩:=h;cases rx;obtain⟨t,rfl⟩:=ry;obtain⟨its,r,pl,hz⟩:=I.list hq;obtain⟨j,h1,h2,h3,h4,h5⟩:=MK he;obtain⟨w,ew,rw'⟩:=r.get h2;have hl:=r.length;have hn:=HG;have fin:EP X pins σ Q w s:=⟨z,H,I,rw',q⟩;by_cases h0:0<=i
 ·have hj:i.toNat=j:=by
   rw[seqIndex_of h0 h5] at h1;exact Option.some.inj h1
  exact item_listR pl.isList h0 (by omega) (by rw[hj];simpa using ew) fin hs
 ·have hj:(i+(its.toArray.size:Int)).toNat=j:=by
   rw[seqIndex_neg (by omega) h4] at h1;rw[List.size_toArray,←hl];exact Option.some.inj h1
  exact subscriptTail_builtinR (x:=w) pl.isList.typeIs slot_list_getitem.lookup
   (wpAny_getItem_list_neg (Q:=λr s'=>r=w/\EP X pins σ Q r s') pl.isList (by omega) (by rw[List.size_toArray]<;>omega) (by omega) (by rw[hj];simpa using ew) ⟨rfl,fin⟩) hs
theorem ix_tup:IxR X (bQ X.K):=by
 intro value slice pins s σ H x y v u Q I rx ry h hs;obtain⟨p,xs,i,z,rfl,rfl,hq,he,q⟩:=h;cases rx;obtain⟨t,rfl⟩:=ry;obtain⟨its,r,pl,hz⟩:=I.tuple hq;obtain⟨j,h1,h2,h3,h4,h5⟩:=MK he;obtain⟨w,ew,rw'⟩:=r.get h2;have hl:=r.length;have hn:=HG;have fin:EP X pins σ Q w s:=⟨z,H,I,rw',q⟩;exact subscriptTail_builtinR (x:=w) pl.typeIs slot_tuple_getitem.lookup
  (getItem_tuple (j:=j) (Q:=λr s'=>r=w/\EP X pins σ Q r s') pl (by omega) (by omega) (by rw[List.size_toArray,←hl];exact h1) (by simpa using ew) ⟨rfl,fin⟩) hs
theorem aP:IxR X bR:=by
 intro value slice pins s σ H x y v u Q I rx ry h hs;obtain⟨z,i,c,rfl,rfl,hz,he,q⟩:=h;obtain⟨t,rfl⟩:=rx;obtain⟨t',rfl⟩:=ry;obtain⟨j,h1,h2,h3,h4,h5⟩:=MK he;have hl:z.cps.toList.length=z.length:=by simp[Str.length]
 rw[hl] at h1 h4 h5;have hn:=HG;exact tail_any (typeIs_str s z t) slot_str_getitem.lookup (getItem_str (c:=c) (by
  have e1:decide (i < -(2 ^ 63:Int))=false:=AAO (by omega);have e2:decide (i ≥ 2 ^ 63)=false:=AAO (by omega);rw[e1,e2,Bool.or_false]) (by rw[h1];simpa using h2) ⟨.str ⟨#[c]⟩,H,I.tok _,⟨_,rfl⟩,q⟩) hs
noncomputable def rIx(K:PySem.W.Frag):R2:=λx y H Q=>bS K x y H Q∨bQ K x y H Q∨bR x y H Q
theorem Ov:IxR X (rIx X.K):=ix_list.or (ix_tup.or aP)
theorem Op(its:List Value)(n j:Nat)(u:Value):Obj.mapSeq (·.setIfInBounds j u) { cls:=.type "list",data:=.seq its.toArray n }={ cls:=.type "list",data:=.seq (its.set j u).toArray n }:=by
 simp[Obj.mapSeq]
theorem Inv.lst(I:Inv X pins σ H s)(h:H p=some (.lst xs)):
  ∃(its:List Value) (n:Nat),Vals xs its/\s.heap.get? p=some { cls:=.type "list",data:=.seq its.toArray n }/\xs.length<=sizeLine:=by
 obtain⟨z,its,n,r,e⟩:=I.hok p _ h;exact⟨its,n,r,e,z⟩
theorem Inv.lstUpd{pins:List (Addr×Obj)}{σ:St}{H:Hp}{s:Shared}{p:Addr}{xs ys:List V}{its its':List Value}{n n':Nat}{f:Obj->Obj}(I:Inv X pins σ H s)(h:H p=some (.lst xs))
  (ho:s.heap.get? p=some { cls:=.type "list",data:=.seq its.toArray n }) (hf:f { cls:=.type "list",data:=.seq its.toArray n }={ cls:=.type "list",data:=.seq its'.toArray n' }) (r:Vals ys its') (hz:ys.length<=sizeLine) (t:Nat) :
  Inv X pins σ (upd H p (.lst ys)) { s with heap:=s.heap.update p f,toks:=t }:=by
 have e:(s.heap.update p f).get? p=some { cls:=.type "list",data:=.seq its'.toArray n' }:=by
  rw[Heap.get?_update_self f ho (by rw[hf]<;>rfl),hf]
 refine I.write (x:=p) (e:=p) (by rw[h];trivial) (.inl rfl) (λb u hb q=>(Heap.get?_update_other _ _ (Ne.symm hb)).trans q) ⟨_,e⟩ ?_;exact⟨hz,its',n',r,e⟩
noncomputable def bP:V->V->V->Hp->(Hp->Prop)->Prop:=λo i v H Q=>∃p xs k j,o=.ref p/\i=.int k/\H p=some (.lst xs)/\ixN xs.length k=some j/\Q (upd H p (.lst (xs.set j v)))
theorem To:cW X bP:=by
 intro pins s σ H o i v ov iv u Q I ro ri rv h;obtain⟨p,xs,k,j,rfl,rfl,hp,hj,q⟩:=h;cases ro;obtain⟨t,rfl⟩:=ri;obtain⟨its,n,r,ho,hz⟩:=I.lst hp;obtain⟨h1,h2,h3,h4⟩:=Qi hj;have hl:=r.length;have hn:=HG;have I':Inv X pins σ (upd H p (.lst (xs.set j v))) { s with heap:=s.heap.update p (Obj.mapSeq (·.setIfInBounds j u)) }:=
  I.lstUpd hp ho (Op its n j u) (r.set rv j) (by rw[List.length_set];exact hz) s.toks
 by_cases h0:0<=k
 ·have hk:k.toNat=j:=by
   rw[seqIndex_of h0 h4] at h1;exact Option.some.inj h1
  exact PySem.W.ki_setAt ho h0 (by omega) (by rw[List.size_toArray,←hl];exact h4) (by rw[hk];exact⟨_,I',q⟩)
 ·have hk:(k+(its.toArray.size:Int)).toNat=j:=by
   rw[seqIndex_neg (by omega) h3] at h1;rw[List.size_toArray,←hl];exact Option.some.inj h1
  exact PySem.W.ki_setBack ho (by omega) (by rw[List.size_toArray,←hl];exact h3) (by omega) (by rw[hk];exact⟨_,I',q⟩)
theorem Lf(lo hi:Option Int)(n:Nat):(sliceBounds lo hi none n).1=((HT.sIx n 0 lo:Nat):Int)/\(sliceBounds lo hi none n).2.1=((HT.sIx n n hi:Nat):Int)/\(sliceBounds lo hi none n).2.2=1:=by
 refine⟨?_,?_,rfl⟩
 ·cases lo with
  |none=>simp[sliceBounds,HT.sIx]
  |some i=>
   simp only[sliceBounds,HT.sIx,Option.getD_none,show (1:Int) > 0 by decide,if_true];by_cases h:i<0
   ·simp only[h,if_true]<;>omega
   ·simp only[h,if_false]<;>omega
 ·cases hi with
  |none=>simp[sliceBounds,HT.sIx]
  |some i=>
   simp only[sliceBounds,HT.sIx,Option.getD_none,show (1:Int) > 0 by decide,if_true];by_cases h:i<0
   ·simp only[h,if_true]<;>omega
   ·simp only[h,if_false]<;>omega
theorem KF(its:List Value)(lo hi:Option Int):slicePick its.toArray lo hi none=((its.drop (HT.sIx its.length 0 lo)).take (HT.sIx its.length its.length hi-HT.sIx its.length 0 lo)).toArray:=by
 obtain⟨h1,h2,h3⟩:=Lf lo hi its.toArray.size;unfold slicePick;rw[h1,h2,h3];simp only[sliceRange_one,pick_run,List.size_toArray]<;>rfl
noncomputable def cz(K:PySem.W.Frag):V->Option Int->Option Int->Hp->VK->Prop:=λx lo hi H Q=>∃a xs,x=.ref a/\SqL K H a xs/\∀p,H p=none->Q (.ref p) (upd H p (.lst (Nz xs lo hi)))
theorem Wp:SlR X (cz X.K):=by
 intro pins s σ H x v vl vu lo hi sl Q I rx hs pl pu h;obtain⟨a,xs,rfl,hx,q⟩:=h;cases rx;obtain⟨its,r,ht,hz⟩:=I.list hx;have hlen:=r.length;refine⟨"list",_,slot_list_getitem.lookup,ht.isList.typeIs,?_⟩;refine wpAny_getItem_list_slice ht.isList hs pl pu .none (by simp) ?_ (by rw[List.size_toArray]<;>omega);rw[KF,←hlen];refine⟨.ref s.heap.objs.size,_,I.laid (t':=s.toks) (o:=.lst (Nz xs lo hi)) (λb ob q=>AAC _ q) (AAF _) ?_,rfl,q _ (I.hok.fresh (AAF _))⟩;exact⟨AAv (Hy xs lo hi) hz,_,0,(r.drop (HT.sIx xs.length 0 lo)).take (HT.sIx xs.length xs.length hi-HT.sIx xs.length 0 lo),AAD _ rfl⟩
noncomputable def DU:V->Bool
 | .non=>true
 | .bl _=>true
 | .int _=>true
 | .str _=>true
 |_=>false
noncomputable def eqV:V->V->Bool
 | .non,.non=>true
 | .bl a,.bl b=>a==b
 | .bl a,.int b=>(if a then 1 else 0)==b
 | .int a,.bl b=>a==(if b then 1 else 0)
 | .int a,.int b=>a==b
 | .str a,.str b=>a==b
 |_,_=>false
theorem ac(ry:RelV y u)(rx:RelV x v)(fy:DU y=true)(fx:DU x=true):SeqAt.EqAt A s u v (eqV y x):=by
 cases y with
 |non=>
  cases ry;cases x with
  |non=>cases rx;exact SeqAt.EqAt.same _
  |bl b=>cases rx;exact SeqAt.EqAt.none_bool b
  |int b=>obtain⟨t,rfl⟩:=rx;exact SeqAt.EqAt.none_int b t
  |str b=>obtain⟨t,rfl⟩:=rx;exact SeqAt.EqAt.none_str b t
  |_=>exact absurd (show false=true from fx) AAi
 |bl a=>
  cases ry;cases x with
  |non=>cases rx;exact SeqAt.EqAt.bool_none a
  |bl b=>cases rx;exact SeqAt.EqAt.bool_bool a b
  |int b=>obtain⟨t,rfl⟩:=rx;exact SeqAt.EqAt.bool_int a b t
  |str b=>obtain⟨t,rfl⟩:=rx;exact SeqAt.EqAt.bool_str a b t
  |_=>exact absurd (show false=true from fx) AAi
 |int a=>
  obtain⟨t',rfl⟩:=ry;cases x with
  |non=>cases rx;exact SeqAt.EqAt.int_none a t'
  |bl b=>cases rx;exact SeqAt.EqAt.int_bool a t' b
  |int b=>obtain⟨t,rfl⟩:=rx;exact SeqAt.EqAt.int_int a t' b t
  |str b=>obtain⟨t,rfl⟩:=rx;exact SeqAt.EqAt.int_str a t' b t
  |_=>exact absurd (show false=true from fx) AAi
 |str a=>
  obtain⟨t',rfl⟩:=ry;cases x with
  |non=>cases rx;exact SeqAt.EqAt.str_none a t'
  |bl b=>cases rx;exact SeqAt.EqAt.str_bool a t' b
  |int b=>obtain⟨t,rfl⟩:=rx;exact SeqAt.EqAt.str_int a t' b t
  |str b=>obtain⟨t,rfl⟩:=rx;exact SeqAt.EqAt.str_str a t' b t
  |_=>exact absurd (show false=true from fx) AAi
 |_=>exact absurd (show false=true from fy) AAi
noncomputable def eqU(x:V)(u:Value):Bool:=match u with
 | .none=>eqV .non x
 | .bool b=>eqV (.bl b) x
 | .int i _=>eqV (.int i) x
 | .str z _=>eqV (.str z) x
 |_=>false
theorem MD(r:RelV y u)(f:DU y=true):eqU x u=eqV y x:=by
 cases y with
 |non=>cases r;rfl
 |bl b=>cases r;rfl
 |int i=>obtain⟨t,rfl⟩:=r;rfl
 |str z=>obtain⟨t,rfl⟩:=r;rfl
 |_=>exact absurd (show false=true from f) AAi
theorem Gm:∀{xs:List V} {us:List Value},Vals xs us->xs.all DU=true->us.any (eqU x)=xs.any λy=>eqV y x
 |_,_,.nil,_=>rfl
 |y::xs,u::us,.cons r t,f=>by
  rw[List.all_cons,Bool.and_eq_true] at f;rw[List.any_cons,List.any_cons,MD r f.1,Gm t f.2]
theorem D8(rx:RelV x v)(fx:DU x=true):∀{xs:List V} {us:List Value},Vals xs us->xs.all DU=true->∀u∈us,SeqAt.EqAt A s u v (eqU x u)
 |_,_,.nil,_=>λu hu=>by cases hu
 |y::xs,u::us,.cons r t,f=>λu' hu=>by
  rw[List.all_cons,Bool.and_eq_true] at f;rcases AAJ.mp hu with rfl|hu
  ·rw[MD r f.1];exact ac r rx f.1 fx
  ·exact D8 rx fx t f.2 u' hu
noncomputable def inV(x:V)(xs:List V):Bool:=xs.any λy=>eqV y x
noncomputable def rIn(K:PySem.W.Frag)(neg:Bool):R2:=λx y H Q=>∃p xs,y=.ref p/\(SqL K H p xs∨SqT K H p xs)/\DU x=true/\xs.all DU=true/\Q (.bl (if neg then !inV x xs else inV x xs)) H
theorem Rk:OpR X (compareOp .In) (rIn X.K false):=by
 intro pins s σ H x y v u Q I rx ry h;obtain⟨p,xs,rfl,hq,fx,fs,q⟩:=h;cases ry;rcases hq with hq|hq
 ·obtain⟨its,r,pl,hz⟩:=I.list hq;refine SeqAt.in_listAt (eqU x) pl.isList (λw hw=>D8 rx fx r fs w (by simpa using hw)) ⟨.bl _,H,I,rfl,?_⟩;rw[show its.toArray.any (eqU x)=its.any (eqU x) by simp,Gm r fs];exact q
 ·obtain⟨its,r,pl,hz⟩:=I.tuple hq;refine SeqAt.in_tupleAt (eqU x) pl (λw hw=>D8 rx fx r fs w (by simpa using hw)) ⟨.bl _,H,I,rfl,?_⟩;rw[show its.toArray.any (eqU x)=its.any (eqU x) by simp,Gm r fs];exact q
theorem Lx:OpR X (compareOp .NotIn) (rIn X.K true):=by
 intro pins s σ H x y v u Q I rx ry h;obtain⟨p,xs,rfl,hq,fx,fs,q⟩:=h;cases ry;rcases hq with hq|hq
 ·obtain⟨its,r,pl,hz⟩:=I.list hq;refine SeqAt.notIn_listAt (eqU x) pl.isList (λw hw=>D8 rx fx r fs w (by simpa using hw)) ⟨.bl _,H,I,rfl,?_⟩;rw[show its.toArray.any (eqU x)=its.any (eqU x) by simp,Gm r fs];exact q
 ·obtain⟨its,r,pl,hz⟩:=I.tuple hq;refine SeqAt.notIn_tupleAt (eqU x) pl (λw hw=>D8 rx fx r fs w (by simpa using hw)) ⟨.bl _,H,I,rfl,?_⟩;rw[show its.toArray.any (eqU x)=its.any (eqU x) by simp,Gm r fs];exact q
def tyV(K:PySem.W.Frag)(T:String)(x:V)(H:Hp):Prop:=match x with
 | .str _=>T = "str"
 | .int _=>T = "int"
 | .ref p=>(T = "list" /\ ∃xs,SqL K H p xs)∨(T = "tuple" /\ ∃o,K.lookup p=some o/\o.cls=.type "tuple" /\ o.dict=none) ∨
   (T = "dict" /\ ((∃kvs,H p=some (.dK kvs))∨∃kvs,H p=some (.dT kvs)))∨(T = "set" /\ ∃S n,H p=some (.set S n))
 |_=>False
theorem TV(I:Inv X pins σ H s)(r:RelV x v)(ty:tyV X.K T x H):
  s.TypeIs v T/\∀a,v=.ref a->∃ob,s.heap.get? a=some ob/\ob.dict=none:=by
 cases x with
 |str z=>
  obtain⟨t,rfl⟩:=r;cases (show T = "str" from ty);exact⟨typeIs_str s z t,λ_ e=>nomatch e⟩
 |int i=>
  obtain⟨t,rfl⟩:=r;cases (show T = "int" from ty);exact⟨typeIs_int s i t,λ_ e=>nomatch e⟩
 |ref p=>
  cases r;rcases ty with ⟨rfl,xs,hq⟩|⟨rfl,o,hk,hc,hd⟩|⟨rfl,hk⟩|⟨rfl,S,n,hk⟩
  ·obtain⟨its,_,pl,_⟩:=I.list hq;refine⟨pl.isList.typeIs,λa e=>?_⟩;cases e;obtain⟨o,n,e,c,hd,_⟩:=pl;exact⟨o,e,hd⟩
  ·refine⟨⟨o,I.kIn p o hk,hc⟩,λa e=>?_⟩;cases e;exact⟨o,I.kIn _ o hk,hd⟩
  ·have z:∃o,s.heap.get? p=some o/\o.ExactDict:=by
    rcases hk with ⟨kvs,hk⟩|⟨kvs,hk⟩
    ·obtain⟨_,_,_,_,o,_,_,e,ex,_⟩:=I.hok p _ hk;exact⟨o,e,ex⟩
    ·obtain⟨_,_,_,_,o,_,_,e,ex,_⟩:=I.hok p _ hk;exact⟨o,e,ex⟩
   obtain⟨o,e,ex⟩:=z;refine⟨⟨o,e,ex.1⟩,λa e2=>?_⟩;cases e2;exact⟨o,e,ex.2.1⟩
  ·obtain⟨o,_,_,_,e,ex,_⟩:=I.hok p _ hk;refine⟨⟨o,e,ex.1⟩,λa e2=>?_⟩;cases e2;exact⟨o,e,ex.2.1⟩
 |_=>exact False.elim ty
noncomputable def bL(K:PySem.W.Frag)(T:String)(r:V->List V->Hp->VK->Prop)(to:TE):TE:=λσ H Q=>to σ H λx H1=>tyV K T x H1/\r x [] H1 Q
noncomputable def tBM(K:PySem.W.Frag)(T:String)(r:V->List V->Hp->VK->Prop)(to:TE)(t:TA):TE:=λσ H Q=>to σ H λx H1=>tyV K T x H1/\t σ H1 λxs H2=>r x xs H2 Q
variable{o e:Expr}{es:List Expr}{to:TE}{t:TA}{name:Str}{apos cpos:Pos}{T id:String}{r:V->List V->Hp->VK->Prop}
theorem Z0(pa:PlainAttrs T)(slot:Slot T name id)(hty:typeOf (.builtin id)=pure (.type "method_descriptor"))(hm:MtR X id r)(ho:PE X o to)
  (hbase:attributeBase o name X.env (eval o X.env)=eval o X.env:=by rfl) (hline:(apos.endLine==cpos.line)=true:=by rfl):PE X (.Call (.Attribute o name apos) [] [] cpos) (bL X.K T r to):=by
 intro pins s σ H Q I h;refine wpAny_Call_method0_late hbase hline (thn (ho pins s σ H _ I h) λv s1 zz=>?_);obtain⟨x,H1,I1,r1,ty,q1⟩:=zz;obtain⟨h1,h2⟩:=TV I1 r1 ty;exact⟨T,id,pa,slot,hty,h1,h2,Calls.callWith_builtin rfl (PySem.evalArgs_none (hm pins s1 σ H1 x [] v [] Q I1 r1 .nil q1))⟩
theorem Yg(pa:PlainAttrs T)(slot:Slot T name id)(hty:typeOf (.builtin id)=pure (.type "method_descriptor"))(hm:MtR X id r)(ho:PE X o to)(ha:PA X (e::es) t)
  (hbase:attributeBase o name X.env (eval o X.env)=eval o X.env:=by rfl)
  (hfew:((backTo cpos (starEach (e::es) X.env)).all (λx=>!x.1)&&(backToKw cpos (keywordEach [] X.env)).all (λx=>x.1.isSome)
   && decide ((e::es).length+([]:List Keyword).length+(if ([]:List Keyword).isEmpty then 0 else 1)<30))=true:=by rfl)
  (hline:(apos.endLine==cpos.line)=true:=by rfl) (hs:starEach (e::es) X.env=(false,eval e X.env)::starEach es X.env:=by rfl) (hplain:(backTo cpos (starEach es X.env)).any (·.1)=false:=by rfl) :
  PE X (.Call (.Attribute o name apos) (e::es) [] cpos) (tBM X.K T r to t):=by
 intro pins s σ H Q I h;refine wpAny_Call_method_late hbase hfew hline rfl (thn (ho pins s σ H _ I h) λv s1 zz=>?_);obtain⟨x,H1,I1,r1,ty,q1⟩:=zz;obtain⟨h1,h2⟩:=TV I1 r1 ty;refine⟨T,id,pa,slot,hty,h1,h2,?_⟩;have hA:=ha cpos pins s1 σ H1 _ I1 q1;rw[hs] at hA ⊢;refine Calls.callWith_builtin (by show (false||(backTo cpos (starEach es X.env)).any (·.1))=false;rw[hplain]<;>rfl) (Calls.evalArgs_plain ?_);exact thn hA λus s2 ⟨vs,H2,I2,r2,q2⟩=>hm pins s2 σ H2 x vs v us Q I2 r1 r2 q2
end
def MtM(X:Cx)(id:String)(r:V->List V->Hp->VK->Prop):Prop:=
 ∀(pins:List (Addr×Obj)) (s:Shared) (σ:St) (H:Hp) (x:V) (xs:List V) (v:Value) (us:List Value) (Q:VK),Inv X pins σ H s->RelV x v->Vals xs us->r x xs H Q->
  wpAny (model X.prog X.w) X.A (call (.builtin id) (v::us)) (EP X pins σ Q) X.xe s
theorem Vals.one{x:V}{us:List Value}(h:Vals [x] us):∃u,us=[u]/\RelV x u:=by
 cases h with
 |cons r h=>cases h;exact⟨_,rfl,r⟩
theorem Vals.two{x y:V}{us:List Value}(h:Vals [x,y] us):∃u v,us=[u,v]/\RelV x u/\RelV y v:=by
 cases h with
 |cons r h=>
  obtain⟨u,rfl,q⟩:=Vals.one h;exact⟨_,_,rfl,r,q⟩
theorem Vals.zero:∀{us:List Value},Vals [] us->us=[]
 |_,.nil=>rfl
theorem Vals.dropLast(h:Vals xs us):Vals xs.dropLast us.dropLast:=by
 induction h with
 |nil=>exact .nil
 |cons r t ih=>
  cases t with
  |nil=>exact .nil
  |cons q t'=>exact .cons r ih
theorem Vals.reverse(h:Vals xs us):Vals xs.reverse us.reverse:=by
 induction h with
 |nil=>exact .nil
 |cons r t ih=>rw[List.reverse_cons,List.reverse_cons];exact Vals.append ih (.cons r .nil)
theorem Vals.rep(h:Vals xs us):∀k:Nat,Vals (List.replicate k xs).flatten (List.replicate k us).flatten
 |0=>.nil
 |k+1=>by
  rw[AAn,AAn,List.flatten_cons,List.flatten_cons];exact Vals.append h (Vals.rep h k)
theorem O1(l:List α):l.eraseIdx (l.length-1)=l.dropLast:=by
 induction l with
 |nil=>rfl
 |cons a r ih=>
  cases r with
  |nil=>rfl
  |cons b r=>
   have e:(a::b::r).length-1=((b::r).length-1)+1:=by
    have h1:(a::b::r).length=r.length+2:=rfl;have h2:(b::r).length=r.length+1:=rfl;omega
   rw[e,List.eraseIdx_cons_succ,ih]
   all_goals rfl
theorem K8(its:List Value):∀(k:Nat) (acc:List Value),
  List.foldl (λx1 x2=>x1++x2) acc.toArray (List.replicate k its.toArray)=(acc++(List.replicate k its).flatten).toArray
 |0,acc=>by simp
 |k+1,acc=>by
  have e:acc.toArray++its.toArray=(acc++its).toArray:=by simp
  have e2:(acc++its)++(List.replicate k its).flatten=acc++(List.replicate (k+1) its).flatten:=by
   rw[AAn,List.flatten_cons,AAo]
  rw[←e2,←K8 its k (acc++its),←e,AAn,List.foldl_cons]
section
variable{X:Cx}{pins:List (Addr×Obj)}{σ:St}{H:Hp}{s:Shared}{l:Addr}{xs ys:List V}
theorem Inv.lset{its its':List Value}{n:Nat}{f:Array Value->Array Value}{t':Nat}(I:Inv X pins σ H s)(hH:H l=some (.lst xs))
  (e:s.heap.get? l=some { cls:=.type "list",data:=.seq its.toArray n }) (hf:f its.toArray=its'.toArray) (hv:Vals ys its') (hz:ys.length<=sizeLine) :
  Inv X pins σ (upd H l (.lst ys)) { s with heap:=s.heap.update l (Obj.mapSeq f),toks:=t' }:=by
 have q:=PySem.IsL.update e f;rw[hf] at q;refine I.write (x:=l) (e:=l) (by rw[hH];exact trivial) (.inl rfl) (λb' u hb hu=>(Heap.get?_update_other s.heap (Obj.mapSeq f) (Ne.symm hb)).trans hu) ⟨_,q⟩ ?_;exact⟨hz,its',_,hv,q⟩
theorem Inv.lnew(I:Inv X pins σ H s)(hv:Vals ys its)(hz:ys.length<=sizeLine):
  Inv X pins σ (upd H s.heap.objs.size (.lst ys)) { s with heap:=s.heap.push { cls:=.type "list",data:=.seq its.toArray },toks:=t' }:=
 I.laid (λ_ _ q=>AAC _ q) (AAF _) ⟨hz,its,0,hv,AAD _ rfl⟩
theorem Inv.fresh(I:Inv X pins σ H s):H s.heap.objs.size=none:=I.hok.fresh (AAF _)
theorem Inv.lstM(I:Inv X pins σ H s)(hH:H l=some (.lst xs)):xs.length<=sizeLine/\∃(its:List Value) (n:Nat),Vals xs its/\xs.length=its.length/\s.heap.get? l=some { cls:=.type "list",data:=.seq its.toArray n }:=by
 obtain⟨z,its,n,r,e⟩:=I.hok l _ hH;exact⟨z,its,n,r,r.length,e⟩
theorem NO(h:n<=sizeLine):Builtin.List.listTooLong n=false:=by
 unfold Builtin.List.listTooLong;exact AAO (by omega)
end
section
variable{X:Cx}
noncomputable def XB:V->List V->Hp->VK->Prop:=λx vs H Q=>∃l xs y,x=.ref l/\vs=[y]/\H l=some (.lst xs)/\xs.length<sizeLine/\Q .non (upd H l (.lst (xs++[y])))
theorem Rp:MtM X "list.append" XB:=by
 intro pins s σ H x vs v us Q I rx rv h;obtain⟨l,xs,y,rfl,rfl,hH,hz,q⟩:=h;cases rx;obtain⟨u,rfl,ru⟩:=rv.one;obtain⟨z,its,n,r,hl,e⟩:=I.lstM hH;refine call_meets F.slot_list_append ⟨_,e,rfl⟩ F.entry_list_append (F.args_list_append_2 _ _) (PySem.list_append l its.toArray n u (by rw[List.size_toArray];omega)) ⟨e,?_⟩;refine⟨.non,_,I.lset (its':=its++[u]) hH e (by simp) (r.append (.cons ru .nil)) ?_,rfl,q⟩;rw[AAH,List.length_singleton];omega
noncomputable def XA:V->List V->Hp->VK->Prop:=λx vs H Q=>∃l b xs zs,x=.ref l/\vs=[.ref b]/\H l=some (.lst xs)/\H b=some (.lst zs)/\xs.length+zs.length<=sizeLine/\Q .non (upd H l (.lst (xs++zs)))
theorem Ro:MtM X "list.extend" XA:=by
 intro pins s σ H x vs v us Q I rx rv h;obtain⟨l,b,xs,zs,rfl,rfl,hH,hB,hz,q⟩:=h;cases rx;obtain⟨u,rfl,ru⟩:=rv.one;cases ru;obtain⟨z,its,n,r,hl,e⟩:=I.lstM hH;obtain⟨z2,its2,n2,r2,hl2,e2⟩:=I.lstM hB;have hsz:its.toArray.size+its2.toArray.size<=sizeLine:=by rw[List.size_toArray,List.size_toArray];omega
 have hlong:¬(!its.toArray.isEmpty&&Builtin.List.listTooLong (its.toArray.size+its2.toArray.size))=true:=by
  rw[NO hsz,Bool.and_false];exact AAi
 refine call_meets F.slot_list_extend ⟨_,e,rfl⟩ F.entry_list_extend (F.args_list_extend_2 _ _)
  (AutoSeq1.list_extend_list_list_0 l its.toArray n b its2.toArray n2 hlong (by rw[List.size_toArray];omega) (by omega)) ⟨e,e2,?_⟩
 refine⟨.non,_,I.lset (its':=its++its2) hH e (by simp) (r.append r2) ?_,rfl,q⟩;rw[AAH];omega
noncomputable def c8:V->List V->Hp->VK->Prop:=λx vs H Q=>∃l xs y,x=.ref l/\vs=[]/\H l=some (.lst xs)/\xs[xs.length-1]?=some y/\Q y (upd H l (.lst xs.dropLast))
theorem aG:MtM X "list.pop" c8:=by
 intro pins s σ H x vs v us Q I rx rv h;obtain⟨l,xs,y,rfl,rfl,hH,hy,q⟩:=h;cases rx;have hus:=rv.zero;subst hus;obtain⟨z,its,n,r,hl,e⟩:=I.lstM hH;obtain⟨u,hu,ru⟩:=r.get hy;have hy':its.toArray[its.toArray.size-1]?=some u:=by
  show its.toArray[its.length-1]?=some u;rw[←Array.getElem?_toList,←hl];exact hu
 refine call_meets F.slot_list_pop ⟨_,e,rfl⟩ F.entry_list_pop (F.args_list_pop_1 _) (MeetsSeq.list_pop_last l its.toArray n u hy' (by rw[List.size_toArray];omega)) ⟨e,?_⟩;refine⟨y,_,I.lset (its':=its.dropLast) hH e ?_ r.dropLast ?_,ru,q⟩
 ·show its.toArray.eraseIdxIfInBounds (its.toArray.size-1)=its.dropLast.toArray;rw[List.size_toArray,List.eraseIdxIfInBounds_toArray,O1]
 ·rw[List.length_dropLast];omega
noncomputable def dB:R2:=λx y H Q=>∃l b xs zs,x=.ref l/\y=.ref b/\H l=some (.lst xs)/\H b=some (.lst zs)/\xs.length+zs.length<=sizeLine/\∀p,H p=none->Q (.ref p) (upd H p (.lst (xs++zs)))
theorem Um:OpR X (binaryOp .Add) dB:=by
 intro pins s σ H x y v u Q I rx ry h;obtain⟨l,b,xs,zs,rfl,rfl,hH,hB,hz,q⟩:=h;cases rx;cases ry;obtain⟨z,its,n,r,hl,e⟩:=I.lstM hH;obtain⟨z2,its2,n2,r2,hl2,e2⟩:=I.lstM hB;refine PySem.P.add_list e e2 ?_ (by rw[List.size_toArray,List.size_toArray];omega);have ea:its.toArray++its2.toArray=(its++its2).toArray:=by simp
 rw[ea];exact⟨.ref _,_,I.lnew (t':=s.toks) (r.append r2) (by rw[AAH];omega),rfl,q _ I.fresh⟩
noncomputable def c7:R2:=λx y H Q=>∃l k xs,x=.ref l/\y=.int k/\H l=some (.lst xs)/\-(2 ^ 63)<=k/\k<2 ^ 63/\xs.length * k.toNat<=sizeLine /\
 ∀p,H p=none->Q (.ref p) (upd H p (.lst (List.replicate k.toNat xs).flatten))
theorem Qc(xs:List α)(k:Nat):(List.replicate k xs).flatten.length=k * xs.length:=by
 induction k with
 |zero=>simp
 |succ k ih=>rw[AAn,List.flatten_cons,AAH,ih,Nat.succ_mul,Nat.add_comm]
theorem Z3:OpR X (binaryOp .Mult) c7:=by
 intro pins s σ H x y v u Q I rx ry h;obtain⟨l,k,xs,rfl,rfl,hH,h1,h2,hz,q⟩:=h;cases rx;obtain⟨t,rfl⟩:=ry;obtain⟨z,its,n,r,hl,e⟩:=I.lstM hH;have hlen:its.toArray.size * k.toNat<=sizeLine:=by rw[List.size_toArray,←hl];exact hz
 have hcap:¬its.toArray.size * k.toNat > (2 ^ 63-1) / 8:=by
  have:(sizeLine:Nat)<=(2 ^ 63-1) / 8:=by decide
  omega
 have hfit:¬(!Builtin.List.listFitsIndex k)=true:=by
  rw[fitsIndex_both h1 h2];exact AAi
 have hlong:¬Builtin.List.listTooLong (its.toArray.size * k.toNat)=true:=by
  rw[NO hlen];exact AAi
 have hnew:List.foldl (λx1 x2=>x1++x2) #[] (List.replicate (if its.toArray.isEmpty=true then 0 else k.toNat) its.toArray)=(List.replicate k.toNat its).flatten.toArray:=by
  have f0:∀m:Nat,List.foldl (λx1 x2=>x1++x2) #[] (List.replicate m its.toArray)=(List.replicate m its).flatten.toArray:=λm=>by
   have:=K8 its m [];rw[List.nil_append] at this;exact this
  rw[f0];cases its with
  |nil=>simp
  |cons a r'=>rw[if_neg (by simp)]
 refine wpAny_binaryOp_repeat_ref (T := "list") (U := "int") (by decide) ⟨_,e,rfl⟩ (λs'=>typeIs_int s' k t) noFill_list_mul F.fills_int_mul F.slot_int_rmul repeat_list F.slot_int_index.lookup
  (call_meets F.slot_int_rmul (typeIs_int s k t) F.entry_int_rmul (F.args_int_rmul_2 _ _) (int___rmul___int_list k t l its.toArray n)
   ⟨e,rfl,⟨_,e,rfl⟩,call_meets F.slot_list_mul ⟨_,e,rfl⟩ F.entry_list_mul (F.args_list_mul_2 _ _) (AutoListH.list___mul___list_int_3 l its.toArray n k t hfit hcap hlong) ⟨e,?_⟩⟩)
 rw[hnew];exact⟨.ref _,_,I.lnew (t':=s.toks) (r.rep k.toNat) (by rw[Qc,Nat.mul_comm];exact hz),rfl,q _ I.fresh⟩
end
section
variable{κ:Type}[DecidableEq κ]
def Fv(kvs:List (κ×V))(k:κ):Option V:=(kvs.find? λkv=>decide (kv.1=k)).map (·.2)
def Da(kvs:List (κ×V))(k:κ)(v:V):List (κ×V):=
 if (kvs.any λkv=>decide (kv.1=k))=true then kvs.map (λkv=>if kv.1=k then (kv.1,v) else kv) else kvs++[(k,v)]
theorem Ii{p:κ×V}{r:List (κ×V)}{k:κ}(e:p.1=k):Fv (p::r) k=some p.2:=by simp[Fv,List.find?_cons,e]
theorem Ij{p:κ×V}{r:List (κ×V)}{k:κ}(e:¬p.1=k):Fv (p::r) k=Fv r k:=by simp[Fv,List.find?_cons,e]
theorem Mf(k:κ):∀kvs:List (κ×V),(kvs.any λkv=>decide (kv.1=k))=(Fv kvs k).isSome
 |[]=>rfl
 |p::r=>by
  rw[List.any_cons];by_cases e:p.1=k
  ·simp only[Ii e,AAP e,Bool.true_or,Option.isSome_some]
  ·rw[Ij e,AAO e,Bool.false_or];exact Mf k r
theorem FM(kvs:List (κ×V))(k:κ)(v:V):(Da kvs k v).length<=kvs.length+1:=by
 unfold Da;split
 ·rw[AAG];omega
 ·rw[AAH,AAI,List.length_nil];omega
theorem RelO.isSome_eq(r:RelO o u):o.isSome=u.isSome:=by
 cases o with
 |none=>cases u with
  |none=>rfl
  |some _=>exact(show False from r).elim
 |some _=>cases u with
  |none=>exact(show False from r).elim
  |some _=>rfl
theorem KV.val{kvs:List (κ×V)}{vs:List (κ×Value)}(r:KV kvs vs)(k:κ):RelO (Fv kvs k) (valueAt vs k):=by
 unfold KV at r
 induction r with
 |nil=>exact True.intro
 |@cons p q ps qs h t ih=>
  obtain⟨h1,h2⟩:=h;by_cases e:p.1=k
  ·have e':q.1=k:=h1.symm.trans e;have b:valueAt (q::qs) k=some q.2:=by simp[valueAt,List.find?_cons,e']
   rw[Ii e,b];exact h2
  ·have e':¬q.1=k:=λz=>e (h1.trans z);have b:valueAt (q::qs) k=valueAt qs k:=by simp[valueAt,List.find?_cons,e']
   rw[Ij e,b];exact ih
theorem KV.any(r:KV kvs vs)(k:κ):(kvs.any λkv=>decide (kv.1=k))=vs.any λkv=>decide (kv.1=k):=by
 unfold KV at r
 induction r with
 |nil=>rfl
 |cons h t ih=>rw[List.any_cons,List.any_cons,ih,h.1]
theorem KV.repl(r:KV kvs vs)(k:κ)(ry:RelV y u):
  KV (kvs.map λkv=>if kv.1=k then (kv.1,y) else kv) (vs.map λkv=>if kv.1=k then (kv.1,u) else kv):=by
 unfold KV at r ⊢
 induction r with
 |nil=>exact .nil
 |@cons p q ps qs h t ih=>
  rw[AAX,AAX];refine .cons ?_ ih;obtain⟨h1,h2⟩:=h;by_cases e:p.1=k
  ·rw[if_pos e,if_pos (h1.symm.trans e)];exact⟨h1,ry⟩
  ·rw[if_neg e,if_neg (λz=>e (h1.trans z))];exact⟨h1,h2⟩
theorem KV.put(r:KV kvs vs)(k:κ)(ry:RelV y u):KV (Da kvs k y) (stored vs k u):=by
 unfold Da stored;rw[r.any k];by_cases e:(vs.any λkv=>decide (kv.1=k))=true
 ·rw[if_pos e,if_pos e];exact r.repl k ry
 ·rw[if_neg e,if_neg e];exact Paired.snoc r ⟨rfl,ry⟩
theorem KV.length(r:KV kvs vs):kvs.length=vs.length:=Paired.length r
end
theorem Na(r:RelV (kV k) u):(BJ P w).is k u=true:=by
 cases k with
 |inl i=>obtain⟨t,e⟩:=(show ∃t,u=Value.int i t from r);subst e;exact NS P w i t
 |inr x=>obtain⟨t,e⟩:=(show ∃t,u=Value.str x t from r);subst e;exact NR P w x t
theorem K2:∀{ks:List Key} {us:List Value},Vals (ks.map kV) us->ItemsAre (BJ P w) ks us
 |[],_,r=>by rw[List.map_nil] at r;cases r;exact .nil
 |k::ks,_,r=>by
  rw[AAX] at r;cases r with
  |cons h t=>exact .cons (Na h) (K2 t)
noncomputable abbrev KT(H:Hp):List (List Key×V)->List (List Key×Addr×Value)->Prop:=Paired λp q=>p.1=q.1/\H q.2.1=some (.tup (p.1.map kV))/\RelV p.2 q.2.2
theorem KT.val{H:Hp}{kvs:List (List Key×V)}{xs:List (List Key×Addr×Value)}(r:KT H kvs xs)(k:List Key):RelO (Fv kvs k) ((atKey xs k).map (·.2)):=by
 induction r with
 |nil=>exact True.intro
 |@cons p q ps qs h t ih=>
  obtain⟨h1,_,h2⟩:=h;by_cases e:p.1=k
  ·have e':q.1=k:=h1.symm.trans e;have b:atKey (q::qs) k=some q.2:=by simp[atKey,List.find?_cons,e']
   rw[Ii e,b];exact h2
  ·have e':¬q.1=k:=λz=>e (h1.trans z);have b:atKey (q::qs) k=atKey qs k:=by simp[atKey,List.find?_cons,e']
   rw[Ij e,b];exact ih
theorem KT.repl(r:KT H kvs xs)(k:List Key)(ry:RelV y u):
  KT H (kvs.map λkv=>if kv.1=k then (kv.1,y) else kv) (xs.map (putAt k u)):=by
 induction r with
 |nil=>exact .nil
 |@cons p q ps qs h t ih=>
  rw[AAX,AAX];refine .cons ?_ ih;obtain⟨h1,h2,h3⟩:=h;unfold putAt;by_cases e:p.1=k
  ·rw[if_pos e,if_pos (h1.symm.trans e)];exact⟨h1,h2,ry⟩
  ·rw[if_neg e,if_neg (λz=>e (h1.trans z))];exact⟨h1,h2,h3⟩
theorem KT.put(r:KT H kvs xs)(k:List Key)(hb:H b=some (.tup (k.map kV)))(ry:RelV y u):
  KT H (Da kvs k y) (storedH xs k b u):=by
 have e:(kvs.any λkv=>decide (kv.1=k))=(atKey xs k).isSome:=by
  rw[Mf,(r.val k).isSome_eq,Option.isSome_map]
 unfold Da storedH;rw[e];by_cases q:(atKey xs k).isSome=true
 ·rw[if_pos q,if_pos q];exact r.repl k ry
 ·rw[if_neg q,if_neg q];exact Paired.snoc r ⟨rfl,hb,ry⟩
theorem KT.keeps(r:KT H kvs xs)(ht:∀b ys,H b=some (.tup ys)->H' b=some (.tup ys)):KT H' kvs xs:=
 Paired.mapP r λ_ _ z=>⟨z.1,ht _ _ z.2.1,z.2.2⟩
section
variable{P:Program}{w:World}{H:Hp}{h:Heap}{a:Addr}
theorem Ye(ok:HOk P w H h)(e:Rd H a u):ObjOk P w H h a u:=e.ok ok
theorem VW(ok:HOk P w H h)(e:Rd H a (.dK kvs)):kvs.length<=sizeLine/\(a==sysModules)=false/\∃vs,KV kvs vs/\h.DictOf (BJ P w) a vs:=
 show ObjOk P w H h a (.dK kvs) from Ye ok e
theorem Yt(ok:HOk P w H h)(e:H a=some (.dK kvs)):kvs.length<=sizeLine/\(a==sysModules)=false/\∃vs,KV kvs vs/\h.DictOf (BJ P w) a vs:=VW ok (.inl e)
theorem Ou(ok:HOk P w H h)(e:H a=some (.tup (ks.map kV))):(tupleKind (BJ P w)).is h ks a:=by
 obtain⟨_,its,r,o,h1,h2,n,h3⟩:=(show ObjOk P w H h a (.tup (ks.map kV)) from ok a _ e);exact⟨o,its.toArray,n,h1,h2,h3,by simpa using K2 r⟩
theorem VU(ok:HOk P w H h)(e:Rd H a (.dT kvs)):kvs.length<=sizeLine/\(a==sysModules)=false /\
  ∃xs,KT H kvs xs/\h.DictOfH (tupleKind (BJ P w)) a xs:=by
 obtain⟨z,y,xs,r,o,es,ep,h1,h2,h3,h4,h5⟩:=(show ObjOk P w H h a (.dT kvs) from Ye ok e);refine⟨z,y,xs,r,o,es,ep,h1,h2,h3,h4,λx hx=>?_,h5⟩;have all:∀{l:List (List Key×V)} {m:List (List Key×Addr×Value)},KT H l m->∀x∈m,(tupleKind (BJ P w)).is h x.1 x.2.1:=by
  intro l m q
  induction q with
  |nil=>intro x hx;exact nomatch hx
  |@cons p q ps qs hq t ih=>
   intro x hx;rcases AAJ.mp hx with e|hx
   ·subst e;exact Ou ok (by rw[←hq.1];exact hq.2.1)
   ·exact ih x hx
 exact all r x hx
theorem cL(ok:HOk P w H h)(e:H a=some (.dT kvs)):kvs.length<=sizeLine/\(a==sysModules)=false /\
  ∃xs,KT H kvs xs/\h.DictOfH (tupleKind (BJ P w)) a xs:=VU ok (.inl e)
end
def DGet(H:Hp)(a:Addr)(y:V)(r:Option V):Prop:=
 (∃kvs k,Rd H a (.dK kvs)/\y=kV k/\r=Fv kvs k)∨∃kvs k b,Rd H a (.dT kvs)/\y=.ref b/\H b=some (.tup (k.map kV))/\r=Fv kvs k
def DPut(H:Hp)(a:Addr)(y v:V)(H':Hp):Prop:=
 (∃kvs k,H a=some (.dK kvs)/\y=kV k/\kvs.length<sizeLine/\H'=upd H a (.dK (Da kvs k v))) ∨
 ∃kvs k b,H a=some (.dT kvs)/\y=.ref b/\H b=some (.tup (k.map kV))/\kvs.length<sizeLine/\H'=upd H a (.dT (Da kvs k v))
theorem DGet.k{H:Hp}{a:Addr}{kvs:List (Key×V)}{k:Key}(e:H a=some (.dK kvs)):DGet H a (kV k) (Fv kvs k):=.inl ⟨kvs,k,.inl e,rfl,rfl⟩
theorem DPut.k{H:Hp}{a:Addr}{kvs:List (Key×V)}{k:Key}{v:V}(e:H a=some (.dK kvs))(hl:kvs.length<sizeLine):DPut H a (kV k) v (upd H a (.dK (Da kvs k v))):=.inl ⟨kvs,k,e,rfl,hl,rfl⟩
section
variable{X:Cx}{pins:List (Addr×Obj)}{σ:St}{H:Hp}{s:Shared}{a:Addr}{y v:V}{u r:Value}{o:Option V}{A:Around}{E:Value->Shared->Prop}
theorem Inv.big(I:Inv X pins σ H s):sysModules<s.heap.objs.size:=by
 have h:mainGlobals<s.heap.objs.size:=(I.mod.glob.keeps I.bk).lt;exact Nat.lt_trans (by decide) h
theorem SG(hu:A.units+1<cLine)(I:Inv X pins σ H s)(g:DGet H a y (some v))(ry:RelV y u)(h:∀w' s',Inv X pins σ H s'->RelV v w'->Q w' s'):
  wpAny (model X.prog X.w) A (getItem (.ref a) u) Q E s:=by
 rcases g with ⟨kvs,k,e,ey,l⟩|⟨kvs,k,b,e,ey,eb,l⟩
 ·subst ey;obtain⟨z,hd,vs,rel,dd⟩:=VW I.hok e;obtain⟨w',hw,rw'⟩:=RelO.some_of (v:=v) (o:=valueAt vs k) (by rw[l];exact rel.val k);exact wpAny_getItem_of (Na ry) dd.mapOf hw (h w' _ (I.tok _) rw')
 ·subst ey;cases (show u=Value.ref b from ry);obtain⟨z,hd,xs,rel,dd⟩:=VU I.hok e;obtain⟨w',hw,rw'⟩:=RelO.some_of (v:=v) (o:=(atKey xs k).map (·.2)) (by rw[l];exact rel.val k);obtain⟨p,hp,hp2⟩:=Option.map_eq_some_iff.mp hw;refine wpAny_getItem_heap (tupleKind_room_in1 hu) (Ou I.hok eb) dd hp ?_;rw[hp2];exact h w' _ (I.tok _) rw'
theorem IX(I:Inv X pins σ H s)(mu:Mut (H a))(hs:Heap.SameBut a s.heap h')(he:∃q,h'.get? a=some q)(new:ObjOk X.prog X.w (upd H a ob) h' a ob):
  Inv X pins σ (upd H a ob) { s with heap:=h',toks:=t' }:=
 I.write (x:=a) (e:=a) mu (.inl rfl) (λb q hb z=>(hs.2 b hb).trans z) he new
theorem Js(z:kvs.length<=sizeLine)(hd:(a==sysModules)=false)(rel:KV kvs vs)(dd:h'.DictOf (BJ P w) a vs):
  ObjOk P w H' h' a (.dK kvs):=⟨z,hd,vs,rel,dd⟩
theorem SF(hu:A.units+1<cLine)(I:Inv X pins σ H s)(g:DPut H a y v H')(ry:RelV y u)(rv:RelV v r)(h:∀s',Inv X pins σ H' s'->Q () s'):
  wpAny (model X.prog X.w) A (setItem (.ref a) u r) Q E s:=by
 rcases g with ⟨kvs,k,e,ey,l,eH⟩|⟨kvs,k,b,e,ey,eb,l,eH⟩
 ·subst ey eH;obtain⟨z,hd,vs,rel,dd⟩:=Yt I.hok e;have hz:vs.length<=sizeLine:=by rw[←rel.length];exact z
  have hl:(Da kvs k v).length<=sizeLine:=by have:=FM kvs k v;omega
  refine wpAny_setItem_pairs (hsz:=hz) (Na ry) dd λh' dd' hs=>h _ ?_;have he:∃q,h'.get? a=some q:=let ⟨q,_,_,hq,_⟩:=dd';⟨q,hq⟩
  exact IX I (by rw[e];exact True.intro) hs he (Js hl hd (rel.put k rv) dd')
 ·subst ey eH;cases (show u=Value.ref b from ry);obtain⟨z,hd,xs,rel,dd⟩:=cL I.hok e;have hz:xs.length<=sizeLine:=by rw[←Paired.length rel];exact z
  have hl:(Da kvs k v).length<=sizeLine:=by have:=FM kvs k v;omega
  refine wpAny_setItem_heap (hsz:=hz) (tupleKind_room_in1 hu) (Ou I.hok eb) dd λh' dd' hs=>h _ ?_;obtain⟨q,es,ep,hq,h2,h3,h4,_,h5⟩:=dd';refine IX I (by rw[e];exact True.intro) hs ⟨q,hq⟩ ⟨hl,hd,_,(rel.put k eb rv).keeps λc ys ec=>?_,q,es,ep,hq,h2,h3,h4,h5⟩;rw[A9 (bz ec e (λz=>nomatch z))];exact ec
end
def ST(i:Expr):Prop:=∀ov iv,subscripted i false ov iv=operate [ov,iv] (getItem ov iv)
theorem Le{prog:Program}{w:World}{A:Around}{E:Value->Shared->Prop}{s:Shared}{env:Env}{value slice:Expr}{pos:Pos}{T id:String}{Q:Value->Shared->Prop}
  (hl:typeLookup (.type T) "__getitem__" = pure (some (.builtin id))) (hs:ST slice)
  (h:wpAny (model prog w) A (eval value env) (λo s₁=>wpAny (model prog w) A (eval slice env) (λi s₂=>s₂.TypeIs o T/\wpAny (model prog w) A (getItem o i) Q E s₂) E s₁) E s) :
  wpAny (model prog w) A (eval (.Subscript value slice pos) env) Q E s:=by
 refine Subscript_ (AAl h (λo s₁ h₁=>AAl h₁ (λi s₂ h₂=>?_) λ_ _ x=>x) λ_ _ x=>x);obtain⟨hT,h₂⟩:=h₂;unfold subscriptTail;refine AAA ?_;rw[getitemInPython_of_ne hT.not_modules];refine AAA (wpAny_specialOf hT hl ?_);have fin:wpAny (model prog w) A (subscripted slice false o i) (λr s₃=>wpAny (model prog w) A (letTemporaryGo value o r >>= λ_=>pure r) Q E s₃) E s₂:=by
  rw[hs o i];exact wpAny_operating (AAl h₂ (λr s₃ h₃=>AAA (wpAny_letTemporaryGo (AAB h₃))) λ_ _ x=>x)
 first
  |exact AAB (AAA fin)
  |exact AAA (AAB (AAA fin))
  |exact AAA fin
theorem Ny(I:Inv X pins σ H s)(g:DGet H a y o):s.TypeIs (.ref a) "dict" := by
 rcases g with ⟨kvs,k,e,_,_⟩|⟨kvs,k,b,e,_,_,_⟩
 ·obtain⟨_,_,vs,_,dd⟩:=VW I.hok e;exact dd.typeIs
 ·obtain⟨_,_,xs,_,dd⟩:=VU I.hok e;exact dd.typeIs
noncomputable def bI(td ty:TE):TE:=λσ H Q=>td σ H λx H1=>ty σ H1 λy H2=>∃a v,x=.ref a/\DGet H2 a y (some v)/\Q v H2
noncomputable def bO(td ty tv:TE):TS:=λD σ H=>tv σ H λv H1=>td σ H1 λx H2=>ty σ H2 λy H3=>∃a H4,x=.ref a/\DPut H3 a y v H4/\D.nx σ H4
section
variable{X:Cx}{o i value:Expr}{pos pos':Pos}{td ty tv:TE}
theorem XZ(hu:X.A.units+1<cLine)(ho:PE X o td)(hi:PE X i ty)(hs:ST i):PE X (.Subscript o i pos) (bI td ty):=by
 intro pins s σ H Q I h;refine Le PySem.F.slot_dict_getitem.lookup hs (thn (ho pins s σ H _ I h) λu s1 ⟨x,H1,I1,rx,q1⟩=>thn (hi pins s1 σ H1 _ I1 q1) λiv s2 zz=>?_);obtain⟨y,H2,I2,ry,a,v,ex,g,q2⟩:=zz;subst ex;obtain rfl:u=Value.ref a:=rx;exact⟨Ny I2 g,SG hu I2 g ry λw' s3 I3 rw'=>⟨v,H2,I3,rw',q2⟩⟩
theorem XM(hu:X.A.units+1<cLine)(ho:PE X o td)(hi:PE X i ty)(hv:PE X value tv)(hs:swapsWith value (some (.Subscript o i pos')) pos.line X.env=pure false):
  PS X (.Assign [.Subscript o i pos'] value pos) (bO td ty tv):=by
 intro pins s σ H D I h;refine wpAny_Assign_Subscript (thn (hv pins s σ H _ I h) λr s1 ⟨v,H1,I1,rv,q1⟩=>thn (ho pins s1 σ H1 _ I1 q1) λu s2 ⟨x,H2,I2,rx,q2⟩=>thn (hi pins s2 σ H2 _ I2 q2) λiv s3 zz=>?_) hs;obtain⟨y,H3,I3,ry,a,H4,ex,g,q3⟩:=zz;subst ex;obtain rfl:u=Value.ref a:=rx;exact SF hu I3 g ry rv λs4 I4=>⟨σ,H4,I4,q3⟩
end
theorem Nw(h:Heap)(hb:sysModules<h.objs.size):ObjOk P w H (h.push { cls:=.type "dict",data:=.dict #[] }) h.objs.size (.dK []):=
 ⟨AAm _,AAg.mpr (Ne.symm (AAf hb)),[],.nil,Heap.DictOf.new h⟩
noncomputable def ZR:TE:=λ_ H Q=>∀p,H p=none->Q (.ref p) (upd H p (.dK []))
section
variable{X:Cx}{pos:Pos}
theorem Ue:PE X (.Dict [] [] pos) ZR:=λpins s σ H Q I h=>
 wpAny_Dict_empty ⟨.ref s.heap.objs.size,_,I.laid (a:=s.heap.objs.size) (o:=.dK []) (t':=s.toks) (λ_ _ q=>AAC _ q) (AAF _) (Nw s.heap I.big),rfl,h _ (I.hok.fresh (AAF _))⟩
end
def Ld:List (TE×TE)->St->Hp->(List (V×V)->Hp->Prop)->Prop
 |[],_,H,Q=>Q [] H
 |(tk,tv)::r,σ,H,Q=>tk σ H λx H1=>tv σ H1 λy H2=>Ld r σ H2 λps H3=>Q ((x,y)::ps) H3
abbrev VV:List (V×V)->List (Value×Value)->Prop:=Paired λp q=>RelV p.1 q.1/\RelV p.2 q.2
def PPs(X:Cx)(pos:Pos)(keys:List (Option Expr))(values:List Expr)(trs:List (TE×TE)):Prop:=
 ∀(pins:List (Addr×Obj)) (s:Shared) (σ:St) (H:Hp) (Q:List (V×V)->Hp->Prop),Inv X pins σ H s->Ld trs σ H Q->
  wpAny (model X.prog X.w) X.A (evalPairs (pairTrees keys values X.env pos)) (λvs s'=>∃ps H',Inv X pins σ H' s'/\VV ps vs/\Q ps H') X.xe s
theorem XN:PPs X pos [] [] []:=λpins s σ H Q I h=>pairTrees_nil_walk ⟨[],H,I,.nil,h⟩
theorem UR(hk:PE X k tk)(hv:PE X v tv)(hr:PPs X pos ks vs trs):
  PPs X pos (some k::ks) (v::vs) ((tk,tv)::trs):=λpins s σ H Q I h=>
 pairTrees_cons_walk (thn (hk pins s σ H _ I h) λu s1 ⟨x,H1,I1,rx,q1⟩=>thn (hv pins s1 σ H1 _ I1 q1) λw2 s2 ⟨y,H2,I2,ry,q2⟩=>
  thn (hr pins s2 σ H2 _ I2 q2) λws s3 ⟨ps,H3,I3,rel,q3⟩=>⟨(x,y)::ps,H3,I3,.cons ⟨rx,ry⟩ rel,q3⟩)
noncomputable def DT(kvs more:List (Key×V)):List (Key×V):=more.foldl (λacc kv=>Da acc kv.1 kv.2) kvs
theorem KV.merge:∀{more:List (Key×V)} {rs:List (Key×Value)} {kvs:List (Key×V)} {vs:List (Key×Value)},KV more rs->KV kvs vs->KV (DT kvs more) (merged vs rs):=by
 intro more rs kvs vs r;unfold KV at r
 induction r generalizing kvs vs with
 |nil=>intro q;exact q
 |@cons p q ps qs h t ih=>
  intro r0;have e:KV (Da kvs p.1 p.2) (stored vs q.1 q.2):=by
   have:=r0.put p.1 h.2;rw[←h.1];exact this
  exact ih e
theorem Do:∀(more kvs:List (Key×V)),(DT kvs more).length<=kvs.length+more.length
 |[],kvs=>by show kvs.length<=kvs.length+0;omega
 |p::r,kvs=>by
  have h1:=Do r (Da kvs p.1 p.2);have h2:=FM kvs p.1 p.2;show (DT (Da kvs p.1 p.2) r).length<=_;rw[AAI];omega
theorem Jy:∀{kvs:List (Key×V)} {ws:List (Value×Value)},VV (kvs.map λkv=>(kV kv.1,kv.2)) ws->∃rs,Carries (BJ P w) ws rs/\KV kvs rs
 |[],_,r=>by rw[List.map_nil] at r;cases r;exact⟨[],True.intro,.nil⟩
 |p::kvs,_,r=>by
  rw[AAX] at r;cases r with
  |@cons a b as bs h t=>
   obtain⟨rs,c,q⟩:=Jy (P:=P) (w:=w) t;obtain⟨b1,b2⟩:=b;exact⟨(p.1,b2)::rs,⟨Na h.1,rfl,c⟩,.cons ⟨rfl,h.2⟩ q⟩
noncomputable def bH(trs:List (TE×TE)):TE:=λσ H Q=>∀p,H p=none->Ld trs σ (upd H p (.dK [])) λps H2=>H2 p=some (.dK [])/\∃kvs:List (Key×V),ps=kvs.map (λkv=>(kV kv.1,kv.2))/\kvs.length<=15/\Q (.ref p) (upd H2 p (.dK (DT [] kvs)))
theorem XY(h:PPs X pos keys values trs)(hall:keys.all (·.isSome)=true)(hl:keys.length=values.length)(h0:keys≠[])
  (h15:keys.length<=15):PE X (.Dict keys values pos) (bH trs):=by
 intro pins s σ H Q I q;have hn:=I.hok.fresh (AAF s.heap.objs.size);have I1:=I.laid (a:=s.heap.objs.size) (o:=.dK []) (h':=s.heap.push { cls:=.type "dict",data:=.dict #[] }) (t':=s.toks) (λ_ _ q=>AAC _ q) (AAF _) (Nw s.heap I.big);refine wpAny_Dict_walk (knd:=BJ X.prog X.w) hall hl h0 h15 (thn (h pins _ σ _ _ I1 (q _ hn)) λws s2 zz=>?_);obtain⟨ps,H2,I2,rel,e,kvs,ep,lk,q2⟩:=zz;subst ep;obtain⟨rs,c,rk⟩:=Jy (P:=X.prog) (w:=X.w) rel;obtain⟨z,hd,vs0,r0,dd⟩:=Yt I2.hok e;cases r0;refine⟨rs,c,dd,λh' dd' hs=>⟨.ref s.heap.objs.size,_,?_,rfl,q2⟩⟩;have hz:(DT [] kvs).length<=sizeLine:=by
  have h1:=Do kvs [];rw[List.length_nil] at h1;rw[sizeLine_eq];omega
 have he:∃q,h'.get? s.heap.objs.size=some q:=let ⟨q,_,_,hq,_⟩:=dd';⟨q,hq⟩
 exact IX I2 (by rw[e];exact True.intro) hs he (Js hz hd (rk.merge .nil) dd')
end L2
namespace Att
open PySem PySem.W PySem.Calls PyProof.Rows
theorem IF:∀(ns:List Int) (vs:List Value),WellAll P h vs (ns.map WData.int)->IntsAre vs ns:=by
 intro ns
 induction ns with
 |nil=>
  intro vs w;rw[List.map_nil] at w;cases w;exact .nil
 |cons n ns ih=>
  intro vs w;rw[AAX] at w;cases w with
  |cons a b=>
   cases a;exact .cons _ _ (ih _ b)
theorem RV{l:OpenLaw}{n:Nat}(hn:l.most=some n){P:Params}{h:Heap}{args:List WData}{vals:List Value}
  (hpre:l.row.toRowW.claim.pre args=true) (hwl:WellAll P h vals args) :
  ∃a vs ns,vals=[Value.ref a]/\args=[WData.list (ns.map WData.int)]/\h.get? a=some { cls:=.type "list",data:=.seq vs.toArray }/\IntsAre vs ns/\ns.length<=n:=by
 have hsh:WShape.hasAll [] args [.list .int]=true:=(pre_splitW hpre).1;have hc:l.pre.holds [] { args:=args }=true:=(pre_splitW hpre).2;obtain⟨d,r,rfl,h1,h2⟩:=hasAllW_cons hsh;obtain rfl:=hasAllW_nil h2;obtain⟨xs,rfl,h3⟩:=hasW_list h1;obtain⟨ns,rfl⟩:=items_int h3;have hlen:ns.length<=n:=by
  unfold OpenLaw.pre at hc;have h4:(WTm.not (.lt (.lit (.int (n:Int))) (.len (.arg 0)))).holds [] { args:=[.list (ns.map .int)] }=true:=by
   have h4:=(holds_andW hc).1;rw[hn] at h4;exact h4
  have h5:=condW_of h4 (w_not (w_lt w_lit (w_len_list (w_arg rfl))));rw[AAG] at h5;refine Nat.le_of_not_lt λq=>?_;have q':(n:Int)<((ns.length:Nat):Int):=by omega
  first
   |(rw[AAP q'] at h5;exact absurd h5 (by decide))
   |(simp at h5;omega)
 cases hwl with
 |cons w1 w2=>
  cases w2;cases w1 with
  |list ho hall=>exact⟨_,_,ns,rfl,rfl,ho,IF ns _ hall,hlen⟩
theorem Re(l:OpenLaw)(args:List WData):l.row.toRowW.claim.post args (.bool true) args=true:=
 postW_of (r:=l.row.toRowW) (X:=(true==true))
  (show WShape.has [] (.bool true) .bool=true by first|rfl|decide|simp[WShape.has,WShape.arms,WShape.armsAll])
  (show (WTm.eq .res (.lit (.bool true))).value [] { args:=args,res:=some (.bool true),after:=args }=some (.bool (true==true)) from w_eq_bool (w_res rfl) w_lit) rfl
theorem OA{l:OpenLaw}{n:Nat}{q:Program}{loose:List Str}{XP:(Str->Option Value)->Heap->Prop}{YP:World->Heap->Prop}{d:DefRec}
  (hn:l.most=some n) (hdf:d.params.defaults=[])
  (call:∀(w:World) (s₀ s₁:Shared) (mg mb:Str->Option Value) (fa:Addr) (o:Obj) (pm cd doc:Value) (a:Addr) (vs:List Value) (ns:List Int),
   Ground q loose [] XP w s₀ mg mb s₁.heap->YP w s₁.heap->
   s₁.heap.get? fa=some o->o.data=.func (docDef d.name d.params d.body d.scope pm cd doc)->s₁.heap.CodeRec cd d.name->mg d.name=some (.ref fa)->
   s₁.heap.get? a=some { cls:=.type "list",data:=.seq vs.toArray }->IntsAre vs ns->ns.length<=n->s₁.gens=#[]->
   codeAny (model l.prog w) callerA (.call (.ref fa) ⟨[.ref a],[]⟩) (λr s'=>r=.ok (.ret (.bool true))/\OldK s₁.heap s'.heap/\s'.os=s₁.os/\AllBare s'.gens) s₁) :
  WalkO q loose XP YP l.row.toRowW d [] (λf vs=>PySem.call f vs):=by
 intro w s₀ s₁ mg mb G Y fa o pm cd doc dV kV ho hd hcd hD hmg hg args vals as hpre hlay hrd hwl hlo;obtain rfl:dV=.none:=Dflts.none hD hdf;obtain rfl:kV=.none:=Dflts.noKw hD;obtain⟨a,vs,ns,rfl,rfl,hobj,hints,hlen⟩:=RV hn hpre hwl;refine enter_call (codeAny_mono (call w s₀ s₁ mg mb fa o pm cd doc a vs ns G Y ho (fd_plain hd) hcd hmg hobj hints hlen hg) λr s' hq=>?_);obtain⟨rfl,h2,h3,h4⟩:=hq;exact⟨.inl ⟨.bool true,.bool true,[],rfl,λ_=>rfl,.bool true,Re l _,λ_=>⟨List.Pairwise.nil,λ_ hm=>(nomatch hm)⟩⟩,h2,h3,h4⟩
end Att
namespace L2
open PySem PySem.Spec PyProof.Rows
theorem Dz:∀{vs:List Value} {ns:List Int},IntsAre vs ns->Vals (ns.map V.int) vs
 |_,_,.nil=>.nil
 |_,_,.cons n t h=>.cons ⟨t,rfl⟩ (Dz h)
def YS(H:Hp):Prop:=∀b,H b=none∨∃o xs,H b=some (.frz o (.lst xs))
theorem Uy{P:Program}{w:World}{K:PySem.W.Frag}{mg mb:Str->Option Value}{CX:CXT}{k:Nat}{fa a:Addr}{fd:FuncData}{x:Str}{sp:Sp}{s₁:Shared}{vs:List Value}{ns:List Int}
  (KX:K.In s₁.heap) (hns:s₁.heap.Ns mainGlobals mg) (hb:s₁.heap.Ns builtinsNs mb) (hbb:∀x:Str,x ≠ "__name__" -> mb x=bootBuiltins x) (hlim:s₁.heap.NoLimit) (hg:s₁.gens=#[])
  (ha:s₁.heap.get? a=some { cls:=.type "list",data:=.seq vs.toArray }) (hi:IntsAre vs ns) (hl:ns.length<=sizeLine) (hr:Room k callerA)
  (F:∀base:Heap,K.In base->base.Ns mainGlobals mg->FnOk P w K mg base CX k fa fd [x] sp) (hbind:∀(s:Shared) (u:Value),BindsTo s fd ⟨[u],[]⟩ [(x,u)])
  (hsp:∀H:Hp,YS H->SqL K H a (ns.map V.int)->sp [.ref a] H (λv _=>v=.bl true) λ_ _ _=>False)
  (hCX:∀H e s',CX [] H s₁ (λ_ _ _=>False) e s'->False) :
  codeAny (model P w) callerA (.call (.ref fa) ⟨[.ref a],[]⟩) (λr s'=>r=.ok (.ret (.bool true))/\OldK s₁.heap s'.heap/\s'.os=s₁.os/\AllBare s'.gens) s₁:=by
 have rv:=Dz hi;have lenV:=hi.length;have core:∀H:Hp,YS H->SqL K H a (ns.map V.int)->HOk P w H s₁.heap->(∀b,H b≠none->b=a)->(H a≠none->K.lookup a=none)->
   codeAny (model P w) callerA (.call (.ref fa) ⟨[.ref a],[]⟩) (λr s'=>r=.ok (.ret (.bool true))/\OldK s₁.heap s'.heap/\s'.os=s₁.os/\AllBare s'.gens) s₁:=by
  intro H hO hS hok hA hK;have base_of:∀{b:Addr} {o:Obj},s₁.heap.get? b=some o->H b=none->(L7 s₁.heap H).get? b=some o:=λe n=>VE e n;have noA:∀{b:Addr} {o:Obj} {es:Array DictEntry} {ep:Nat},s₁.heap.get? b=some o->o.data=.dict es ep->H b=none:=λ{b o es ep} e d=>by
   cases q:H b with
   |none=>rfl
   |some u=>
    have e':b=a:=hA b (by rw[q];simp);subst e';rw[ha] at e;cases e;have d':Data.seq vs.toArray _=Data.dict es ep:=d;cases d'
  have nsK:∀{b:Addr} {m:Str->Option Value},s₁.heap.Ns b m->(L7 s₁.heap H).Ns b m:=λ{b m} ⟨o,es,ep,e,d,r⟩=>⟨o,es,ep,base_of e (noA e d),d,r⟩;have hKb:K.In (L7 s₁.heap H):=λb o e=>base_of (KX b o e) (by
   cases q:H b with
   |none=>rfl
   |some u=>
    have e':b=a:=hA b (by rw[q];simp);subst e';rw[hK (by rw[q];simp)] at e;cases e)
  have hM:Mod K mg (L7 s₁.heap H):=⟨hKb,nsK hns,⟨mb,nsK hb,hbb⟩,let ⟨mc,h1,h2⟩:=hlim;⟨mc,nsK h1,h2⟩⟩;have e0:Env0 P w K mg (L7 s₁.heap H) callerA [] s₁ H:=⟨rfl,hM,λb o e=>Xi e,Nat.le_of_eq (R6 _ _),trivial,λb hb=>absurd (show b∈([]:List Addr) from hb) (by simp),hok,.of_eq hg⟩;refine codeAny_mono ((F _ hKb (nsK hns)).run callerA [] s₁ H ⟨[.ref a],[]⟩ [.ref a] [.ref a] _ _ hr e0 (hbind s₁ (.ref a)) (.cons rfl .nil) (hsp H hO hS)) λr s' h=>?_;cases r with
  |error e=>exact(hCX H e s' h).elim
  |ok fl=>
   cases fl with
   |next=>exact False.elim h
   |brk=>exact False.elim h
   |cont=>exact False.elim h
   |ret u=>
    obtain⟨v,H',os,bare,un,hok',r',q⟩:=h;have q':v=.bl true:=q;subst q';obtain rfl:u=Value.bool true:=r';refine⟨rfl,OldK.of_keep λb o e=>?_,os,bare⟩;cases q:H b with
    |none=>exact un.keep b o e q (by intro z;exact absurd (show b∈([]:List Addr) from z) (by simp)) (by simp)
    |some u=>
     rcases hO b with z|⟨ob,xs,z⟩
     ·rw[q] at z;cases z
     ·have z2:=un.frzs b ob _ z;obtain⟨e1,_⟩:=hok b _ z;obtain⟨e2,_⟩:=hok' b _ z2;rw[e] at e1;cases e1;exact e2
 cases hk:K.lookup a with
 |some o=>
  have e:=KX a o hk;rw[ha] at e;cases e;refine core (λ_=>none) (λ_=>.inl rfl) (.inr ⟨_,vs.toArray,_,hk,rfl,rfl,rfl,by rw[List.size_toArray,lenV];exact hl,by simpa using rv⟩) (λb u z=>by have z':(none:Option HO)=some u:=z;cases z') (λb z=>absurd rfl z) λz=>absurd rfl z
 |none=>
  refine core (λb=>if b=a then some (.frz { cls:=.type "list",data:=.seq vs.toArray } (.lst (ns.map V.int))) else none) (λb=>?_) (.inl (.inr ⟨{ cls:=.type "list",data:=.seq vs.toArray },if_pos rfl⟩)) (λb u z=>?_) (λb z=>?_) λ_=>hk
  ·by_cases hb:b=a
   ·exact .inr ⟨_,_,if_pos hb⟩
   ·exact .inl (if_neg hb)
  ·by_cases hb:b=a
   ·have z':=(if_pos hb).symm.trans z;cases z';subst hb;exact⟨ha,by rw[AAG];exact hl,vs,_,rv,ha⟩
   ·have z':=(if_neg hb).symm.trans z;cases z'
  ·by_cases hb:b=a
   ·exact hb
   ·exact absurd (if_neg hb) z
theorem Wi{l:PySem.W.OpenLaw}{n k:Nat}{q:Program}{loose:List Str}{XP:(Str->Option Value)->Heap->Prop}{YP:World->Heap->Prop}{d:DefRec}{K:Params->PySem.W.Frag}{CX:World->CXT}{sp:World->Sp}{x:Str}
  (hn:l.most=some n) (hn2:n<=sizeLine) (hdf:d.params.defaults=[]) (hr:Room k callerA)
  (hY:∀(w:World) (h:Heap),YP w h->(K w.params).In h)
  (F:∀(w:World) (mg:Str->Option Value) (fa:Addr) (h:Heap),(K w.params).In h->h.Ns mainGlobals mg->mg d.name=some (.ref fa)->
   ∃fd:FuncData,(∀(s:Shared) (u:Value),BindsTo s fd ⟨[u],[]⟩ [(x,u)]) /\
    ∀base:Heap,(K w.params).In base->base.Ns mainGlobals mg->FnOk l.prog w (K w.params) mg base (CX w) k fa fd [x] (sp w))
  (hsp:∀(w:World) (H:Hp) (a:Addr) (ns:List Int),ns.length<=n->YS H->SqL (K w.params) H a (ns.map V.int)->sp w [.ref a] H (λv _=>v=.bl true) λ_ _ _=>False)
  (hCX:∀(w:World) (H:Hp) (s:Shared) (e:Value) (s':Shared),CX w [] H s (λ_ _ _=>False) e s'->False) :
  PySem.W.WalkO q loose XP YP l.row.toRowW d [] (λf vs=>PySem.call f vs):=by
 refine Att.OA hn hdf λw s₀ s₁ mg mb fa o pm cd doc a vs ns G Y ho hd hcd hmg hobj hints hlen hg=>?_;have KX:=hY w _ Y;obtain⟨fd,hb,hF⟩:=F w mg fa _ KX G.T.g hmg;exact Uy KX G.T.g G.T.b G.T.builtins G.T.nolimit hg hobj hints (AAv hlen hn2) hr hF hb (λH hO hS=>hsp w H a ns hlen hO hS) λH e s'=>hCX w H s₁ e s'
noncomputable def Ec(s:Stmt):Arguments:=match s with
 | .FunctionDef _ a _ _ _ _ _ _ _ _=>a
 |_=>{ posonlyargs:=[],args:=[],vararg:=none,kwonlyargs:=[],kw_defaults:=[],kwarg:=none,defaults:=[] }
noncomputable def Bq(s:Stmt):List Stmt:=match s with
 | .FunctionDef _ _ b _ _ _ _ _ _ _=>b
 |_=>[]
noncomputable def AO(s:Stmt):Scope:=match s with
 | .FunctionDef _ _ _ _ _ _ sc _ _ _=>sc
 |_=>{ kind:=.function,names:=[],isGenerator:=false,isCoroutine:=false }
abbrev CX0:CXT:=λ_ _ _ _ _ _=>False
abbrev E0:XK:=λ_ _ _=>False
theorem Uh:Hc CX0 X E0:=λ_ _ _ _ _ _ _ h=>h.elim
structure Fun(K:PySem.W.Frag)(x qual:Str)(st:Stmt)(f:Addr)(fd:FuncData):Prop where
 ex:∃(oc:Value) (od:Option Addr) (kV doc pm:Value) (an:Option Addr) (cdv ct:Value) (osl:Array (Option Value)),
  fd=PySem.W.fnOf x qual (Ec st) (Bq st) (AO st) .none kV doc pm an cdv ct/\K.lookup f=some ⟨oc,od,.func fd,osl⟩/\PySem.W.codeIn K cdv qual=true
 kp:PySem.W.keepIn K (.ref f)=true
section
variable{P:Program}{w:World}{K:PySem.W.Frag}{mg:Str->Option Value}{base:Heap}
theorem Fun.ok{x qual:Str}{st:Stmt}{f:Addr}{fd:FuncData}{N ps:List Str}{k:Nat}{sp:Sp}(F:Fun K x qual st f fd)(S:Ae N ps (AO st))(len:∀vs H Q E,sp vs H Q E->vs.length=ps.length)
  (hbody:∀(cdv:Value) (A:Around) (outer:List Env) (s:Shared) (H:Hp) (vs:List V) (Q:VK) (E:XK),Room k (A.deeper (envOfC qual (AO st) s.heap.objs.size f cdv))->sp vs H Q E->
   ∃t,PSs (IH CX0 P w K mg base N qual (AO st) f cdv A outer s H E).nox (Bq st) t/\t { nx:=λ_ H'=>Q .non H',rt:=Q } (start N vs) H):FnOk P w K mg base CX0 (k+1) f fd ps sp:=by
 obtain⟨oc,od,kV,doc,pm,an,cdv,ct,osl,rfl,lk,hcd⟩:=F.ex;refine cK lk hcd S len λA outer s H vs Q E hr hsp=>?_;obtain⟨t,h,q⟩:=hbody cdv A outer s H vs Q E hr hsp;exact⟨t,h.nox,q⟩
theorem Fun.binds{x qual:Str}{st:Stmt}{f:Addr}{fd:FuncData}{ps:List Str}(F:Fun K x qual st f fd)
  (h:∀(kV doc pm:Value) (an:Option Addr) (cdv ct:Value) (us:List Value),us.length=ps.length->bindArgs (PySem.W.fnOf x qual (Ec st) (Bq st) (AO st) .none kV doc pm an cdv ct) ⟨us,[]⟩=pure (ps.zip us)):Binds K fd ps []:=by
 obtain⟨oc,od,kV,doc,pm,an,cdv,ct,osl,rfl,lk,hcd⟩:=F.ex;exact .all (h kV doc pm an cdv ct)
theorem O0{x qual:Str}{st:Stmt}{f:Addr}{oc:Value}{od an:Option Addr}{osl:Array (Option Value)}{kV doc pm cdv ct:Value}(l:K.lookup f=some ⟨oc,od,.func (PySem.W.fnOf x qual (Ec st) (Bq st) (AO st) .none kV doc pm an cdv ct),osl⟩)
  (c:PySem.W.codeIn K cdv qual=true) (k:PySem.W.keepIn K (.ref f)=true):Fun K x qual st f (PySem.W.fnOf x qual (Ec st) (Bq st) (AO st) .none kV doc pm an cdv ct):=⟨⟨oc,od,kV,doc,pm,an,cdv,ct,osl,rfl,l,c⟩,k⟩
end
theorem Yr(hr:Room k A):A.units+1<cLine:=AAu (Nat.add_le_add_left (by decide:1<=64) _) hr.units
theorem G3(h:n<=1000):n<sizeLine:=AAu h (by decide)
section
variable{κ:Type}[DecidableEq κ]
end
noncomputable def Ds(env:Env):List (Str×NameKind)->List (Str×Addr)->List (Str×Addr)
 |[],cs=>cs
 |(n,k)::r,cs=>Ds env r (if k==.free then (match env.cells.lookup n with|some c=>(n,c)::cs|none=>cs) else cs)
theorem DC:∀(l:List (Str×NameKind)) (cs:List (Str×Addr)),(∀x∈l,x.2=.free->∃c,env.cells.lookup x.1=some c)->
  (forIn l cs λ(x:Str×NameKind) (r:List (Str×Addr))=>(if (x.2==NameKind.free)=true then (do let a ←cellOf env x.1;pure (ForInStep.yield ((x.1,a)::r))) else pure (ForInStep.yield r):Sem (ForInStep (List (Str×Addr)))))=pure (Ds env l cs)
 |[],cs,_=>by rw[List.forIn_nil];rfl
 |(n,k)::r,cs,h=>by
  have hr:∀x∈r,x.2=.free->∃c,env.cells.lookup x.1=some c:=λx hx=>h x (AAR _ hx);rw[List.forIn_cons];by_cases hk:k=.free
  ·subst hk;obtain⟨c,hc⟩:=h (n,.free) AAQ rfl;have e:cellOf env n=pure c:=by unfold cellOf;rw[hc]
   dsimp only;rw[if_pos (by decide),e,pure_bind,pure_bind];dsimp only;rw[DC r _ hr];show _=pure (Ds env r (if (NameKind.free==NameKind.free)=true then (match env.cells.lookup n with|some c=>(n,c)::cs|none=>cs) else cs));rw[if_pos (by decide),hc]
  ·have hb:¬(k==NameKind.free)=true:=by simpa using hk
   dsimp only;rw[if_neg hb,pure_bind];dsimp only;rw[DC r _ hr];show _=pure (Ds env r (if (k==NameKind.free)=true then (match env.cells.lookup n with|some c=>(n,c)::cs|none=>cs) else cs));rw[if_neg hb]
theorem B5(h:∀x∈scope.names,x.2=.free->∃c,env.cells.lookup x.1=some c):closureFor scope env=pure (Ds env scope.names []):=by
 have e:=DC (env:=env) scope.names [] h;unfold closureFor;dsimp only;rw[←bind_pure (pure (Ds env scope.names [])),←e]
theorem EE:∀(l:List (Str×NameKind)) (cs:List (Str×Addr)),(∀x c,cs.lookup x=some c->env.cells.lookup x=some c)->∀x c,(Ds env l cs).lookup x=some c->env.cells.lookup x=some c
 |[],cs,h=>h
 |(n,k)::r,cs,h=>by
  refine EE r _ ?_;intro x c;by_cases hk:(k==NameKind.free)=true
  ·rw[if_pos hk];cases hl:env.cells.lookup n with
   |none=>exact h x c
   |some d=>
    intro q;by_cases hx:x=n
    ·subst hx;rw[List.lookup_cons_self] at q;rw[hl];exact q
    ·have hb:(x==n)=false:=AAg.mpr hx;simp only[List.lookup_cons,hb] at q;exact h x c q
  ·rw[if_neg hk];exact h x c
theorem Jx:∀(l:List (Str×NameKind)) (cs:List (Str×Addr)) (x:Str),(cs.lookup x).isSome=true->((Ds env l cs).lookup x).isSome=true
 |[],cs,x,h=>h
 |(n,k)::r,cs,x,h=>by
  refine Jx r _ x ?_;by_cases hk:(k==NameKind.free)=true
  ·rw[if_pos hk];cases hl:env.cells.lookup n with
   |none=>exact h
   |some d=>
    by_cases hx:(x==n)=true
    ·simp only[List.lookup_cons,hx,Option.isSome_some]
    ·have hb:(x==n)=false:=by simpa using hx
     simp only[List.lookup_cons,hb];exact h
  ·rw[if_neg hk];exact h
theorem N2:∀(l:List (Str×NameKind)) (cs:List (Str×Addr)) (x:Str) (c:Addr),(x,NameKind.free)∈l->env.cells.lookup x=some c->((Ds env l cs).lookup x).isSome=true
 |[],cs,x,c,h,_=>by simp at h
 |(n,k)::r,cs,x,c,h,hc=>by
  rcases AAJ.mp h with e|e
  ·obtain⟨rfl,rfl⟩:=Prod.mk.inj e;refine Jx r _ _ ?_;rw[if_pos (by decide),hc];simp only[List.lookup_cons_self,Option.isSome_some]
  ·exact N2 r _ x c e hc
theorem LF(h:(x,NameKind.free)∈l)(hc:env.cells.lookup x=some c):(Ds env l []).lookup x=some c:=by
 obtain⟨d,hd⟩:=Option.isSome_iff_exists.mp (N2 l [] x c h hc);have:=EE l [] (λ_ _ z=>by simp at z) x d hd;rw[hc] at this;cases this;exact hd
noncomputable def CO:List (Str×NameKind)->List Str
 |[]=>[]
 |(n,.free)::r=>n::CO r
 |_::r=>CO r
theorem F4:∀{l:List (Str×NameKind)},x∈CO l->(x,NameKind.free)∈l
 |[],h=>by simp[CO] at h
 |(n,k)::r,h=>by
  cases k<;>first
   |(rcases AAJ.mp (show x∈n::CO r from h) with e|e;{subst e;exact AAQ};{exact AAR _ (F4 e)})
   |exact AAR _ (F4 (show x∈CO r from h))
theorem K6:∀{l:List (Str×NameKind)},(x,NameKind.free)∈l->x∈CO l
 |[],h=>by simp at h
 |(n,k)::r,h=>by
  rcases AAJ.mp h with e|e
  ·cases e;exact AAQ
  ·have ih:=K6 e;cases k<;>first
    |exact AAR _ ih
    |exact ih
theorem FL(f:Str×NameKind->Str×NameKind)(hf:∀p,f p=p∨p.2=.free/\f p=(p.1,.cell)):∀(l:List (Str×NameKind)) (k:NameKind),(l.map f).lookup x=some k->l.lookup x=some k∨l.lookup x=some .free/\k=.cell
 |[],_,h=>nomatch h
 |(y,j)::l,k,h=>by
  have rest:=FL (x:=x) f hf l k;rw[AAX] at h;rcases hf (y,j) with e|⟨ej,e⟩<;>rw[e] at h<;>cases he:x==y<;>simp only[List.lookup_cons,he] at h ⊢
  ·exact rest h
  ·exact .inl h
  ·exact rest h
  ·cases h;cases (show j=NameKind.free from ej);exact .inr ⟨rfl,rfl⟩
theorem DR(h:(relabel scope env).names.lookup x=some k):scope.names.lookup x=some k∨scope.names.lookup x=some .free/\k=.cell:=by
 unfold relabel at h;refine FL _ (λp=>?_) _ _ h;obtain⟨n,j⟩:=p;dsimp only;split
 ·rename_i hc;refine .inr ⟨?_,rfl⟩;simp only[Bool.and_eq_true,beq_iff_eq] at hc;exact hc.1.1
 ·exact .inl rfl
def Kn(ix:List Nat)(σ:St):St:=ix.map λj=>(σ[j]?).getD none
noncomputable def cxB(X:Cx)(scope:Scope)(tgs:List Str)(fp:List Addr)(C:Addr)(s:Shared)(H:Hp):Cx:=
 { X with N:=tgs++CO scope.names,s₀:=s,H₀:=H,env:=compEnvC scope (Ds X.env scope.names []) C X.env,outer:=X.stack,ex:=fp,fn:=λ_=>false,pn:=[],xe:=λ_ _=>False }
noncomputable def ar{α:Type}(P:α->Prop):List α->Prop
 |[]=>True
 |x::r=>P x/\ar P r
theorem J6:∀{l:List α},ar P l->∀x∈l,P x
 |[],_,_,h=>by simp at h
 |_::_,h,x,hx=>by
  rcases AAJ.mp hx with e|e
  ·subst e;exact h.1
  ·exact J6 h.2 x e
structure BScope(X:Cx)(scope:Scope)(tgs:List Str)(ix:List Nat):Prop where
 kind:scope.kind=.function
 nocell:∀y∈scope.names,y.2≠.cell
 loc:∀y∈scope.names,y.2=.local->scope.names.lookup y.1=some .local
 fre:ar (λx=>X.env.kindOf x=some .cell∨X.env.kindOf x=some .free) (CO scope.names)
 ixs:(CO scope.names).map some=ix.map λj=>X.N[j]?
 ndl:∀x∈CO scope.names,scope.names.lookup x=some .free
section
variable{X:Cx}{scope:Scope}{tgs:List Str}{ix:List Nat}
theorem BScope.cells(S:BScope X scope tgs ix)(ok:X.Ok):∀x∈scope.names,x.2=.free->∃c,X.env.cells.lookup x.1=some c:=λx hx hk=>by
 obtain⟨n,k⟩:=x;subst hk;exact ok.has n (J6 S.fre n (K6 hx))
theorem Inv.cellLt(I:Inv X pins σ H s)(e:X.env.cells.lookup x=some c):c<s.heap.objs.size:=by
 obtain⟨v,q⟩:=I.cell x c e;exact q.lt
theorem Inv.track(I:Inv X pins σ H s)(f:Ew X pins H D)(new:ObjOk X.prog X.w (upd H D o) s.heap D o):Inv X pins σ (upd H D o) s:=by
 obtain⟨f0,f1,f2,f3,f4,f5⟩:=f;have nD:∀b u,H b=some u->b≠D:=λb u e z=>by rw[z,f0] at e;cases e
 have:=I.step (h':=s.heap) (H':=upd H D o) (g':=s.gens) (t':=s.toks) (d':=s.drawn) (ch:=[D]) (λb hb=>?_) (λb u _ _ _ e _=>e) (λb u _ _ _ e _=>⟨u.slots,e⟩) (λb u hb e n=>?_) (λb u _ e=>⟨u,e⟩)
  (λb xs e=>?_) (λb u v e=>?_) (λb ps e=>?_) (λm hm=>hm) (λb u e=>?_) I.bare
 ·exact this
 ·have e:b=D:=by simpa using hb
  subst e;exact⟨f3,f1,f4,f5⟩
 ·rw[A9 (λz=>hb (by simp[z]))];exact n
 ·rw[A9 (nD b _ e)];exact e
 ·rw[A9 (nD b _ e)];exact e
 ·exact⟨#[],by rw[A9 (nD b _ e),e];simp⟩
 ·by_cases hb:b=D
  ·subst hb;rw[BK] at e;cases e;exact new
  ·rw[A9 hb] at e;exact(I.hok b u e).stay (λ_ _ _ q=>q) (λc q=>by rw[A9 (nD c _ q)];exact q) λc xs q=>by rw[A9 (nD c _ q)];exact q
theorem O4(S:BScope X scope tgs ix)(I:Inv X pins σ H s)(hf:∀b∈fp,Ew X pins H b)(hfo:∀b∈fp,b<s.heap.objs.size)(hC:s.heap.objs.size<=C):
  (cxB X scope tgs fp C s H).Ok:=by
 have sub:∀x c,(Ds X.env scope.names []).lookup x=some c->X.env.cells.lookup x=some c:=EE scope.names [] (λ_ _ z=>by simp at z);refine⟨I.ok.mod,S.kind,I.ok.glob,I.ok.blt,hC,λx y c h1 h2=>I.ok.inj x y c (sub x c h1) (sub y c h2),λx hx=>?_,λx c h=>absurd h (by simp[cxB]),I.ok.hd,I.ok.frames,.inl rfl,λb hb=>⟨?_,λx c e=>?_⟩,λb o e=>I.bs b o e,
  AAv I.ok.bsz I.sz,λb o e hb=>?_,λb hb hz=>?_,I.stack,I.stkFree⟩
 ·have hx':(relabel scope X.env).names.lookup x=some .cell∨(relabel scope X.env).names.lookup x=some .free:=hx;have hm:(x,NameKind.free)∈scope.names:=by
   rcases hx' with h|h
   ·rcases DR h with q|q
    ·exact absurd rfl (S.nocell _ (PySem.mem_of_lookup q))
    ·exact PySem.mem_of_lookup q.1
   ·rcases DR h with q|q
    ·exact PySem.mem_of_lookup q
    ·exact absurd q.2 (by decide)
  obtain⟨c,hc⟩:=S.cells I.ok _ hm rfl;exact⟨c,LF hm hc⟩
 ·exact λz=>absurd (hfo b hb) (by rw[z];exact Nat.not_lt.mpr hC)
 ·exact(hf b hb).2.2.2.2.1 x c (sub x c e)
 ·obtain⟨f0,f1,f2,f3,f4,f5⟩:=hf b hb;rcases f3 with z|z
  ·exact I.ok.noex b o e z
  ·exact absurd (Heap.lt_size (I.ok.bs b o e).1) (Nat.not_lt.mpr z)
 ·obtain⟨f0,f1,f2,f3,f4,f5⟩:=hf b hb;rcases AAJ.mp (I.stkSub b hz) with z|z
  ·exact f1 z
  ·exact f2 z
end
section
variable{X:Cx}{scope:Scope}{tgs:List Str}{ix:List Nat}
abbrev CK(tgs:List Str)(ix:List Nat)(σ:St):St:=List.replicate tgs.length none++Kn ix σ
theorem Ir(h:(CK tgs ix σ)[k]?=some (some v)):tgs.length<=k/\∃j,ix[k-tgs.length]?=some j/\σ[j]?=some (some v):=by
 have hk:tgs.length<=k:=by
  rcases Nat.lt_or_ge k tgs.length with z|z
  ·rw[AAT (by simpa using z),List.getElem?_replicate,if_pos z] at h;cases h
  ·exact z
 refine⟨hk,?_⟩;rw[AAS (by simpa using hk),AAp] at h;unfold Kn at h;rw[AAW] at h;cases e:ix[k-tgs.length]? with
 |none=>rw[e] at h;cases h
 |some j=>
  rw[e] at h;refine⟨j,rfl,?_⟩;have h':(σ[j]?).getD none=some v:=Option.some.inj h;cases q:σ[j]? with
  |none=>rw[q] at h';cases h'
  |some o=>
   rw[q] at h';have h'':o=some v:=h';rw[h'']
theorem Jh(S:BScope X scope tgs ix)(I:Inv X pins σ H s)(hf:∀b∈fp,Ew X pins H b)(hfo:∀b∈fp,b<s.heap.objs.size)
  (hC:s.heap.objs.size<=C) (hD:s.heap.objs.size<=D) (hDC:D≠C) {m:Str->Option Value} (hn:s4.heap.Ns C m) (hk:∀b u,s.heap.get? b=some u->s4.heap.get? b=some u) (hos:s4.os=s.os) (hg:s4.gens=s.gens)
  (hDo:s4.heap.get? D=some o) (hcell:∀v,o.data≠.cell v):Inv (cxB X scope tgs fp C s H) [(D,o)] (CK tgs ix σ) H s4:=by
 have ok:=O4 (tgs:=tgs) (ix:=ix) (C:=C) S I hf hfo hC;have sub:∀x c,(Ds X.env scope.names []).lookup x=some c->X.env.cells.lookup x=some c:=EE scope.names [] (λ_ _ z=>by simp at z);refine⟨ok,hos,by rw[hg];exact I.bare,Un.kept hk,⟨m,hn,λk x v h1 h2 h3=>?_⟩,λx c e=>?_,I.hok.fresh hC,λx c e=>I.freeC x c (sub x c e),λp hp=>?_,I.hok.kept hk,?_⟩
 ·obtain⟨hkl,j,hj,hσ⟩:=Ir h2;have h1':(CO scope.names)[k-tgs.length]?=some x:=by
   have:(tgs++CO scope.names)[k]?=some x:=h1
   rwa [AAS hkl] at this
  have hx:x∈CO scope.names:=AAV h1';have hXN:X.N[j]?=some x:=by
   have e:=congrArg (λl=>l[k-tgs.length]?) S.ixs;simp only[AAW,h1',hj,Option.map_some] at e;exact(Option.some.inj e).symm
  have kx:=J6 S.fre x hx;obtain⟨m0,hn0,hl⟩:=I.loc;obtain⟨u,r,l⟩:=hl j x v hXN hσ (by rcases kx with z|z;exact .inr (.inl z);exact .inr (.inr z));refine⟨u,r,?_⟩;rcases l with ⟨z,_⟩|⟨_,c,hc,q⟩
  ·rcases kx with y|y<;>rw[z] at y<;>cases y
  ·refine .inr ⟨?_,c,LF (F4 hx) hc,?_⟩
   ·have h3':(relabel scope X.env).names.lookup x=some .local∨(relabel scope X.env).names.lookup x=some .cell∨(relabel scope X.env).names.lookup x=some .free:=h3;rcases h3' with z|z|z
    ·exfalso;rcases DR z with w|w
     ·have lk:scope.names.lookup x=some .local:=w;have:=S.ndl x hx;rw[lk] at this;cases this
     ·exact absurd w.2 (by decide)
    ·exact .inl z
    ·exact .inr z
   ·obtain⟨oc,hoc,hd⟩:=q;exact⟨oc,hk c oc hoc,hd⟩
 ·obtain⟨v,oc,hoc,hd⟩:=I.cell x c (sub x c e);exact⟨v,oc,hk c oc hoc,hd⟩
 ·have e:p=(D,o):=by simpa[cxB] using hp
  subst e;refine⟨hDo,I.hok.fresh hD,hDC,λhz=>?_,hcell⟩;have hz':D∈frs X.stack:=hz;rcases AAJ.mp (I.stkSub D hz') with z|z
  ·exact absurd I.lt (by rw[←z];exact Nat.not_lt.mpr hD)
  ·exact I.nofs hD z
 ·show (List.replicate tgs.length none++Kn ix σ).length=(tgs++CO scope.names).length;have e:=congrArg List.length S.ixs;simp only[AAG] at e;rw[AAH,AAH,AAp,e];unfold Kn;rw[AAG]
def KL(X:Cx)(ifs:List Expr)(tc:TT):Prop:=
 ∀(pins:List (Addr×Obj)) (s:Shared) (σ:St) (H:Hp) (Q:Bool->Hp->Prop),Inv X pins σ H s->tc σ H Q->
  wpAny (model X.prog X.w) X.A (forIn ifs true λc r=>if r=true then do let ok ←isTrue c X.env (eval c X.env);pure (ForInStep.yield ok) else pure (ForInStep.yield r)) (TP X pins σ Q) X.xe s
def a6:TT:=λ_ H Q=>Q true H
theorem UV:KL X [] a6:=λpins s σ H Q I h=>wpAny_tests_nil ⟨H,I,h⟩
theorem UU(h:PT X c tc):KL X [c] tc:=λpins s σ H Q I hw=>wpAny_tests_one (h pins s σ H Q I hw)
def GK(n:Nat)(g:TG):Prop:=∀x σ H Q,g x σ H Q->g x σ H λσ2 H2=>Q σ2 H2/\σ2.length=σ.length/\σ2.drop n=σ.drop n
theorem L9(h:i<n):GK n (Dh i):=λx σ H Q q=>⟨q,by simp,by rw[List.drop_set_of_lt h]⟩
def cZ(tgs:List Str)(ix:List Nat)(g:TG)(tc:TT)(te:TE)(σ:St)(Q:VK)(J:It)(H1:Hp):Prop:=∃W:Nat->Nat->List V->Hp->Prop,(∃m,W 0 m [] H1)/\∀i m ys H,W i m ys H->
 (J.stop i H/\ys.length<=sizeLine/\∀p,H p=none->Q (.ref p) (upd H p (.lst ys))) ∨
 (J.go i H/\ys.length<sizeLine/\∃N:List V->Hp->Prop,(∀ys' H',N ys' H'->∃m',m'<m/\W (i+1) m' ys' H')/\∀x H',J.yld i H x H'->g x (CK tgs ix σ) H' λσ2 H2=>tc σ2 H2 λb H3=>
  if b=true then te σ2 H3 λv H4=>N (ys++[v]) H4 else N ys H3)
noncomputable def Iq(tgs:List Str)(ix:List Nat)(wi:TI)(g:TG)(tc:TT)(te:TE):TE:=λσ H Q=>wi σ H λJ H1=>cZ tgs ix g tc te σ Q J H1
theorem HY(h:wpAny M A t Q (λ_ _=>False) s)(hQ:∀a s,Q a s->Q' a s):wpAny M A t Q' E s:=AAl h hQ λ_ _ x=>x.elim
theorem Ri(hu:u=pure ())(h:wpAny M A u P E s)(k:∀s',P () s'->wpAny M A t Q E s'):wpAny M A t Q E s:=by
 subst hu;have z:wpAny M A ((pure ():Sem Unit) >>= λ_=>t) Q E s:=AAA (AAl h (λ_ s' p=>k s' p) λ_ _ x=>x);exact z
end
section
variable{X:Cx}{scope:Scope}{tgs:List Str}{ix:List Nat}
noncomputable abbrev Ev(its:List Value)(k:Nat):Obj:={ cls:=.type "list",data:=.seq its.toArray k }
theorem Pi(I:Inv (cxB X scope tgs fp C s0 H0) pins σ6 H s)(l6:σ6.length=(CK tgs ix σ).length)
  (d6:σ6.drop tgs.length=(CK tgs ix σ).drop tgs.length):Inv (cxB X scope tgs fp C s0 H0) pins (CK tgs ix σ) H s:=by
 refine I.weak l6.symm λk v e=>?_;obtain⟨hk,_⟩:=Ir e;have e1:σ6[k]?=(σ6.drop tgs.length)[k-tgs.length]?:=by rw[List.getElem?_drop];congr 1;omega
 have e2:(CK tgs ix σ)[k]?=((CK tgs ix σ).drop tgs.length)[k-tgs.length]?:=by rw[List.getElem?_drop];congr 1;omega
 rw[e1,d6,←e2];exact e
theorem Jw{elt tg iter:Expr}{ifs:List Expr}{pos:Pos}{g:TG}{tc:TT}{te:TE}{pins:List (Addr×Obj)}{fp:List Addr}{tn:Nat->Heap->Prop}{J:It}{Q:VK}
  (S:BScope X scope tgs ix) (ht:∀o v,letOwnedTupleGo tg o v=pure ()) (hc:X.calm=true) (hg:∀fp C s H,PG (cxB X scope tgs fp C s H) tg g) (hgk:GK tgs.length g) (hi:∀fp C s H,KL (cxB X scope tgs fp C s H) ifs tc) (he:∀fp C s H,PE (cxB X scope tgs fp C s H) elt te)
  (I2:Inv X pins σ H2 s2) (T:ML X.prog X.w X.K tg J fp it tn) (t0:tn 0 s2.heap) (hf:∀b∈fp,Ew X pins H2 b)
  (W:Nat->Nat->List V->Hp->Prop) (w0:∃m,W 0 m [] H2)
  (turn:∀i m ys H,W i m ys H->(J.stop i H/\ys.length<=sizeLine/\∀p,H p=none->Q (.ref p) (upd H p (.lst ys))) ∨
   (J.go i H/\ys.length<sizeLine/\∃N:List V->Hp->Prop,(∀ys' H',N ys' H'->∃m',m'<m/\W (i+1) m' ys' H')/\∀x H',J.yld i H x H'->g x (CK tgs ix σ) H' λσ2 H2=>tc σ2 H2 λb H3=>
    if b=true then te σ2 H3 λv H4=>N (ys++[v]) H4 else N ys H3))
  {RR:Value->Addr->Result->Shared->Prop}
  (fin:∀(D C:Addr) (s':Shared) (H':Hp) (m:Str->Option Value),Inv X pins σ H' s'->Q (.ref D) H'->s'.heap.Ns C m->Ew X pins H' C->RR (.ref D) C (.ok .next) s') :
  wpAny (model X.prog X.w) X.A (newList []) (λacc s₃=>wpAny (model X.prog X.w) X.A (newFunctionEnv scope X.env.globals (Ds X.env scope.names []) [] X.env.qual none .none (some X.env)) (λcenv s₄=>
   codeAny (model X.prog X.w) X.A (.compStart (.ListComp elt [⟨tg,iter,ifs,0⟩] scope pos) 0 (.ref it) acc { cenv with scope:=relabel scope X.env }) (RR acc cenv.locals) s₄) X.xe s₃) X.xe s2:=by
 refine AAt (wpAny_newFunctionEnv S.nocell (by intro y hy;simp at hy) (λh₁ hns₁ hsb₁=>?_) S.kind);dsimp only at hns₁ hsb₁ ⊢;generalize hH2:s2.heap.push { cls:=.type "list",dict:=none,data:=.seq ([]:List Value).toArray }=G2 at hns₁ hsb₁ ⊢;have hC:G2.objs.size=s2.heap.objs.size+1:=by rw[←hH2,Heap.size_push]
 have hCle:s2.heap.objs.size<=G2.objs.size:=by rw[hC];exact Nat.le_succ _
 have hDC:s2.heap.objs.size≠G2.objs.size:=by rw[hC];exact AAf (Nat.lt_succ_self _)
 have below:∀b,b<s2.heap.objs.size->b≠G2.objs.size/\b≠s2.heap.objs.size:=λb hb=>⟨by rw[hC];exact AAf (AAj hb),AAf hb⟩;have old:∀b o,s2.heap.get? b=some o->h₁.get? b=some o:=λb o e=>hsb₁.extBut b o (below b (Heap.lt_size e)).1 (AAC _ (hH2 ▸ AAC _ e));have hacc:h₁.get? s2.heap.objs.size=some (Ev [] 0):=hsb₁.extBut _ _ hDC (AAC _ (hH2 ▸ AAD _ rfl));have hfo:∀b∈fp,b<s2.heap.objs.size:=λb hb=>let ⟨o,e,_⟩:=T.obj 0 _ t0 b hb;Heap.lt_size e
 have ok:=O4 (tgs:=tgs) (ix:=ix) (C:=G2.objs.size) S I2 hf hfo hCle;have sub:∀x c,(Ds X.env scope.names []).lookup x=some c->X.env.cells.lookup x=some c:=EE scope.names [] (λ_ _ z=>by simp at z);have nDfs:s2.heap.objs.size∉frs X.stack:=λhz=>by
  rcases AAJ.mp (I2.stkSub _ hz) with z|z
  ·exact absurd I2.lt (by rw[←z];exact AA4 _)
  ·exact I2.nofs (AAF _) z
 have nDcell:∀x c,(Ds X.env scope.names []).lookup x=some c->c≠s2.heap.objs.size:=λx c e=>AAf (I2.cellLt (sub x c e));have ncell:∀(its:List Value) (k:Nat) (v:Option Value),(Ev its k).data≠.cell v:=λits k v z=>by cases z
 have stat:∀{Hx:Hp} {o:Obj},(∀b∈fp,Hx b=none)->∀b∈fp,Ew (cxB X scope tgs fp G2.objs.size s2 H2) [(s2.heap.objs.size,o)] Hx b:=λ{Hx o} hn b hb=>
  ⟨hn b hb,(ok.exf b hb).1,ok.exfs b hb,.inl hb,(ok.exf b hb).2,λp hp z=>by
   have e:p=(s2.heap.objs.size,o):=by simpa[cxB] using hp
   subst e;exact absurd (hfo b hb) (by rw[←z];exact AA4 _)⟩
 have loop:∀s₃:Shared,s₃={ s2 with heap:=h₁,toks:=s2.toks+([]:List (Str×Value)).length }->
   codeAny (model X.prog X.w) X.A (.compLoop (.ListComp elt [⟨tg,iter,ifs,0⟩] scope pos) 0 (.ref it) (.ref s2.heap.objs.size) (compEnvC scope (Ds X.env scope.names []) G2.objs.size X.env)) (RR (.ref s2.heap.objs.size) G2.objs.size) s₃:=by
  rintro s₃ rfl;obtain⟨m0,w0⟩:=w0;refine codeAny_compLoop_tests (λn s=>∃i ys its k H,Inv (cxB X scope tgs fp G2.objs.size s2 H2) [(s2.heap.objs.size,Ev its k)] (CK tgs ix σ) H s/\tn i s.heap/\(∀b∈fp,H b=none)/\Vals ys its/\W i n ys H) ?_ m0
   ⟨0,[],[],0,H2,Jh S I2 hf hfo hCle (AAF _) hDC hns₁ old rfl rfl hacc (ncell _ _),T.keep 0 _ _ t0 λb _ o e=>old b o e,λb hb=>(hf b hb).1,.nil,w0⟩ (ht _)
  rintro n s ⟨i,ys,its,k,H,I,st,fr,rv,w⟩;rcases turn i n ys H w with ⟨stop,hz,q⟩|⟨go,hz8,N,hN,step⟩
  ·refine thn (T.done (cxB X scope tgs fp G2.objs.size s2 H2) rfl rfl rfl hc i _ s _ H _ I (stat fr) st stop) λr s1 ⟨hr,I1⟩=>?_;subst hr;obtain⟨pe,pn,_⟩:=I1.pin (s2.heap.objs.size,Ev its k) (AAc _ (by simp));have J0:Inv X pins σ H s1:=I2.call' I1.os I1.base I1.hok I1.bare λb hb=>⟨(hf b hb).2.2.2.1,(hf b hb).2.1,(hf b hb).2.2.2.2.1,(hf b hb).2.2.2.2.2⟩;have J1:Inv X pins σ (upd H s2.heap.objs.size (.lst ys)) s1:=J0.track (I2.fpOk (AAF _) pn) ⟨hz,its,k,rv,pe⟩;obtain⟨m,hn,_⟩:=I1.loc;exact fin _ _ s1 _ m J1 (q _ pn) hn (I2.fpOk hCle (by rw[A9 (Ne.symm hDC)];exact I1.free))
  ·refine thn (T.item (cxB X scope tgs fp G2.objs.size s2 H2) rfl rfl rfl hc i _ s _ H _ I (stat fr) st go) λr s1 ⟨u,hr,h1⟩=>?_;subst hr;refine Ri (ht _ _) h1 λs5 ⟨x,H5,I5,r5,y5,st5,fr5⟩=>?_;have I5':=I5.pinned (stat fr5) (T.obj _ _ st5);refine HY (hg fp G2.objs.size s2 H2 _ s5 _ H5 x u _ I5' r5 (hgk _ _ _ _ (step x H5 y5))) λ_ s6 zz=>?_;obtain⟨σ6,H6,I6,q6,l6,d6⟩:=zz;refine HY (hi fp G2.objs.size s2 H2 _ s6 σ6 H6 _ I6 q6) λokb s7 ⟨H7,I7,q7⟩=>?_;cases okb with
   |false=>
    rw[if_neg AAi] at q7 ⊢;obtain⟨m',hm,w7⟩:=hN _ _ q7;refine⟨m',hm,i+1,ys,its,k,H7,Pi I7.unpinned l6 d6,T.keep _ _ _ st5 λb hb o e=>(I7.pin (b,o) (AAc _ (AAc _ (Bb hb e)))).1,λb hb=>?_,rv,w7⟩;obtain⟨o,e,_⟩:=T.obj _ _ st5 b hb;exact(I7.pin (b,o) (AAc _ (AAc _ (Bb hb e)))).2.1
   |true=>
    rw[if_pos rfl] at q7 ⊢;refine HY (he fp G2.objs.size s2 H2 _ s7 σ6 H7 _ I7 q7) λxv s8 ⟨v,H8,I8,rv8,q8⟩=>?_;obtain⟨m',hm,w8⟩:=hN _ _ q8;obtain⟨pe,pn,_⟩:=I8.pin (s2.heap.objs.size,Ev its k) (AAc _ (AAd _ (by simp)));have hlen:=rv.length;refine call_meets PySem.F.slot_list_append ⟨_,pe,rfl⟩ PySem.F.entry_list_append (PySem.F.args_list_append_2 _ _) (PySem.list_append s2.heap.objs.size its.toArray k xv (by rw[List.size_toArray];omega)) ⟨pe,?_⟩;have hp:its.toArray.push xv=(its++[xv]).toArray:=by simp
    have q':∃k',(s8.heap.update s2.heap.objs.size (Obj.mapSeq (λa=>a.push xv))).get? s2.heap.objs.size=some (Ev (its++[xv]) k'):=⟨_,by
     unfold Ev;rw[←hp];exact PySem.IsL.update pe (λa=>a.push xv)⟩
    obtain⟨k',q'⟩:=q';have I9:Inv (cxB X scope tgs fp G2.objs.size s2 H2) [] σ6 H8 { s8 with heap:=s8.heap.update s2.heap.objs.size (Obj.mapSeq (λa=>a.push xv)) }:=
     (I8.pins_of (pins':=[]) (λp hp=>absurd hp (by simp))).turned (t':=s8.toks) (λb o hb e=>(Heap.get?_update_other s8.heap (Obj.mapSeq (λa=>a.push xv)) (Ne.symm hb)).trans e) pn hDC (.inr (AAF _)) nDcell (λp hp=>absurd hp (by simp[cxB]))
    have I10:Inv (cxB X scope tgs fp G2.objs.size s2 H2) [(s2.heap.objs.size,Ev (its++[xv]) k')] σ6 H8 { s8 with heap:=s8.heap.update s2.heap.objs.size (Obj.mapSeq (λa=>a.push xv)) }:=
     I9.pins_of λp hp=>by
      have e:p=(s2.heap.objs.size,Ev (its++[xv]) k'):=by simpa using hp
      subst e;exact⟨q',pn,hDC,nDfs,ncell _ _⟩
    refine⟨m',hm,i+1,ys++[v],its++[xv],k',H8,Pi I10 l6 d6,T.keep _ _ _ st5 λb hb o e=>?_,λb hb=>?_,rv.append (.cons rv8 .nil),w8⟩
    ·exact(Heap.get?_update_other s8.heap (Obj.mapSeq (λa=>a.push xv)) (Ne.symm (below b (hfo b hb)).2)).trans (I8.pin (b,o) (AAc _ (AAc _ (Bb hb e)))).1
    ·obtain⟨o,e,_⟩:=T.obj _ _ st5 b hb;exact(I8.pin (b,o) (AAc _ (AAc _ (Bb hb e)))).2.1
 exact codeAny_compStart_list (loop _ rfl) (T.self _ 0 _ _ _ (T.keep 0 _ _ t0 λb _ o e=>old b o e) (loop _ rfl))
theorem QK{elt tg iter:Expr}{ifs:List Expr}{pos:Pos}{tc:TT}{te:TE}(S:BScope X scope tgs ix)(hc:X.calm=true)(hi:PI X tg iter wi)(hg:∀fp C s H,PG (cxB X scope tgs fp C s H) tg g)(hgk:GK tgs.length g)
  (hif:∀fp C s H,KL (cxB X scope tgs fp C s H) ifs tc) (he:∀fp C s H,PE (cxB X scope tgs fp C s H) elt te) (hs:∀x,foldedSetIterable iter X.env x=pure x:=by intro _;rfl) (ht:∀o v,letOwnedTupleGo tg o v=pure ():=by intro _ _;rfl) :
  PE X (.ListComp elt [⟨tg,iter,ifs,0⟩] scope pos) (Iq tgs ix wi g tc te):=by
 intro pins s σ H Q I h;rw[eval_ListComp];refine wpAny_comprehension_free (use:=none) rfl hs (B5 (S.cells I.ok)) S.kind S.loc ?_;show wpAny _ _ (eval iter X.env) _ _ s;refine thn (hi pins s σ H _ I h) λv s1 h1=>thn h1 λitv s2 h2=>?_;obtain⟨it,fp,tn,J,H2,e,I2,T,t0,f2,W,w0,turn⟩:=h2;subst e;refine Jw (RR:=λacc C=>compPost (model X.prog X.w) X.A X.xe none (EP X pins σ Q) acc C) S ht hc hg hgk hif he I2 T t0 f2 W w0 turn ?_;intro D C s' H' m J1 q hn fC;obtain⟨f0,f1,f2,f3,f4,f5⟩:=fC;exact⟨m,hn,λh' sb=>⟨.ref D,H',J1.turned (t':=s'.toks) (λb o hb e=>(sb.2 b hb).trans e) f0 f1 f3 f4 f5,rfl,q⟩⟩
theorem Og(hN:X.N.Nodup)(hiN:X.N[i]?=some y)(hy:X.env.scope.names.lookup y=some .local)
  (S:BScope X scope tgs ix) (hc:X.calm=true) (hi:PI X tg iter wi) (hg:∀fp C s H,PG (cxB X scope tgs fp C s H) tg g) (hgk:GK tgs.length g)
  (hif:∀fp C s H,KL (cxB X scope tgs fp C s H) ifs tc) (he:∀fp C s H,PE (cxB X scope tgs fp C s H) elt te)
  (hsw:swapsWith (.ListComp elt [⟨tg,iter,ifs,0⟩] scope pos) (some (.Name y py)) spos.line X.env=pure true:=by rfl) (hs:∀x,foldedSetIterable iter X.env x=pure x:=by intro _;rfl) (ht:∀o v,letOwnedTupleGo tg o v=pure ():=by intro _ _;rfl) :
  PS X (.Assign [.Name y py] (.ListComp elt [⟨tg,iter,ifs,0⟩] scope pos) spos) (Ti (Iq tgs ix wi g tc te) (Dh i)):=by
 intro pins s σ H D0 I h;rw[exec_Assign_Name_used _ _ _ _ hsw];refine AAA (wpAny_standAt (AAA ?_));show wpAny _ X.A (do let _ ←comprehension (.ListComp elt [⟨tg,iter,ifs,0⟩] scope pos) scope X.env _ (newList []) false (eval iter X.env) (some (assign (.Name y py) X.env))) _ _ s;refine AAA (AAl (wpAny_comprehension_free (use:=some (assign (.Name y py) X.env)) (Q:=λ_ s'=>SP X pins D0 .next s') rfl hs (B5 (S.cells I.ok)) S.kind S.loc ?_) (λ_ s' hq=>AAB (AAB hq)) λ_ _ e=>e);refine thn (hi pins s σ H _ I h) λv s1 h1=>thn h1 λitv s2 h2=>?_;obtain⟨it,fp,tn,J,H2,e,I2,T,t0,f2,W,w0,turn⟩:=h2;subst e;refine Jw (Q:=λx H1=>Dh i x σ H1 D0.nx) (RR:=λacc C=>compPost (model X.prog X.w) X.A X.xe (some (assign (.Name y py) X.env)) (λ_ s'=>SP X pins D0 .next s') acc C) S ht hc hg hgk hif he I2 T t0 f2 W w0 turn ?_;intro D C s' H' m J1 q hn fC;obtain⟨f0,f1,f2,f3,f4,f5⟩:=fC;show wpAny _ X.A (assign (.Name y py) X.env (.ref D)) _ _ _;refine wpAny_assign_Name (G1 (v:=.ref D) J1 hN hiN (.inl hy) rfl (λs'' I'' hsb=>?_) (.inr hy));obtain⟨a,sb,ha⟩:=hsb;have hCa:C≠a:=by
  rcases ha with z|z
  ·rw[z];exact f1
  ·exact Ne.symm (f4 y a z)
 exact⟨m,hn.sameBut sb hCa,λh' sb'=>⟨_,H',I''.turned (t':=s''.toks) (λb o hb e=>(sb'.2 b hb).trans e) f0 f1 f3 f4 f5,q⟩⟩
end
section
variable{X:Cx}
theorem N6:CT X (.builtin "isinstance") (λxs H Q=>∃x T t b,xs=[x,.ty T]/\Gn X.K H x t/\PySem.W.kitOne X.K t (.type T)=some b/\Q (.bl b) H):=by
 intro pins s σ H xs us Q I r h;obtain⟨x,T,t,b,rfl,ty,e,q⟩:=h;obtain⟨u,w',rfl,rx,ry⟩:=az r;cases ry;exact Rx I rx ty e λtk=>⟨.bl b,H,I.tok tk,rfl,q⟩
noncomputable def ci(K:PySem.W.Frag)(te ts:TE):TE:=λσ H Q=>te σ H λx H1=>ts σ H1 λy H2=>y=.int (-1)/\∃a xs,x=.ref a/\SqL K H2 a xs/\∀p,H2 p=none->Q (.ref p) (upd H2 p (.lst xs.reverse))
theorem Zu{e st:Expr}(he:PE X e te)(hst:PE X st ts):PE X (.Subscript e (.Slice none none (some st) p2) pos) (ci X.K te ts):=by
 intro pins s σ H Q I h;refine Subscript_ (thn (he pins s σ H _ I h) λv s1 ⟨x,H1,I1,r1,q1⟩=>?_);refine wpAny_Slice ?_;rw[evalPart_none,evalPart_some];refine AAB (AAB (thn (hst pins s1 σ H1 _ I1 q1) λvk s3 zz=>?_));obtain⟨y,H3,I3,pk,ey,a,xs,ex,hq,q⟩:=zz;subst ey ex;obtain⟨t,rfl⟩:=pk;cases r1;have I4:Inv X pins σ H3 { s3 with heap:=s3.heap.push { cls:=.type "slice",data:=.fields #[.none,.none,.int (-1) t] } }:=I3.kept (t':=s3.toks) λb ob q=>AAC _ q;obtain⟨its,r,ht,hz⟩:=I4.list hq;have hlen:=r.length;show wpAny (model X.prog X.w) X.A (subscriptTail e (.Slice none none (some st) p2) (.ref a) (.ref s3.heap.objs.size)) (EP X pins σ Q) X.xe { s3 with heap:=s3.heap.push { cls:=.type "slice",data:=.fields #[.none,.none,.int (-1) t] } };refine tail_any (ops:=[.ref a,.ref s3.heap.objs.size]) ht.isList.typeIs slot_list_getitem.lookup ?_ (by with_unfolding_all rfl);refine wpAny_getItem_list_slice ht.isList (Heap.IsSliceOf.new ..) .none .none (.int (-1) t) (by decide) ?_ (by rw[List.size_toArray]<;>omega);rw[PySem.W.krv_pick];refine⟨.ref _,_,I4.laid (t':=s3.toks) (o:=.lst xs.reverse) (λb ob q=>AAC _ q) (AAF _) ?_,rfl,q _ (I4.hok.fresh (AAF _))⟩;exact⟨by rw[List.length_reverse];exact hz,its.reverse,0,r.reverse,by
  have e:its.toArray.toList.reverse.toArray=its.reverse.toArray:=by simp
  rw[e];exact AAD _ rfl⟩
end
theorem Es:entryFor table "dict.update.loop" = some Builtin.«dict.update.loop»:=entryFor_of_fast (by kernel_rfl)
theorem Em(args:Args):(Code.builtin "dict.update.loop" args).quiet=true:=Code.quiet_builtin args (by decide +kernel)
mutual
inductive DatV (K:PySem.W.Frag) (H:Hp):V->PyData->Prop
 |non:DatV K H .non .none
 |bl (b:Bool):DatV K H (.bl b) (.bool b)
 |int (i:Int):DatV K H (.int i) (.int i)
 |str (x:Str):DatV K H (.str x) (.str x)
 |tup {a:Addr} {xs:List V} {ds:List PyData}:SqT K H a xs->DatVs K H xs ds->DatV K H (.ref a) (.tuple ds)
 |lst {a:Addr} {xs:List V} {ds:List PyData}:SqL K H a xs->DatVs K H xs ds->DatV K H (.ref a) (.list ds)
inductive DatVs (K:PySem.W.Frag) (H:Hp):List V->List PyData->Prop
 |nil:DatVs K H [] []
 |cons {v:V} {d:PyData} {vs:List V} {ds:List PyData}:DatV K H v d->DatVs K H vs ds->DatVs K H (v::vs) (d::ds)
end
section
variable{X:Cx}{pins:List (Addr×Obj)}{σ:St}{H:Hp}{s:Shared}
mutual
theorem DatV.reads(I:Inv X pins σ H s):∀{v:V} {d:PyData},DatV X.K H v d->∀{u:Value},RelV v u->∃as,Reads s.heap u d as
 |_,_,.non,_,r=>by cases r;exact⟨[],.none⟩
 |_,_,.bl b,_,r=>by cases r;exact⟨[],.bool b⟩
 |_,_,.int i,_,r=>by obtain⟨t,rfl⟩:=r;exact⟨[],.int i t⟩
 |_,_,.str x,_,r=>by obtain⟨t,rfl⟩:=r;exact⟨[],.str x t⟩
 |_,_,.tup hq hs,_,r=>by
  cases r;obtain⟨its,rv,⟨o,e,c,n,d⟩,_⟩:=I.tuple hq;obtain⟨as,ra⟩:=DatVs.reads I hs rv;exact⟨_,.tuple e c d (by simpa using ra)⟩
 |_,_,.lst hq hs,_,r=>by
  cases r;obtain⟨its,rv,⟨o,n,e,c,_,d⟩,_⟩:=I.list hq;obtain⟨as,ra⟩:=DatVs.reads I hs rv;exact⟨_,.list e c d (by simpa using ra)⟩
theorem DatVs.reads(I:Inv X pins σ H s):∀{vs:List V} {ds:List PyData},DatVs X.K H vs ds->∀{us:List Value},Vals vs us->∃as,ReadsAll s.heap us ds as
 |_,_,.nil,_,.nil=>⟨[],.nil⟩
 |_,_,.cons h t,_,.cons r rr=>by
  obtain⟨a,ra⟩:=DatV.reads I h r;obtain⟨b,rb⟩:=DatVs.reads I t rr;exact⟨_,.cons ra rb⟩
end
end
section
variable{X:Cx}
theorem Z9(hu:X.A.units+64<cLine):OpR X (compareOp .Eq) (λx y H Q=>∃d d',DatV X.K H x d/\DatV X.K H y d'/\SeqAt.shaped d=true/\SeqAt.shaped d'=true/\Q (.bl (PyData.eqv d d')) H):=by
 intro pins s σ H x y v u Q I rx ry h;obtain⟨d,d',h1,h2,s1,s2,q⟩:=h;obtain⟨as,ra⟩:=h1.reads I rx;obtain⟨bs,rb⟩:=h2.reads I ry;exact SeqAt.compareEq_shaped ra rb s1 s2 hu ⟨.bl _,H,I,rfl,q⟩
theorem Z5(hu:X.A.units+64<cLine):OpR X (compareOp .NotEq) (λx y H Q=>∃d d',DatV X.K H x d/\DatV X.K H y d'/\SeqAt.shaped d=true/\SeqAt.shaped d'=true/\Q (.bl (!PyData.eqv d d')) H):=by
 intro pins s σ H x y v u Q I rx ry h;obtain⟨d,d',h1,h2,s1,s2,q⟩:=h;obtain⟨as,ra⟩:=h1.reads I rx;obtain⟨bs,rb⟩:=h2.reads I ry;exact SeqAt.compareNe_shaped ra rb s1 s2 hu ⟨.bl _,H,I,rfl,q⟩
theorem T0(hr:Room k A):A.units+64<cLine:=hr.units
end
theorem Inv.turnedL{X:Cx}{pins:List (Addr×Obj)}{σ:St}{H:Hp}{t':Nat}{ch:List Addr}(I:Inv X pins σ H s)(k:∀b o,b∉ch->s.heap.get? b=some o->h'.get? b=some o)(hf:∀b∈ch,Ew X pins H b):Inv X pins σ H { s with heap:=h',toks:=t' }:=by
 have nit:∀b u,H b=some u->b∉ch:=λb u e z=>by rw[(hf b z).1] at e;cases e
 refine I.step (g':=s.gens) (d':=s.drawn) (ch:=ch) (λb hb=>⟨(hf b hb).2.2.2.1,(hf b hb).2.1,(hf b hb).2.2.2.2.1,(hf b hb).2.2.2.2.2⟩) (λb o _ _ hc e _=>k b o hc e) (λb o _ _ hc e _=>⟨o.slots,k b o hc e⟩) (λ_ _ _ _ n=>n)
  (λb o hc e=>⟨o,k b o hc e⟩) (λ_ _ e=>e) (λ_ _ _ e=>e) (λb ps e=>⟨#[],by rw[e];simp⟩) (λm hm=>?_) (λb u e=>?_) I.bare
 ·obtain⟨o,es,ep,ho,r⟩:=hm;exact⟨o,es,ep,k _ o (λz=>(hf _ z).2.1 rfl) ho,r⟩
 ·refine(I.hok b u e).stay (λc v hc q=>k c v ?_ q) (λ_ q=>q) λ_ _ q=>q;rcases hc with z|z
  ·rw[z];exact nit b u e
  ·exact nit c _ z
noncomputable def ItP(K:PySem.W.Frag)(n:Nat)(src:Nat->List V)(Cond:PySem.W.Frag->Hp->Prop):It:=
 ⟨λi H=>i<n/\Cond K H,λi H v H'=>∃T,H T=none/\v=.ref T/\H'=upd H T (.tup (src i)),λi H=>i=n/\Cond K H⟩
theorem Im{P:Program}{w:World}{K:PySem.W.Frag}{es:List Expr}{k0:Nat}{pos:Pos}{I0:Addr}{ι:Type}{fp wr:List Addr}{n:Nat}{src:Nat->List V}{good:ι->Prop}{Pt:ι->Nat->Array Value->Prop}{Sw:ι->Nat->Heap->Prop}{Mid:ι->Nat->Addr->Heap->Prop}{tn:Nat->Heap->Prop}{Cond:PySem.W.Frag->Hp->Prop}
  (W:∀A:Around,A.handled=none->∀z,good z->WalksT P w A I0 fp wr n (Pt z) (Sw z) (Mid z)) (hmem:I0∈wr) (hPt:∀z i vals,good z->Pt z i vals->Vals (src i) vals.toList) (hlen:∀i,(src i).length<=sizeLine)
  (obj:∀i h,tn i h->∀b∈wr,∃o,h.get? b=some o/\∀v,o.data≠.cell v)
  (keep:∀i h h',tn i h->(∀b∈wr,∀o,h.get? b=some o->h'.get? b=some o)->tn i h')
  (into:∀(X:Cx) (pins:List (Addr×Obj)) (σ:St) (H:Hp) (s:Shared) (i:Nat),X.prog=P->X.w=w->X.K=K->Inv X pins σ H s->Cond K H->tn i s.heap->∃z,good z/\Sw z i s.heap) (out:∀z i h,Sw z i h->tn i h)
  (self:∀(A:Around) (i:Nat) (s:Shared) (Q:Value->Shared->Prop) (E:Value->Shared->Prop),tn i s.heap->Q (.ref I0) s->wpAny (model P w) A (pyIter (.ref I0)) Q E s) :
  ML P w K (.Tuple es k0 pos) (ItP K n src Cond) wr I0 tn where
 mem:=hmem
 obj:=obj
 keep:=keep
 item:=by
  intro X hP hw hK hc i pins s σ H E I hf st hg;obtain⟨hi,hcond⟩:=hg;obtain⟨z,gz,sz⟩:=into X pins σ H s i hP hw hK I hcond st;have W':=W X.A (I.ok.hd hc) z gz;refine W'.item i s _ _ hi sz λT vals h' tk hp hT ht hm kk=>⟨_,rfl,?_⟩;have I1:Inv X pins σ H { s with heap:=h',toks:=tk }:=I.turnedL kk hf;refine W'.go es k0 pos i T _ _ _ hm λh2 st2 kk2=>?_;have I2:Inv X pins σ H { s with heap:=h2,toks:=tk }:=I1.turnedL (t':=tk) kk2 hf;have hn:H T=none:=I.hok.fresh hT;have ht2:IsTup h2 T vals:=by
   obtain⟨o,e,r⟩:=ht;exact⟨o,kk2 T o (W'.apart i T _ hm) e,r⟩
  refine⟨.ref T,upd H T (.tup (src i)),I2.track (I.fpOk hT hn) ⟨hlen i,vals.toList,hPt z i vals gz hp,by simpa using ht2⟩,rfl,⟨T,hn,rfl,rfl⟩,out z _ _ st2,λb hb=>?_⟩;have hbT:b≠T:=λz=>W'.apart i T _ hm (by rw[←z];exact hb);rw[A9 hbT];exact(hf b hb).1
 done:=by
  intro X hP hw hK hc i pins s σ H E I hf st hg;obtain⟨hi,hcond⟩:=hg;subst hi;obtain⟨z,gz,sz⟩:=into X pins σ H s i hP hw hK I hcond st;exact(W X.A (I.ok.hd hc) z gz).done s _ _ sz λh' tk kk=>⟨rfl,I.turnedL kk hf⟩
 self:=self
noncomputable def Ge(xs:List V)(i:Nat):List V:=[.int i,xs.getD i .non]
theorem O3(r:Vals xs its)(h:∃t x,its.toArray[i]?=some x/\vals=#[.int i t,x]):Vals (Ge xs i) vals.toList:=by
 obtain⟨t,x,hx,rfl⟩:=h;have hx':its[i]?=some x:=by simpa using hx
 have hlt:i<its.length:=(AAU.mp hx').1;have hl:=r.length;have hv:xs[i]?=some (xs.getD i .non):=by
  rw[AAw (by omega)];simp[List.getD,show i<xs.length by omega]
 obtain⟨u,hu,ru⟩:=r.get hv;rw[hx'] at hu;cases hu;exact .cons ⟨t,rfl⟩ (.cons ru .nil)
theorem YM{P:Program}{w:World}{f:Nat->Heap->Prop}(A:Around)(i:Nat)(s:Shared)(Q:Value->Shared->Prop)(E:Value->Shared->Prop)(st:(∃old,IsEnum s.heap e it i old)/\f i s.heap)(h:Q (.ref e) s):wpAny (model P w) A (pyIter (.ref e)) Q E s:=by
 obtain⟨⟨old,he⟩,_⟩:=st;exact wpAny_pyIter_enum he h
theorem ae(he:∃old,IsEnum h e it i old)(ho:h.get? it=some o)(hd:∃vs,o.data=.fields vs):∀b∈[e,it],∃o,h.get? b=some o/\∀v,o.data≠.cell v:=λb hb=>by
 rcases AAJ.mp hb with z|z
 ·subst z;obtain⟨old,he⟩:=he;exact⟨_,he,λv q=>by cases q⟩
 ·rw[AAL.mp z];obtain⟨vs,hd⟩:=hd;exact⟨o,ho,λv q=>by rw[hd] at q;cases q⟩
end L2
namespace L2
open PySem PySem.Spec PyProof.Rows
open AutoSeq1 (wpAny_loadPart')
section
variable{X:Cx}
theorem SN:bootBuiltins "enumerate" = some (.type "enumerate"):=by decide +kernel
theorem ZL(I:Inv X pins σ H s):∀b∈[s.heap.objs.size+1,s.heap.objs.size],Ew X pins H b:=λb hb=>by
 have hb':b=s.heap.objs.size+1∨b=s.heap.objs.size:=by simpa using hb
 rcases hb' with e|e<;>subst e
 ·exact I.fpOk (Nat.le_succ _) (I.hok.fresh (Nat.le_succ _))
 ·exact I.fpOk (AAF _) (I.hok.fresh (AAF _))
end
end L2
namespace L2
open PySem PySem.Spec PyProof.Rows
def KGet(P:Params)(K:PySem.W.Frag)(a:Addr)(y:V)(r:Option V):Prop:=
 ∃x es n r',y=.str x/\K.lookup a=some ⟨.type "dict",none,.dict es n,#[]⟩/\PySem.W.KeysLit P es.toList/\PySem.W.nsIn K a x=some r'/\RelO r r'/\(a==sysModules)=false
section
variable{X:Cx}{pins:List (Addr×Obj)}{σ:St}{H:Hp}{s:Shared}{a:Addr}{y v:V}{u:Value}{o:Option V}{A:Around}{E:Value->Shared->Prop}
theorem KGet.typeIs(I:Inv X pins σ H s)(g:KGet X.w.params X.K a y o):s.TypeIs (.ref a) "dict" := by
 obtain⟨x,es,n,r',_,hl,_⟩:=g;exact⟨_,I.kIn a _ hl,rfl⟩
theorem Rw{Q:Value->Shared->Prop}(I:Inv X pins σ H s)(g:KGet X.w.params X.K a y (some v))(ry:RelV y u)(h:∀w' s',Inv X pins σ H s'->RelV v w'->Q w' s'):
  wpAny (model X.prog X.w) A (getItem (.ref a) u) Q E s:=by
 obtain⟨x,es,n,r',e,hl,hk,hn,ro,_⟩:=g;subst e;obtain⟨t,rfl⟩:=ry;obtain⟨w',rfl,rw'⟩:=RelO.some_of ro;exact wpAny_getItem_of (strKind_is X.prog X.w x t) (PySem.W.mapOf_K (prog:=X.prog) (λa o q=>I.kIn a o q) hl hk) (PySem.W.find_K hl hn) (h w' _ (I.tok _) rw')
end
noncomputable def bE(P:Params)(K:PySem.W.Frag)(td ty:TE):TE:=λσ H Q=>td σ H λx H1=>ty σ H1 λy H2=>∃a v,x=.ref a/\KGet P K a y (some v)/\Q v H2
section
variable{X:Cx}{o i:Expr}{pos:Pos}{td ty:TE}
theorem XW(ho:PE X o td)(hi:PE X i ty)(hs:ST i):PE X (.Subscript o i pos) (bE X.w.params X.K td ty):=by
 intro pins s σ H Q I h;refine Le PySem.F.slot_dict_getitem.lookup hs (thn (ho pins s σ H _ I h) λu s1 ⟨x,H1,I1,rx,q1⟩=>thn (hi pins s1 σ H1 _ I1 q1) λiv s2 ⟨y,H2,I2,ry,a,v,ex,g,q2⟩=>?_);subst ex;obtain rfl:u=Value.ref a:=rx;exact⟨g.typeIs I2,Rw I2 g ry λw' s3 I3 rw'=>⟨v,H2,I3,rw',q2⟩⟩
end
end L2
namespace Nk
open PySem PySem.Spec PyProof.Rows
inductive NK where
 |int (i:Int)|tup (ks:List NK)
noncomputable instance:DecidableEq NK:=λ_ _=>Classical.propDecidable _
mutual
def NK.hash:NK->Int
 | .int i=>hashInt i
 | .tup ks=>reduceHash (Builtin.Tuple.tupleHashOf (NK.hashes ks))
def NK.hashes:List NK->List Int
 |[]=>[]
 |k::ks=>NK.hash k::NK.hashes ks
end
section
variable{prog:Program}{w:World}{A:Around}{E:Value->Shared->Prop}{s:Shared}
theorem hash_tup(hu:A.units<cLine)(ho:s.heap.get? a=some o)(hc:o.cls=.type "tuple")(hd:o.data=.seq items n)
  (each:∀(P:Array Int->Shared->Prop),P hs.toArray { s with toks:=s.toks+d }->wpAny (model prog w) A.in1 (forIn items.toList (#[]:Array Int) λx r=>do let y ←pyHash x;pure (ForInStep.yield (r.push y))) P E s)
  (q:Q (reduceHash (Builtin.Tuple.tupleHashOf hs)) { s with toks:=s.toks+(d+1) }):wpAny (model prog w) A (pyHash (.ref a)) Q E s:=by
 have hT:s.TypeIs (.ref a) "tuple" := ⟨o,ho,hc⟩;show wpAny _ _ (pyHashByItsType (.ref a)) Q E s;unfold pyHashByItsType;refine AAA (wpAny_cRoomFor_or (.inr hu) (AAA (wpAny_specialOf hT PySem.F.slot_tuple_hash.lookup ?_)));rw[if_neg (by rw[beq_builtin_none];exact AAi)];refine AAA (wpAny_specialOf hT PySem.F.slot_tuple_hash.lookup ?_);show wpAny _ _ (callSpecialIfBoundUnlessNone? (.ref a) "__hash__" _ >>= _) Q E s;refine AAA (wpAny_callSpecialIfBoundUnlessNone?_slot hT PySem.F.slot_tuple_hash (AAe PySem.F.slot_tuple_hash hT PySem.F.entry_tuple_hash ?_ (PySem.F.args_tuple_hash_1 _)));show wpAny _ _ (Builtin.Tuple.tupleItemsOf (.ref a) >>= _) _ _ s;refine AAA (wpAny_tupleItemsOf ho hd (AAA ?_));rw[←Array.forIn_toList];refine each _ ?_;show wpAny _ _ (retInt (Builtin.Tuple.tupleHashOf hs.toArray.toList)) _ _ _;refine wpAny_ret_mkInt ?_;show wpAny _ _ (pyHashByItsType.reduced _) Q E _;unfold pyHashByItsType.reduced;unfold reduceHash at q;split
 ·rename_i hr;rw[if_pos hr] at q;exact AAB q
 ·rename_i hr;rw[if_neg hr] at q;exact AAA (wpAny_rule (AAB q))
end
end Nk
namespace Nk
open PySem PySem.Spec PyProof.Rows PySem.MeetsSeq PySem.SeqAt
abbrev Cs:=Int×Int×List Int
noncomputable def csK(c:Cs):NK:=.tup [.int c.1,.int c.2.1,.tup (c.2.2.map NK.int)]
open L2 in
noncomputable def cN(p:Addr)(l:List (Cs×Addr×V)):HO:=.ext λh=>∃(us:List Value) (o:Obj) (es:Array DictEntry) (ep:Nat),Vals (l.map (·.2.2)) us/\h.get? p=some o/\o.ExactDict/\o.data=.dict es ep /\
 es.toList=(l.zip us).map (λx=>{ key:=.ref x.1.2.1,hash:=(csK x.1.1).hash,val:=x.2 })/\(l.map (·.1)).Nodup/\l.length<=sizeLine/\(p==sysModules)=false
end Nk
namespace Mi
open PySem L2 Nk
inductive D where
 |non|bl (b:Bool)|int (i:Int)|str (x:Str)|ty (n:String)|scr (ns:List Int)|tup (xs:List D)|lst (xs:List D)|ref (n:Nat)
inductive MO where
 |lst (xs:List D)|dK (kvs:List (Key×D))|dC (kvs:List (Cs×D))|ins (c:Str) (fs:List (Str×D))|dP (w:World) (kvs:List (D×D))
abbrev Mh:=List MO
abbrev M(α:Type):=Mh->Option (α×Mh)
abbrev Sl:=List (Option D)
def ret{α:Type}(a:α):M α:=λμ=>some (a,μ)
def bnd{α β:Type}(m:M α)(f:α->M β):M β:=λμ=>match m μ with
 |some (a,μ1)=>f a μ1
 |none=>none
def BG{α:Type}:M α:=λ_=>none
theorem AI(h:bnd m f μ=some r):∃a μ1,m μ=some (a,μ1)/\f a μ1=some r:=by
 unfold bnd at h;cases e:m μ with
 |none=>rw[e] at h;cases h
 |some p=>obtain⟨a,μ1⟩:=p;rw[e] at h;exact⟨a,μ1,rfl,h⟩
@[simp] theorem cb(a:α)(f:α->M β):bnd (ret a) f=f a:=rfl
theorem Ap(h:m μ=some (a,μ1)):bnd m f μ=f a μ1:=by unfold bnd;rw[h]
def ScrAt(K:PySem.W.Frag)(H:Hp)(a:Addr)(xs:List V):Prop:=
 (∃o,H a=some (.frz o (.lst xs)))∨∃(o:Obj) (its:Array Value) (n:Nat),K.lookup a=some o/\o.cls=.type "list" /\ o.dict=none/\o.data=.seq its n/\its.size<=sizeLine/\Vals xs its.toList
theorem ScrAt.sq(h:ScrAt K H a xs):SqL K H a xs:=h.elim (λz=>.inl (.inr z)) .inr
mutual
def Is(K:PySem.W.Frag)(ι:Nat->Addr)(k:Nat)(H:Hp):D->V->Prop
 | .non,v=>v=.non
 | .bl b,v=>v=.bl b
 | .int i,v=>v=.int i
 | .str x,v=>v=.str x
 | .ty n,v=>v=.ty n
 | .scr ns,v=>∃p,v=.ref p/\ScrAt K H p (ns.map V.int)
 | .tup ds,v=>∃p vs,v=.ref p/\SqT K H p vs/\IsL K ι k H ds vs
 | .lst ds,v=>∃p vs,v=.ref p/\H p=some (.lst vs)/\(∀n,n<k->ι n≠p)/\IsL K ι k H ds vs
 | .ref n,v=>n<k/\v=.ref (ι n)
def IsL(K:PySem.W.Frag)(ι:Nat->Addr)(k:Nat)(H:Hp):List D->List V->Prop
 |[],vs=>vs=[]
 |d::ds,vs=>∃v vs',vs=v::vs'/\Is K ι k H d v/\IsL K ι k H ds vs'
end
section
variable{K:PySem.W.Frag}{ι ι' ι2:Nat->Addr}{k k' k2:Nat}{H H' H2:Hp}
theorem IsL.length:∀{ds:List D} {vs:List V},IsL K ι k H ds vs->vs.length=ds.length
 |[],_,h=>by unfold IsL at h;subst h;rfl
 |_::_,_,h=>by
  unfold IsL at h;obtain⟨v,vs',rfl,_,h⟩:=h;simp only[AAI,IsL.length h]
theorem IsL.get:∀{ds:List D} {vs:List V} {i:Nat} {d:D},IsL K ι k H ds vs->ds[i]?=some d->∃v,vs[i]?=some v/\Is K ι k H d v
 |[],_,_,_,_,e=>by simp at e
 |_::_,_,0,_,h,e=>by
  unfold IsL at h;obtain⟨v,vs',rfl,h1,_⟩:=h;simp at e;subst e;exact⟨v,rfl,h1⟩
 |_::_,_,i+1,d,h,e=>by
  unfold IsL at h;obtain⟨v,vs',rfl,_,h⟩:=h;obtain⟨u,e1,e2⟩:=IsL.get (i:=i) (d:=d) h (by simpa using e);exact⟨u,by simpa using e1,e2⟩
theorem IsL.append:∀{ds es:List D} {vs us:List V},IsL K ι k H ds vs->IsL K ι k H es us->IsL K ι k H (ds++es) (vs++us)
 |[],_,_,_,h,q=>by unfold IsL at h;subst h;exact q
 |_::_,_,_,_,h,q=>by
  unfold IsL at h;obtain⟨v,vs',rfl,h1,h⟩:=h;show IsL K ι k H (_::(_++_)) _;unfold IsL;exact⟨v,_,rfl,h1,IsL.append h q⟩
theorem IsL.take:∀(n:Nat) {ds:List D} {vs:List V},IsL K ι k H ds vs->IsL K ι k H (ds.take n) (vs.take n)
 |0,ds,vs,_=>by rw[List.take_zero,List.take_zero];unfold IsL;rfl
 |n+1,[],_,h=>by unfold IsL at h;subst h;simp only[List.take_nil];unfold IsL;rfl
 |n+1,_::_,_,h=>by
  unfold IsL at h;obtain⟨v,vs',rfl,h1,h⟩:=h;simp only[List.take_succ_cons];unfold IsL;exact⟨v,_,rfl,h1,IsL.take n h⟩
theorem IsL.drop:∀(n:Nat) {ds:List D} {vs:List V},IsL K ι k H ds vs->IsL K ι k H (ds.drop n) (vs.drop n)
 |0,_,_,h=>h
 |n+1,[],_,h=>by unfold IsL at h;subst h;simp only[List.drop_nil];unfold IsL;rfl
 |n+1,_::_,_,h=>by
  unfold IsL at h;obtain⟨v,vs',rfl,h1,h⟩:=h;simp only[List.drop_succ_cons];exact IsL.drop n h
theorem IsL.cons(h:Is K ι k H d v)(t:IsL K ι k H ds vs):IsL K ι k H (d::ds) (v::vs):=by
 unfold IsL;exact⟨v,vs,rfl,h,t⟩
theorem IsL.nil:IsL K ι k H [] []:=by unfold IsL;rfl
theorem IsL.one(h:Is K ι k H d v):IsL K ι k H [d] [v]:=.cons h .nil
theorem IsL.reverse:∀{ds:List D} {vs:List V},IsL K ι k H ds vs->IsL K ι k H ds.reverse vs.reverse
 |[],_,h=>by unfold IsL at h;subst h;exact .nil
 |_::_,_,h=>by
  unfold IsL at h;obtain⟨v,vs',rfl,h1,h⟩:=h;rw[List.reverse_cons,List.reverse_cons];exact(IsL.reverse h).append (.one h1)
theorem IsL.set(h1:Is K ι k H d v):∀{ds:List D} {vs:List V} (i:Nat),IsL K ι k H ds vs->IsL K ι k H (ds.set i d) (vs.set i v)
 |[],_,_,h=>by unfold IsL at h;subst h;exact .nil
 |_::_,_,0,h=>by
  unfold IsL at h;obtain⟨v,vs',rfl,_,h⟩:=h;exact .cons h1 h
 |_::_,_,i+1,h=>by
  unfold IsL at h;obtain⟨v,vs',rfl,h0,h⟩:=h;exact .cons h0 (IsL.set h1 i h)
theorem IsL.ofInts:∀(ns:List Int),IsL K ι k H (ns.map D.int) (ns.map V.int)
 |[]=>.nil
 |n::r=>.cons (by unfold Is;rfl) (IsL.ofInts r)
def U9:HO->Bool
 | .lst _=>true
 | .dK _=>true
 | .ext _=>true
 | .ins _ _ _=>true
 |_=>false
def Muts(ι:Nat->Addr)(k:Nat)(H:Hp):Prop:=∀n,n<k->∃o,H (ι n)=some o/\U9 o=true
structure Ext(ι:Nat->Addr)(k:Nat)(H:Hp)(ι':Nat->Addr)(k':Nat)(H':Hp):Prop where
 le:k<=k'
 agree:∀n,n<k->ι' n=ι n
 fresh:∀n,k<=n->n<k'->H (ι' n)=none
 keep:∀p o,H p=some o->(∀n,n<k->ι n≠p)->H' p=some o
 was:Muts ι k H
 there:Muts ι k H'
theorem Ext.refl(h:Muts ι k H):Ext ι k H ι k H:=⟨AAF _,λ_ _=>rfl,λn h1 h2=>absurd h1 (by omega),λ_ _ e _=>e,h,h⟩
theorem Ext.trans(a:Ext ι k H ι' k' H')(b:Ext ι' k' H' ι2 k2 H2):Ext ι k H ι2 k2 H2 where
 le:=AAv a.le b.le
 agree:=λn h=>(b.agree n (AAN h a.le)).trans (a.agree n h)
 fresh:=λn h1 h2=>by
  rcases Nat.lt_or_ge n k' with z|z
  ·rw[b.agree n z];exact a.fresh n h1 z
  ·have q:=b.fresh n z h2;cases e:H (ι2 n) with
   |none=>rfl
   |some o=>
    by_cases hx:∃m,m<k/\ι m=ι2 n
    ·obtain⟨m,hm,e2⟩:=hx;obtain⟨o',q',_⟩:=a.there m hm;rw[e2,q] at q';cases q'
    ·have:=a.keep _ o e (λm hm e2=>hx ⟨m,hm,e2⟩);rw[q] at this;cases this
 keep:=λp o e hn=>b.keep p o (a.keep p o e hn) (λn hlt e2=>by
  rcases Nat.lt_or_ge n k with z|z
  ·rw[a.agree n z] at e2;exact hn n z e2
  ·have:=a.fresh n z hlt;rw[e2,e] at this;cases this)
 was:=a.was
 there:=λn h=>by
  have:=b.there n (AAN h a.le);rw[a.agree n h] at this;exact this
theorem Ext.out(a:Ext ι k H ι' k' H')(e:H p=some o)(hn:∀n,n<k->ι n≠p):∀n,n<k'->ι' n≠p:=λn h e2=>by
 rcases Nat.lt_or_ge n k with z|z
 ·rw[a.agree n z] at e2;exact hn n z e2
 ·have:=a.fresh n z h;rw[e2,e] at this;cases this
theorem Muts.ne(a:Muts ι k H)(e:H p=some o)(hm:U9 o=false):∀n,n<k->ι n≠p:=λn hn e2=>by
 obtain⟨o',q,h⟩:=a n hn;rw[e2,e] at q;cases q;rw[hm] at h;cases h
theorem GJ(a:Ext ι k H ι' k' H')(h:SqT K H p vs):SqT K H' p vs:=by
 rcases h with h|h
 ·rcases h with h|⟨o,h⟩
  ·exact .inl (.inl (a.keep p _ h (a.was.ne h rfl)))
  ·exact .inl (.inr ⟨o,a.keep p _ h (a.was.ne h rfl)⟩)
 ·exact .inr h
theorem P4(a:Ext ι k H ι' k' H')(h:ScrAt K H p vs):ScrAt K H' p vs:=by
 rcases h with ⟨o,h⟩|h
 ·exact .inl ⟨o,a.keep p _ h (a.was.ne h rfl)⟩
 ·exact .inr h
mutual
theorem Is.ext(a:Ext ι k H ι' k' H'):∀{d:D} {v:V},Is K ι k H d v->Is K ι' k' H' d v
 | .non,_,h=>by unfold Is at h ⊢;exact h
 | .bl _,_,h=>by unfold Is at h ⊢;exact h
 | .int _,_,h=>by unfold Is at h ⊢;exact h
 | .str _,_,h=>by unfold Is at h ⊢;exact h
 | .ty _,_,h=>by unfold Is at h ⊢;exact h
 | .scr ns,_,h=>by
  unfold Is at h ⊢;obtain⟨p,rfl,h⟩:=h;exact⟨p,rfl,P4 a h⟩
 | .tup ds,_,h=>by
  unfold Is at h ⊢;obtain⟨p,vs,rfl,h1,h2⟩:=h;exact⟨p,vs,rfl,GJ a h1,IsL.ext a h2⟩
 | .lst ds,_,h=>by
  unfold Is at h ⊢;obtain⟨p,vs,rfl,h1,hn,h2⟩:=h;exact⟨p,vs,rfl,a.keep p _ h1 hn,a.out h1 hn,IsL.ext a h2⟩
 | .ref n,_,h=>by
  unfold Is at h ⊢;obtain⟨h,rfl⟩:=h;exact⟨AAN h a.le,by rw[a.agree n h]⟩
theorem IsL.ext(a:Ext ι k H ι' k' H'):∀{ds:List D} {vs:List V},IsL K ι k H ds vs->IsL K ι' k' H' ds vs
 |[],_,h=>by unfold IsL at h ⊢;exact h
 |_::_,_,h=>by
  unfold IsL at h ⊢;obtain⟨v,vs',rfl,h1,h2⟩:=h;exact⟨v,vs',rfl,Is.ext a h1,IsL.ext a h2⟩
end
noncomputable def KVs(K:PySem.W.Frag)(ι:Nat->Addr)(k:Nat)(H:Hp):List (Key×D)->List (Key×V)->Prop
 |[],r=>r=[]
 |(y,d)::l,r=>∃v r',r=(y,v)::r'/\Is K ι k H d v/\KVs K ι k H l r'
theorem KVs.ext(a:Ext ι k H ι' k' H'):∀{l:List (Key×D)} {r:List (Key×V)},KVs K ι k H l r->KVs K ι' k' H' l r
 |[],_,h=>h
 |(_,_)::_,_,h=>by
  obtain⟨v,r',rfl,h1,h2⟩:=h;exact⟨v,r',rfl,h1.ext a,h2.ext a⟩
noncomputable def csD(c:Cs):D:=.tup [.int c.1,.int c.2.1,.tup (c.2.2.map D.int)]
noncomputable def CVs(K:PySem.W.Frag)(ι:Nat->Addr)(k:Nat)(H:Hp):List (Cs×D)->List (Cs×Addr×V)->Prop
 |[],r=>r=[]
 |(y,d)::l,r=>∃a v r',r=(y,a,v)::r'/\Is K ι k H (csD y) (.ref a)/\Is K ι k H d v/\CVs K ι k H l r'
theorem CVs.ext(a:Ext ι k H ι' k' H'):∀{l:List (Cs×D)} {r:List (Cs×Addr×V)},CVs K ι k H l r->CVs K ι' k' H' l r
 |[],_,h=>h
 |(_,_)::_,_,h=>by
  obtain⟨b,v,r',rfl,h1,h2,h3⟩:=h;exact⟨b,v,r',rfl,h1.ext a,h2.ext a,h3.ext a⟩
noncomputable def FVs(K:PySem.W.Frag)(ι:Nat->Addr)(k:Nat)(H:Hp):List (Str×D)->List (Str×V)->Prop
 |[],r=>r=[]
 |(y,d)::l,r=>∃v r',r=(y,v)::r'/\Is K ι k H d v/\FVs K ι k H l r'
theorem FVs.ext(a:Ext ι k H ι' k' H'):∀{l:List (Str×D)} {r:List (Str×V)},FVs K ι k H l r->FVs K ι' k' H' l r
 |[],_,h=>h
 |(_,_)::_,_,h=>by
  obtain⟨v,r',rfl,h1,h2⟩:=h;exact⟨v,r',rfl,h1.ext a,h2.ext a⟩
mutual
def hD(w:World):D->Int
 | .int i=>hashInt i
 | .str x=>hashStr w x
 | .tup ks=>reduceHash (Builtin.Tuple.tupleHashOf (hDs w ks))
 |_=>0xFCA86420
def hDs(w:World):List D->List Int
 |[]=>[]
 |k::ks=>hD w k::hDs w ks
end
noncomputable def Et(w:World)(p:Addr)(l:List (D×Addr×V)):HO:=.ext λh=>∃(us:List Value) (o:Obj) (es:Array DictEntry) (ep:Nat),Vals (l.map (·.2.2)) us/\h.get? p=some o/\o.ExactDict/\o.data=.dict es ep /\
 es.toList=(l.zip us).map (λx=>{ key:=.ref x.1.2.1,hash:=hD w x.1.1,val:=x.2 })/\(l.map (·.1)).Nodup/\l.length<=sizeLine/\(p==sysModules)=false
mutual
def Kz:D->Bool
 | .non=>true
 | .int _=>true
 | .str _=>true
 | .tup ds=>KzL ds
 |_=>false
def KzL:List D->Bool
 |[]=>true
 |d::ds=>Kz d&&KzL ds
end
mutual
def Cm:D->Nat
 | .tup ks=>Bg ks+1
 |_=>0
def Bg:List D->Nat
 |[]=>0
 |k::ks=>max (Cm k) (Bg ks)
end
noncomputable def PVs(K:PySem.W.Frag)(ι:Nat->Addr)(k:Nat)(H:Hp):List (D×D)->List (D×Addr×V)->Prop
 |[],r=>r=[]
 |(y,d)::l,r=>∃a v r',r=(y,a,v)::r'/\(Kz y=true/\Cm y<=8/\Is K ι k H y (.ref a))/\Is K ι k H d v/\PVs K ι k H l r'
theorem PVs.ext(a:Ext ι k H ι' k' H'):∀{l:List (D×D)} {r:List (D×Addr×V)},PVs K ι k H l r->PVs K ι' k' H' l r
 |[],_,h=>h
 |(_,_)::_,_,h=>by
  obtain⟨b,v,r',rfl,h1,h2,h3⟩:=h;exact⟨b,v,r',rfl,⟨h1.1,h1.2.1,h1.2.2.ext a⟩,h2.ext a,h3.ext a⟩
def ClsAt(K:PySem.W.Frag)(c:Str)(C:Addr):Prop:=PySem.W.nsIn K mainGlobals c=some (some (.ref C))
noncomputable def ObjIs(K:PySem.W.Frag)(ι:Nat->Addr)(k:Nat)(H:Hp)(p:Addr):MO->HO->Prop
 | .lst ds,o=>∃vs,o=.lst vs/\IsL K ι k H ds vs
 | .dK l,o=>∃r,o=.dK r/\KVs K ι k H l r
 | .dC l,o=>∃r,o=cN p r/\CVs K ι k H l r
 | .ins c l,o=>∃C dx r,o=.ins C dx r/\ClsAt K c C/\H dx=some (.own p)/\FVs K ι k H l r
 | .dP w l,o=>∃r,o=Et w p r/\PVs K ι k H l r
structure RelH(K:PySem.W.Frag)(ι:Nat->Addr)(μ:Mh)(H:Hp):Prop where
 inj:∀i j,i<μ.length->j<μ.length->ι i=ι j->i=j
 obj:∀n o,μ[n]?=some o->∃u,H (ι n)=some u/\ObjIs K ι μ.length H (ι n) o u
theorem ObjIs.mut(h:ObjIs K ι k H p o u):U9 u=true:=by
 cases o with
 |lst ds=>obtain⟨vs,rfl,_⟩:=h;rfl
 |dK l=>obtain⟨r,rfl,_⟩:=h;rfl
 |dC l=>obtain⟨r,rfl,_⟩:=h;rfl
 |ins c l=>obtain⟨C,dx,r,rfl,_⟩:=h;rfl
 |dP w l=>obtain⟨r,rfl,_⟩:=h;rfl
theorem ObjIs.ext(a:Ext ι k H ι' k' H')(h:ObjIs K ι k H p o u):ObjIs K ι' k' H' p o u:=by
 cases o with
 |lst ds=>obtain⟨vs,rfl,h⟩:=h;exact⟨vs,rfl,h.ext a⟩
 |dK l=>obtain⟨r,rfl,h⟩:=h;exact⟨r,rfl,h.ext a⟩
 |dC l=>obtain⟨r,rfl,h⟩:=h;exact⟨r,rfl,h.ext a⟩
 |ins c l=>obtain⟨C,dx,r,rfl,h0,h1,h⟩:=h;exact⟨C,dx,r,rfl,h0,a.keep dx _ h1 (a.was.ne h1 rfl),h.ext a⟩
 |dP w l=>obtain⟨r,rfl,h⟩:=h;exact⟨r,rfl,h.ext a⟩
theorem RelH.muts(r:RelH K ι μ H):Muts ι μ.length H:=λn hn=>by
 obtain⟨u,e,h⟩:=r.obj n μ[n] (by simp[hn]);exact⟨u,e,h.mut⟩
theorem RelH.ext0(r:RelH K ι μ H):Ext ι μ.length H ι μ.length H:=Ext.refl r.muts
theorem RelH.laid(r:RelH K ι μ H)(o:HO)(hp:H p=none):Ext ι μ.length H ι μ.length (upd H p o)/\RelH K ι μ (upd H p o):=by
 have kp:∀q u,H q=some u->upd H p o q=some u:=λq u e=>by rw[A9 (CM e hp)];exact e
 have a:Ext ι μ.length H ι μ.length (upd H p o):=⟨AAF _,λ_ _=>rfl,λn h1 h2=>absurd h1 (by omega),λq u e _=>kp q u e,r.muts,λn hn=>by
  obtain⟨u,e,h⟩:=r.muts n hn;exact⟨u,kp _ _ e,h⟩⟩
 refine⟨a,r.inj,λn o' e=>?_⟩;obtain⟨u,e1,h⟩:=r.obj n o' e;exact⟨u,kp _ _ e1,h.ext a⟩
theorem RelH.grown(r:RelH K ι μ H)(hp:H p=none)(h:ObjIs K ι μ.length H p m o):
  ∃ι',Ext ι μ.length H ι' (μ++[m]).length (upd H p o)/\RelH K ι' (μ++[m]) (upd H p o)/\ι' μ.length=p:=by
 have kp:∀q u,H q=some u->upd H p o q=some u:=λq u e=>by rw[A9 (CM e hp)];exact e
 let ι':Nat->Addr:=λn=>if n=μ.length then p else ι n
 have e0:ι' μ.length=p:=if_pos rfl;have e1:∀n,n<μ.length->ι' n=ι n:=λn hn=>if_neg (by omega);have a:Ext ι μ.length H ι' (μ++[m]).length (upd H p o):=⟨by simp,e1,λn h1 h2=>by
   have:n=μ.length:=by simp at h2;omega
   rw[this,e0];exact hp,λq u e _=>kp q u e,r.muts,λn hn=>by
  obtain⟨u,e,h⟩:=r.muts n hn;exact⟨u,kp _ _ e,h⟩⟩
 refine⟨ι',a,⟨λi j hi hj e=>?_,λn o' e=>?_⟩,e0⟩
 ·simp at hi hj;have old:∀i,i<μ.length->ι' i≠p:=λi hi e=>by
   obtain⟨u,q,_⟩:=r.muts i hi;rw[←e1 i hi,e,hp] at q;cases q
  rcases Nat.lt_or_ge i μ.length with zi|zi<;>rcases Nat.lt_or_ge j μ.length with zj|zj
  ·rw[e1 i zi,e1 j zj] at e;exact r.inj i j zi zj e
  ·have:j=μ.length:=by omega
   subst this;rw[e0] at e;exact absurd e (old i zi)
  ·have:i=μ.length:=by omega
   subst this;rw[e0] at e;exact absurd e.symm (old j zj)
  ·omega
 ·rcases Nat.lt_or_ge n μ.length with z|z
  ·rw[AAT z] at e;obtain⟨u,q,hq⟩:=r.obj n o' e;exact⟨u,by rw[e1 n z];exact kp _ _ q,by rw[e1 n z];exact hq.ext a⟩
  ·have hn:n=μ.length:=by
    have:=(AAU.mp e).1;simp at this;omega
   subst hn;rw[AAS (AAF _),AA3] at e;simp at e;subst e;exact⟨o,by rw[e0,BK],by rw[e0];exact h.ext a⟩
theorem RelH.changed(r:RelH K ι μ H)(hn:n<μ.length)(h:ObjIs K ι μ.length H (ι n) m o):
  Ext ι μ.length H ι (μ.set n m).length (upd H (ι n) o)/\RelH K ι (μ.set n m) (upd H (ι n) o):=by
 have ne:∀i,i<μ.length->i≠n->ι i≠ι n:=λi hi hne e=>hne (r.inj i n hi hn e);have a:Ext ι μ.length H ι (μ.set n m).length (upd H (ι n) o):=⟨by simp,λ_ _=>rfl,λi h1 h2=>by simp at h2;omega,λq u e hq=>by rw[A9 (λz=>hq n hn z.symm)];exact e,r.muts,λi hi=>by
  by_cases z:i=n
  ·subst z;exact⟨o,BK,h.mut⟩
  ·obtain⟨u,e,hu⟩:=r.muts i hi;exact⟨u,by rw[A9 (ne i hi z)];exact e,hu⟩⟩
 refine⟨a,λi j hi hj=>r.inj i j (by simpa using hi) (by simpa using hj),λi o' e=>?_⟩;by_cases z:i=n
 ·subst z;rw[List.getElem?_set_self hn] at e;cases e;exact⟨o,BK,h.ext a⟩
 ·rw[AAq (Ne.symm z)] at e;have hi:i<μ.length:=(AAU.mp e).1;obtain⟨u,q,hq⟩:=r.obj i o' e;exact⟨u,by rw[A9 (ne i hi z)];exact q,hq.ext a⟩
structure RelS(K:PySem.W.Frag)(ι:Nat->Addr)(k:Nat)(H:Hp)(τ:Sl)(σ:St):Prop where
 len:σ.length=τ.length
 get:∀(i:Nat) (d:D),τ[i]?=some (some d)->∃v,σ[i]?=some (some v)/\Is K ι k H d v
theorem RelS.ext(a:Ext ι k H ι' k' H')(r:RelS K ι k H τ σ):RelS K ι' k' H' τ σ:=⟨r.len,λi d e=>by
 obtain⟨v,e1,h⟩:=r.get i d e;exact⟨v,e1,h.ext a⟩⟩
theorem RelS.set(r:RelS K ι k H τ σ)(i:Nat)(h:Is K ι k H d v):RelS K ι k H (τ.set i (some d)) (σ.set i (some v)):=⟨by simp[r.len],λj e q=>by
 by_cases z:i=j
 ·subst z;have hi:i<τ.length:=by
   have:=(AAU.mp q).1;simpa using this
  rw[List.getElem?_set_self hi] at q;cases q;exact⟨v,List.getElem?_set_self (by rw[r.len];exact hi),h⟩
 ·rw[AAq z] at q;obtain⟨u,e1,hu⟩:=r.get j e q;exact⟨u,by rw[AAq z];exact e1,hu⟩⟩
end
end Mi
namespace Mi
open PySem L2
inductive Fl where
 |next|brk|cont|rt (d:D)
abbrev Aft(K:PySem.W.Frag)(ι:Nat->Addr)(μ:Mh)(H:Hp)(μ':Mh)(φ:(Nat->Addr)->Hp->Prop):Prop:=
 ∀ι' H',Ext ι μ.length H ι' μ'.length H'->RelH K ι' μ' H'->φ ι' H'
noncomputable def tE(K:PySem.W.Frag)(m:Sl->M D):TE:=λσ H Q=>∃ι μ τ d μ',RelH K ι μ H/\RelS K ι μ.length H τ σ/\m τ μ=some (d,μ') /\
 Aft K ι μ H μ' λι' H'=>∀v,Is K ι' μ'.length H' d v->Q v H'
noncomputable def tT(K:PySem.W.Frag)(m:Sl->M Bool):TT:=λσ H Q=>∃ι μ τ b μ',RelH K ι μ H/\RelS K ι μ.length H τ σ/\m τ μ=some (b,μ') /\
 Aft K ι μ H μ' λ_ H'=>Q b H'
noncomputable def tL(K:PySem.W.Frag)(m:Sl->M (List D)):TA:=λσ H Q=>∃ι μ τ ds μ',RelH K ι μ H/\RelS K ι μ.length H τ σ/\m τ μ=some (ds,μ') /\
 Aft K ι μ H μ' λι' H'=>∀vs,IsL K ι' μ'.length H' ds vs->Q vs H'
noncomputable def FlP(K:PySem.W.Frag)(Dn:Vo)(ι':Nat->Addr)(k:Nat)(H':Hp)(τ':Sl)(σ':St):Fl->Prop
 | .next=>Dn.nx σ' H'
 | .brk=>Dn.bk σ' H'
 | .cont=>Dn.ct σ' H'
 | .rt d=>∀v,Is K ι' k H' d v->Dn.rt v H'
noncomputable def tSt(K:PySem.W.Frag)(m:Sl->M (Fl×Sl)):TS:=λDn σ H=>∃ι μ τ f τ' μ',RelH K ι μ H/\RelS K ι μ.length H τ σ/\m τ μ=some ((f,τ'),μ') /\
 Aft K ι μ H μ' λι' H'=>∀σ',RelS K ι' μ'.length H' τ' σ'->FlP K Dn ι' μ'.length H' τ' σ' f
structure RE(X:Cx)(e:Expr)(m:Sl->M D):Prop where
 pe:PE X e (tE X.K m)
structure RT(X:Cx)(e:Expr)(m:Sl->M Bool):Prop where
 pe:PT X e (tT X.K m)
structure RW(X:Cx)(e:Expr)(m:Sl->M Bool):Prop where
 pe:PW X e (tT X.K m)
structure RA(X:Cx)(es:List Expr)(m:Sl->M (List D)):Prop where
 pe:PA X es (tL X.K m)
structure RS(X:Cx)(st:Stmt)(m:Sl->M (Fl×Sl)):Prop where
 pe:PS X st (tSt X.K m)
structure RSs(X:Cx)(st:List Stmt)(m:Sl->M (Fl×Sl)):Prop where
 pe:PSs X st (tSt X.K m)
section
variable{X:Cx}{e a b c:Expr}{es:List Expr}{pos:Pos}
theorem PE.wk{t t':TE}(h:PE X e t)(w:∀σ H Q,t' σ H Q->t σ H Q):PE X e t':=λpins s σ H Q I q=>h pins s σ H Q I (w σ H Q q)
theorem RE.wk{m:Sl->M D}{t:TE}(h:PE X e t)(w:∀σ H Q,tE X.K m σ H Q->t σ H Q):RE X e m:=⟨PE.wk h w⟩
theorem PT.wk{t t':TT}(h:PT X e t)(w:∀σ H Q,t' σ H Q->t σ H Q):PT X e t':=λpins s σ H Q I q=>h pins s σ H Q I (w σ H Q q)
theorem RT.wk{m:Sl->M Bool}{t:TT}(h:PT X e t)(w:∀σ H Q,tT X.K m σ H Q->t σ H Q):RT X e m:=⟨PT.wk h w⟩
theorem PW.wk{t t':TT}(h:PW X e t)(w:∀σ H Q,t' σ H Q->t σ H Q):PW X e t':=λwh pins s σ H Q I q=>h wh pins s σ H Q I (w σ H Q q)
theorem RW.wk{m:Sl->M Bool}{t:TT}(h:PW X e t)(w:∀σ H Q,tT X.K m σ H Q->t σ H Q):RW X e m:=⟨PW.wk h w⟩
theorem PA.wk{t t':TA}(h:PA X es t)(w:∀σ H Q,t' σ H Q->t σ H Q):PA X es t':=λp pins s σ H Q I q=>h p pins s σ H Q I (w σ H Q q)
theorem RA.wk{m:Sl->M (List D)}{t:TA}(h:PA X es t)(w:∀σ H Q,tL X.K m σ H Q->t σ H Q):RA X es m:=⟨PA.wk h w⟩
theorem PS.wk{st:Stmt}{t t':TS}(h:PS X st t)(w:∀D σ H,t' D σ H->t D σ H):PS X st t':=λpins s σ H D I q=>h pins s σ H D I (w D σ H q)
theorem RS.wk{m:Sl->M (Fl×Sl)}{st:Stmt}{t:TS}(h:PS X st t)(w:∀D σ H,tSt X.K m D σ H->t D σ H):RS X st m:=⟨PS.wk h w⟩
theorem PSs.wk{st:List Stmt}{t t':TS}(h:PSs X st t)(w:∀D σ H,t' D σ H->t D σ H):PSs X st t':=λpins s σ H D I q=>h pins s σ H D I (w D σ H q)
theorem RSs.wk{m:Sl->M (Fl×Sl)}{st:List Stmt}{t:TS}(h:PSs X st t)(w:∀D σ H,tSt X.K m D σ H->t D σ H):RSs X st m:=⟨PSs.wk h w⟩
theorem OpR.wk{f:Value->Value->Sem Value}{r r':R2}(h:OpR X f r)(w:∀x y H Q,r' x y H Q->r x y H Q):OpR X f r':=λpins s σ H x y v u Q I rx ry q=>h pins s σ H x y v u Q I rx ry (w x y H Q q)
noncomputable def EU:Expr->Bool
 | .Starred _ _=>true
 |_=>false
theorem Ak{e:Expr}{es:List Expr}{env:Env}(h:EU e=false):starEach (e::es) env=(false,eval e env)::starEach es env:=by
 cases e<;>first|rfl|cases h
theorem BS{pos:Pos}{env:Env}:∀{es:List Expr},(es.all λe=>!EU e)=true->(backTo pos (starEach es env)).any (·.1)=false
 |[],_=>rfl
 |e::es,h=>by
  rw[List.all_cons,Bool.and_eq_true] at h;have h1:EU e=false:=by simpa using h.1
  have ih:=BS (pos:=pos) (env:=env) h.2;rw[Ak h1];unfold backTo at ih ⊢;simpa using ih
noncomputable def AC(i:Nat):Sl->M D:=λτ μ=>match τ[i]? with
 |some (some d)=>some (d,μ)
 |_=>none
def mC(d:D):Sl->M D:=λ_=>ret d
theorem AA(i:Nat){x:Str}(hN:X.N[i]?=some x:=by rfl)(hv:Vis X.env.scope x:=by first|exact Or.inl rfl|exact Or.inr (Or.inl rfl)|exact Or.inr (Or.inr rfl))(hd:(x==("__debug__" : Str))=false:=by decide)
  (hcd:(x==("__classdict__" : Str))=false:=by decide):RE X (.Name x pos) (AC i):=RE.wk (Zs hN hv hd hcd) λσ H Q h=>by
 obtain⟨ι,μ,τ,d,μ',R,S,e,q⟩:=h;unfold AC at e;split at e
 ·rename_i d' ed;cases e;obtain⟨v,e1,h1⟩:=S.get i _ ed;exact⟨v,e1,q ι H R.ext0 R v h1⟩
 ·cases e
theorem RZ{t:TE}{d:D}{v:V}(h:PE X e (tC v))(hd:∀ι k H,Is X.K ι k H d v):RE X e (mC d):=RE.wk h λσ H Q h=>by
 obtain⟨ι,μ,τ,d,μ',R,S,e,q⟩:=h;cases e;exact q ι H R.ext0 R v (hd _ _ _)
theorem AE{i j}:RE X (.Constant (.int i) j pos) (mC (.int i)):=RZ (t:=λ_ _ _=>True) Zy λ_ _ _=>by unfold Is;rfl
theorem Kj{i j}:RE X (.Constant (.bool i) j pos) (mC (.bl i)):=RZ (t:=λ_ _ _=>True) bd λ_ _ _=>by unfold Is;rfl
theorem Ax{j}:RE X (.Constant .none j pos) (mC .non):=RZ (t:=λ_ _ _=>True) Zx λ_ _ _=>by unfold Is;rfl
theorem Ac{i j}:RE X (.Constant (.str i) j pos) (mC (.str i)):=RZ (t:=λ_ _ _=>True) UZ λ_ _ _=>by unfold Is;rfl
theorem W6{x:Str}{v:V}{u:Value}{d:D}(hm:X.mg x=some u)(r:RelV v u)(hd:∀ι k H,Is X.K ι k H d v)(hg:Gl X x:=by rfl)(hdb:(x==("__debug__" : Str))=false:=by decide):RE X (.Name x pos) (mC d):=
 RZ (t:=λ_ _ _=>True) (QJ hg hm r hdb) hd
noncomputable def mOp(g:D->D->M D)(ma mb:Sl->M D):Sl->M D:=λτ=>bnd (ma τ) λx=>bnd (mb τ) λy=>g x y
noncomputable def mUn(g:D->M D)(ma:Sl->M D):Sl->M D:=λτ=>bnd (ma τ) g
noncomputable def rM(K:PySem.W.Frag)(g:D->D->M D):R2:=λx y H Q=>∃ι μ a b d μ',RelH K ι μ H/\Is K ι μ.length H a x/\Is K ι μ.length H b y/\g a b μ=some (d,μ') /\
 Aft K ι μ H μ' λι' H'=>∀v,Is K ι' μ'.length H' d v->Q v H'
noncomputable def rM1(K:PySem.W.Frag)(g:D->M D):V->Hp->VK->Prop:=λx H Q=>∃ι μ a d μ',RelH K ι μ H/\Is K ι μ.length H a x/\g a μ=some (d,μ') /\
 Aft K ι μ H μ' λι' H'=>∀v,Is K ι' μ'.length H' d v->Q v H'
noncomputable def rMA(K:PySem.W.Frag)(g:List D->M D):List V->Hp->VK->Prop:=λxs H Q=>∃ι μ as d μ',RelH K ι μ H/\IsL K ι μ.length H as xs/\g as μ=some (d,μ') /\
 Aft K ι μ H μ' λι' H'=>∀v,Is K ι' μ'.length H' d v->Q v H'
theorem Pr{K:PySem.W.Frag}{g:D->D->M D}{ma mb:Sl->M D}{σ:St}{H:Hp}{Q:VK}(h:tE K (mOp g ma mb) σ H Q):tOp (rM K g) (tE K ma) (tE K mb) σ H Q:=by
 obtain⟨ι,μ,τ,d,μ',R,S,e,q⟩:=h;obtain⟨x,μ1,e1,e⟩:=AI e;obtain⟨y,μ2,e2,e3⟩:=AI e;refine⟨ι,μ,τ,x,μ1,R,S,e1,λι1 H1 E1 R1 v1 i1=>?_⟩;refine⟨ι1,μ1,τ,y,μ2,R1,S.ext E1,e2,λι2 H2 E2 R2 v2 i2=>?_⟩;exact⟨ι2,μ2,x,y,d,μ',R2,i1.ext E2,i2,e3,λι3 H3 E3 R3 v3 i3=>q ι3 H3 ((E1.trans E2).trans E3) R3 v3 i3⟩
theorem bF{K:PySem.W.Frag}{g:D->M D}{ma:Sl->M D}{σ:St}{H:Hp}{Q:VK}(h:tE K (mUn g ma) σ H Q):tUn (rM1 K g) (tE K ma) σ H Q:=by
 obtain⟨ι,μ,τ,d,μ',R,S,e,q⟩:=h;obtain⟨x,μ1,e1,e⟩:=AI e;refine⟨ι,μ,τ,x,μ1,R,S,e1,λι1 H1 E1 R1 v1 i1=>?_⟩;exact⟨ι1,μ1,x,d,μ',R1,i1,e,λι3 H3 E3 R3 v3 i3=>q ι3 H3 (E1.trans E3) R3 v3 i3⟩
theorem A2{op:Operator}{g:D->D->M D}{ma mb:Sl->M D}(ho:OpR X (binaryOp op) (rM X.K g))(ha:RE X a ma)(hb:RE X b mb):RE X (.BinOp a op b pos) (mOp g ma mb):=RE.wk (bb ho ha.pe hb.pe) λ_ _ _ h=>Pr h
theorem M8{op:UnaryOp}{g:D->M D}{ma:Sl->M D}(ho:UnR X (unaryOp op) (rM1 X.K g))(ha:RE X a ma):RE X (.UnaryOp op a pos) (mUn g ma):=RE.wk (ba ho ha.pe) λ_ _ _ h=>bF h
theorem Od{op:CmpOp}{g:D->D->M D}{ma mb:Sl->M D}(ho:OpR X (compareOp op) (rM X.K g))(ha:RE X a ma)(hb:RE X b mb)(hm:behindInMarks op b=false:=by first|exact Uq _|rfl):RE X (.Compare a [op] [b] pos) (mOp g ma mb):=
 RE.wk (Xa ho ha.pe hb.pe hm) λ_ _ _ h=>Pr h
theorem AK{g:D->D->M D}{ma mb:Sl->M D}(ho:IxR X (rM X.K g))(ha:RE X a ma)(hb:RE X b mb)(hs:Q0 b:=by exact λ_ _=>rfl):RE X (.Subscript a b pos) (mOp g ma mb):=RE.wk (bc ho ha.pe hb.pe hs) λ_ _ _ h=>Pr h
def asB:D->M Bool
 | .bl b=>ret b
 |_=>BG
noncomputable def AS(m:Sl->M D):Sl->M Bool:=λτ=>bnd (m τ) asB
theorem Po{K:PySem.W.Frag}{m:Sl->M D}{σ:St}{H:Hp}{Q:Bool->Hp->Prop}(h:tT K (AS m) σ H Q):tE K m σ H λx H'=>∃k,x=.bl k/\Q k H':=by
 obtain⟨ι,μ,τ,b,μ',R,S,e,q⟩:=h;obtain⟨x,μ1,e1,e⟩:=AI e;refine⟨ι,μ,τ,x,μ1,R,S,e1,λι1 H1 E1 R1 v1 i1=>?_⟩;cases x with
 |bl k=>
  cases e;unfold Is at i1;exact⟨b,i1,q ι1 H1 E1 R1⟩
 |_=>cases e
theorem AZ{op:CmpOp}{g:D->D->M D}{ma mb:Sl->M D}(ho:OpR X (compareOp op) (rM X.K g))(ha:RE X a ma)(hb:RE X b mb)(hm:behindInMarks op b=false:=by first|exact Uq _|rfl):RT X (.Compare a [op] [b] pos) (AS (mOp g ma mb)):=
 RT.wk (XG ho ha.pe hb.pe hm) λσ H Q h=>Pr (Q:=λx H'=>∃k,x=.bl k/\Q k H') (Po h)
theorem G7{m:Sl->M D}(h:RE X e m)(he:∀whole,isTrue e X.env whole=(do let v ←whole;standAt e.pos;holding [v] (truthy v)):=by intro _;rfl):RT X e (AS m):=
 RT.wk (Zi h.pe he) λ_ _ _ q=>Po q
noncomputable def DA(ma mb:Sl->M Bool):Sl->M Bool:=λτ=>bnd (ma τ) λx=>if x=true then mb τ else ret false
noncomputable def mOr(ma mb:Sl->M Bool):Sl->M Bool:=λτ=>bnd (ma τ) λx=>if x=true then ret true else mb τ
noncomputable def Rq(ma:Sl->M Bool):Sl->M Bool:=λτ=>bnd (ma τ) λx=>ret (!x)
theorem OZ{ma:Sl->M Bool}(ha:RT X a ma):RT X (.UnaryOp .Not a pos) (Rq ma):=RT.wk (Zj ha.pe) λσ H Q h=>by
 obtain⟨ι,μ,τ,b,μ',R,S,e,q⟩:=h;obtain⟨x,μ1,e1,e⟩:=AI e;cases e;exact⟨ι,μ,τ,x,_,R,S,e1,q⟩
theorem CW{ma:Sl->M Bool}(ha:RT X a ma):RW X (.BoolOp .And [a] pos) ma:=⟨XC ha.pe⟩
theorem Lj{ma:Sl->M Bool}(ha:RT X a ma):RW X (.BoolOp .Or [a] pos) ma:=⟨Zg ha.pe⟩
theorem CY{rest:List Expr}{ma mb:Sl->M Bool}(ha:RT X a ma)(hb:RW X (.BoolOp .And (b::rest) pos) mb):RW X (.BoolOp .And (a::b::rest) pos) (DA ma mb):=RW.wk (Zh ha.pe hb.pe) λσ H Q h=>by
 obtain⟨ι,μ,τ,z,μ',R,S,e,q⟩:=h;obtain⟨x,μ1,e1,e⟩:=AI e;refine⟨ι,μ,τ,x,μ1,R,S,e1,λι1 H1 E1 R1=>?_⟩;cases x with
 |true=>exact⟨ι1,μ1,τ,z,μ',R1,S.ext E1,e,λι2 H2 E2 R2=>q ι2 H2 (E1.trans E2) R2⟩
 |false=>cases e;exact q ι1 H1 E1 R1
theorem M3{rest:List Expr}{ma mb:Sl->M Bool}(ha:RT X a ma)(hb:RW X (.BoolOp .Or (b::rest) pos) mb):RW X (.BoolOp .Or (a::b::rest) pos) (mOr ma mb):=RW.wk (bV ha.pe hb.pe) λσ H Q h=>by
 obtain⟨ι,μ,τ,z,μ',R,S,e,q⟩:=h;obtain⟨x,μ1,e1,e⟩:=AI e;refine⟨ι,μ,τ,x,μ1,R,S,e1,λι1 H1 E1 R1=>?_⟩;cases x with
 |true=>cases e;exact q ι1 H1 E1 R1
 |false=>exact⟨ι1,μ1,τ,z,μ',R1,S.ext E1,e,λι2 H2 E2 R2=>q ι2 H2 (E1.trans E2) R2⟩
theorem RW.rt{m:Sl->M Bool}(h:RW X e m):RT X e m:=⟨h.pe.pt⟩
noncomputable def mIf(mc:Sl->M Bool)(ma mb:Sl->M D):Sl->M D:=λτ=>bnd (mc τ) λx=>if x=true then ma τ else mb τ
theorem D6{mc:Sl->M Bool}{ma mb:Sl->M D}(hc:RT X c mc)(ha:RE X a ma)(hb:RE X b mb):RE X (.IfExp c a b pos) (mIf mc ma mb):=RE.wk (Uc hc.pe ha.pe hb.pe) λσ H Q h=>by
 obtain⟨ι,μ,τ,z,μ',R,S,e,q⟩:=h;obtain⟨x,μ1,e1,e⟩:=AI e;refine⟨ι,μ,τ,x,μ1,R,S,e1,λι1 H1 E1 R1=>?_⟩;cases x with
 |true=>exact⟨ι1,μ1,τ,z,μ',R1,S.ext E1,e,λι2 H2 E2 R2=>q ι2 H2 (E1.trans E2) R2⟩
 |false=>exact⟨ι1,μ1,τ,z,μ',R1,S.ext E1,e,λι2 H2 E2 R2=>q ι2 H2 (E1.trans E2) R2⟩
noncomputable def Kx(ma mb:Sl->M D):Sl->M D:=λτ=>bnd (ma τ) λx=>bnd (asB x) λc=>if c=true then mb τ else ret (.bl false)
noncomputable def Qb(ma:Sl->M D):Sl->M D:=λτ=>bnd (ma τ) λx=>bnd (asB x) λc=>ret (.bl (!c))
theorem J5{x:D}{μ μ1:Mh}{c:Bool}(h:asB x μ=some (c,μ1)):x=.bl c/\μ1=μ:=by
 cases x with
 |bl k=>cases h;exact⟨rfl,rfl⟩
 |_=>cases h
theorem UE{op}{m:Sl->M D}(h:RE X a m):RE X (.BoolOp op [a] pos) m:=⟨Zv h.pe⟩
theorem Oe{rest:List Expr}{ma mb:Sl->M D}(ha:RE X a ma)(hb:RE X (.BoolOp .And (b::rest) pos) mb):RE X (.BoolOp .And (a::b::rest) pos) (Kx ma mb):=RE.wk (Z1 ha.pe hb.pe) λσ H Q h=>by
 obtain⟨ι,μ,τ,z,μ',R,S,e,q⟩:=h;obtain⟨x,μ1,e1,e⟩:=AI e;obtain⟨c,μ2,e2,e⟩:=AI e;obtain⟨rfl,rfl⟩:=J5 e2;refine⟨ι,μ,τ,_,μ2,R,S,e1,λι1 H1 E1 R1 v1 i1=>⟨c,by unfold Is at i1;exact i1,?_⟩⟩;cases c with
 |true=>exact⟨ι1,μ2,τ,z,μ',R1,S.ext E1,e,λι2 H2 E2 R2=>q ι2 H2 (E1.trans E2) R2⟩
 |false=>cases e;exact q ι1 H1 E1 R1 _ (by unfold Is;rfl)
theorem Zf{ma:Sl->M D}(ha:RE X a ma):RE X (.UnaryOp .Not a pos) (Qb ma):=RE.wk (Zw ha.pe) λσ H Q h=>by
 obtain⟨ι,μ,τ,z,μ',R,S,e,q⟩:=h;obtain⟨x,μ1,e1,e⟩:=AI e;obtain⟨c,μ2,e2,e⟩:=AI e;obtain⟨rfl,rfl⟩:=J5 e2;cases e;exact⟨ι,μ,τ,_,_,R,S,e1,λι1 H1 E1 R1 v1 i1=>⟨c,by unfold Is at i1;exact i1,q ι1 H1 E1 R1 _ (by unfold Is;rfl)⟩⟩
noncomputable def HF(g g':D->D->M D)(ma mb mc:Sl->M D):Sl->M D:=λτ=>bnd (ma τ) λx=>bnd (mb τ) λy=>bnd (g x y) λz=>bnd (asB z) λk=>if k=true then bnd (mc τ) λw=>g' y w else ret (.bl false)
def AN:Sl->M (List D):=λ_=>ret []
noncomputable def AD(m:Sl->M D)(r:Sl->M (List D)):Sl->M (List D):=λτ=>bnd (m τ) λx=>bnd (r τ) λxs=>ret (x::xs)
theorem AG:RA X [] AN:=RA.wk F3 λσ H Q h=>by
 obtain⟨ι,μ,τ,z,μ',R,S,e,q⟩:=h;cases e;exact q ι H R.ext0 R [] .nil
theorem AB{m:Sl->M D}{r:Sl->M (List D)}(h:RE X e m)(hr:RA X es r)(hs:starEach (e::es) X.env=(false,eval e X.env)::starEach es X.env:=by exact Ak rfl):RA X (e::es) (AD m r):=RA.wk (EQ h.pe hr.pe hs) λσ H Q h=>by
 obtain⟨ι,μ,τ,z,μ',R,S,e,q⟩:=h;obtain⟨x,μ1,e1,e⟩:=AI e;obtain⟨xs,μ2,e2,e⟩:=AI e;cases e;exact⟨ι,μ,τ,x,μ1,R,S,e1,λι1 H1 E1 R1 v1 i1=>⟨ι1,μ1,τ,xs,_,R1,S.ext E1,e2,λι2 H2 E2 R2 vs i2=>q ι2 H2 (E1.trans E2) R2 _ (.cons (i1.ext E2) i2)⟩⟩
noncomputable def lim(n:Nat):M Unit:=λμ=>if n<=sizeLine then some ((),μ) else none
theorem C4{n:Nat}{μ μ1:Mh}{u:Unit}(h:lim n μ=some (u,μ1)):n<=sizeLine/\μ1=μ:=by
 unfold lim at h;split at h
 ·rename_i hn;cases h;exact⟨hn,rfl⟩
 ·cases h
theorem HH{n:Nat}(h:n<=sizeLine)(μ:Mh):lim n μ=some ((),μ):=if_pos h
noncomputable def As(ds:List D):M D:=bnd (lim ds.length) λ_=>ret (.tup ds)
noncomputable def BM(ds:List D):M D:=bnd (lim ds.length) λ_=>ret (.lst ds)
noncomputable def GS(ds:List D):M D:=bnd (lim ds.length) λ_=>λμ=>some (.ref μ.length,μ++[.lst ds])
noncomputable def AJ(f:List D->M D)(m:Sl->M (List D)):Sl->M D:=λτ=>bnd (m τ) f
theorem QR{K:PySem.W.Frag}{ι:Nat->Addr}{μ μ':Mh}{H:Hp}{ds:List D}{vs:List V}{d:D}{Q:VK}(R:RelH K ι μ H)(i:IsL K ι μ.length H ds vs)(e:As ds μ=some (d,μ'))(q:Aft K ι μ H μ' λι' H'=>∀v,Is K ι' μ'.length H' d v->Q v H'):
  vs.length<=sizeLine/\∀p,H p=none->Q (.ref p) (upd H p (.tup vs)):=by
 obtain⟨u,μ1,e1,e2⟩:=AI e;clear e;obtain⟨hl,e3⟩:=C4 e1;cases e2;cases e3;refine⟨by rw[i.length];exact hl,λp hp=>?_⟩;obtain⟨E1,R1⟩:=R.laid (.tup vs) hp;exact q ι _ E1 R1 _ (by unfold Is;exact⟨p,vs,rfl,SqT.of BK,i.ext E1⟩)
theorem Ca{K:PySem.W.Frag}{ι:Nat->Addr}{μ μ':Mh}{H:Hp}{ds:List D}{vs:List V}{d:D}{Q:VK}(R:RelH K ι μ H)(i:IsL K ι μ.length H ds vs)(e:BM ds μ=some (d,μ'))(q:Aft K ι μ H μ' λι' H'=>∀v,Is K ι' μ'.length H' d v->Q v H'):
  vs.length<=sizeLine/\∀p,H p=none->Q (.ref p) (upd H p (.lst vs)):=by
 obtain⟨u,μ1,e1,e2⟩:=AI e;clear e;obtain⟨hl,e3⟩:=C4 e1;cases e2;cases e3;refine⟨by rw[i.length];exact hl,λp hp=>?_⟩;obtain⟨E1,R1⟩:=R.laid (.lst vs) hp;have ho:∀n,n<μ.length->ι n≠p:=λn hn z=>by
  obtain⟨o,e,_⟩:=R.muts n hn;rw[z,hp] at e;cases e
 exact q ι _ E1 R1 _ (by unfold Is;exact⟨p,vs,rfl,BK,ho,i.ext E1⟩)
theorem QV{K:PySem.W.Frag}{ι:Nat->Addr}{μ μ':Mh}{H:Hp}{ds:List D}{vs:List V}{d:D}{Q:VK}(R:RelH K ι μ H)(i:IsL K ι μ.length H ds vs)(e:GS ds μ=some (d,μ'))(q:Aft K ι μ H μ' λι' H'=>∀v,Is K ι' μ'.length H' d v->Q v H'):
  vs.length<=sizeLine/\∀p,H p=none->Q (.ref p) (upd H p (.lst vs)):=by
 obtain⟨u,μ1,e1,e2⟩:=AI e;clear e;obtain⟨hl,e3⟩:=C4 e1;cases e2;cases e3;refine⟨by rw[i.length];exact hl,λp hp=>?_⟩;obtain⟨ι',E1,R1,e0⟩:=R.grown (m:=.lst ds) hp ⟨vs,rfl,i⟩;exact q ι' _ E1 R1 _ (by unfold Is;exact⟨by simp,by rw[e0]⟩)
theorem EH{K:PySem.W.Frag}{f:List D->M D}{m:Sl->M (List D)}{σ:St}{H:Hp}{Q:VK}{R:List V->Hp->Prop}(h:tE K (AJ f m) σ H Q)
  (hf:∀ι μ μ' H ds vs d,RelH K ι μ H->IsL K ι μ.length H ds vs->f ds μ=some (d,μ')->(Aft K ι μ H μ' λι' H'=>∀v,Is K ι' μ'.length H' d v->Q v H')->R vs H):tL K m σ H R:=by
 obtain⟨ι,μ,τ,z,μ',S1,S,e,q⟩:=h;obtain⟨ds,μ1,e1,e⟩:=AI e;exact⟨ι,μ,τ,ds,μ1,S1,S,e1,λι1 H1 E1 R1 vs iv=>hf ι1 μ1 μ' H1 ds vs z R1 iv e λι2 H2 E2 R2=>q ι2 H2 (E1.trans E2) R2⟩
theorem Ad{x1}{m:Sl->M (List D)}(h:RA X es m):RE X (.Tuple es x1 pos) (AJ As m):=RE.wk (Zt h.pe) λ_ _ _ q=>EH q λ_ _ _ _ _ _ _ R i e q=>QR R i e q
theorem B8{m:Sl->M (List D)}(h:RA X es m):RE X (.List es pos) (AJ BM m):=RE.wk (Ub h.pe) λ_ _ _ q=>EH q λ_ _ _ _ _ _ _ R i e q=>Ca R i e q
theorem EL{m:Sl->M (List D)}(h:RA X es m):RE X (.List es pos) (AJ GS m):=RE.wk (Ub h.pe) λ_ _ _ q=>EH q λ_ _ _ _ _ _ _ R i e q=>QV R i e q
theorem CD{id:String}{x:Str}{g:List D->M D}{m:Sl->M (List D)}{p:Pos}(hc:CT X (.builtin id) (rMA X.K g))(hm:X.mg x=none)(hv:bootBuiltins x=some (.builtin id))(ha:RA X (e::es) m)(hg:Gl X x:=by rfl)(hn:x ≠ "__name__" := by decide)(hdb:(x==("__debug__" : Str))=false:=by decide)
  (he:starEach (e::es) X.env=(false,eval e X.env)::starEach es X.env:=by exact Ak rfl) (hpl:(backTo pos (starEach es X.env)).any (·.1)=false:=by exact BS rfl):RE X (.Call (.Name x p) (e::es) [] pos) (AJ g m):=
 RE.wk (JQ hc hg hm hv ha.pe hn hdb he hpl) λ_ _ _ q=>EH q λι μ μ' H ds vs d R i e q=>⟨ι,μ,ds,d,μ',R,i,e,q⟩
theorem CP{T:String}{x:Str}{g:List D->M D}{m:Sl->M (List D)}{p:Pos}(hc:CT X (.type T) (rMA X.K g))(hm:X.mg x=none)(hv:bootBuiltins x=some (.type T))(ha:RA X (e::es) m)(hg:Gl X x:=by rfl)(hn:x ≠ "__name__" := by decide)(hdb:(x==("__debug__" : Str))=false:=by decide)
  (he:starEach (e::es) X.env=(false,eval e X.env)::starEach es X.env:=by exact Ak rfl) (hpl:(backTo pos (starEach es X.env)).any (·.1)=false:=by exact BS rfl):RE X (.Call (.Name x p) (e::es) [] pos) (AJ g m):=
 RE.wk (D7 hc hg hm hv ha.pe hn hdb he hpl) λ_ _ _ q=>EH q λι μ μ' H ds vs d R i e q=>⟨ι,μ,ds,d,μ',R,i,e,q⟩
noncomputable def spM(K:PySem.W.Frag)(n:Nat)(φ:List D->M D):Sp:=λvs H Q _=>vs.length=n/\rMA K φ vs H Q
theorem W9{n k:Nat}{φ:List D->M D}{f:Addr}{fd:FuncData}{ps:List Str}{x:Str}{m:Sl->M (List D)}{p:Pos}(F:FnOk X.prog X.w X.K X.mg X.base CX0 k f fd ps (spM X.K n φ))(hr:Room k X.A)(hm:X.mg x=some (.ref f))(hk:PySem.W.keepIn X.K (.ref f)=true)(hb:Binds X.K fd ps [])
  (hφ:∀ds μ r,φ ds μ=some r->ds.length=n) (ha:RA X (e::es) m) (hg:Gl X x:=by rfl) (hdb:(x==("__debug__" : Str))=false:=by decide) (he:starEach (e::es) X.env=(false,eval e X.env)::starEach es X.env:=by exact Ak rfl) (hpl:(backTo pos (starEach es X.env)).any (·.1)=false:=by exact BS rfl) :
  RE X (.Call (.Name x p) (e::es) [] pos) (AJ φ m):=
 RE.wk (Xb F hr hg hm hk hb .nil Uh ha.pe hdb he hpl) λ_ _ _ q=>EH q λι μ μ' H ds vs d R i e q=>by
  rw[AAb];exact⟨by rw[i.length];exact hφ ds μ _ e,ι,μ,ds,d,μ',R,i,e,q⟩
end
section
variable{X:Cx}{e a c tg iter:Expr}{es:List Expr}{pos:Pos}{st:Stmt}{rest body:List Stmt}
def BB:Sl->M (Fl×Sl):=λτ=>ret (.next,τ)
noncomputable def AY(m1 m2:Sl->M (Fl×Sl)):Sl->M (Fl×Sl):=λτ=>bnd (m1 τ) λr=>match r.1 with
 | .next=>m2 r.2
 |f=>ret (f,r.2)
theorem Ag:RSs X [] BB:=RSs.wk XI λDn σ H h=>by
 obtain⟨ι,μ,τ,f,τ',μ',R,S,e,q⟩:=h;cases e;exact q ι H R.ext0 R σ S
theorem AF(h1:RS X st m1)(h2:RSs X rest m2):RSs X (st::rest) (AY m1 m2):=RSs.wk (UN h1.pe h2.pe) λDn σ H h=>by
 obtain⟨ι,μ,τ,f,τ',μ',R,S,e,q⟩:=h;obtain⟨⟨f1,τ1⟩,μ1,e1,e⟩:=AI e;refine⟨ι,μ,τ,f1,τ1,μ1,R,S,e1,λι1 H1 E1 R1 σ1 S1=>?_⟩;cases f1 with
 |next=>exact⟨ι1,μ1,τ1,f,τ',μ',R1,S1,e,λι2 H2 E2 R2=>q ι2 H2 (E1.trans E2) R2⟩
 |brk=>cases e;exact q ι1 H1 E1 R1 σ1 S1
 |cont=>cases e;exact q ι1 H1 E1 R1 σ1 S1
 |rt d=>cases e;exact q ι1 H1 E1 R1 σ1 S1
theorem AL(h:RS X st m):RSs X [st] m:=⟨XH h.pe⟩
noncomputable def D4(m:Sl->M D):Sl->M (Fl×Sl):=λτ=>bnd (m τ) λ_=>ret (.next,τ)
theorem DJ(h:RE X e m)(hs:swapsWith e none pos.line X.env=pure false:=by rfl):RS X (.Expr e pos) (D4 m):=RS.wk (XL h.pe hs) λDn σ H h=>by
 obtain⟨ι,μ,τ,f,τ',μ',R,S,e,q⟩:=h;obtain⟨x,μ1,e1,e⟩:=AI e;cases e;exact⟨ι,μ,_,x,_,R,S,e1,λι1 H1 E1 R1 v i1=>q ι1 H1 E1 R1 σ (S.ext E1)⟩
noncomputable def Am(m:Sl->M D):Sl->M (Fl×Sl):=λτ=>bnd (m τ) λd=>ret (.rt d,τ)
theorem Aa(h:RE X e m):RS X (.Return (some e) pos) (Am m):=RS.wk (Zl h.pe) λDn σ H h=>by
 obtain⟨ι,μ,τ,f,τ',μ',R,S,e,q⟩:=h;obtain⟨x,μ1,e1,e⟩:=AI e;cases e;exact⟨ι,μ,_,x,_,R,S,e1,λι1 H1 E1 R1 v i1=>q ι1 H1 E1 R1 σ (S.ext E1) v i1⟩
noncomputable def sIf(mc:Sl->M Bool)(m1 m2:Sl->M (Fl×Sl)):Sl->M (Fl×Sl):=λτ=>bnd (mc τ) λx=>if x=true then m1 τ else m2 τ
theorem Aw(hc:RT X c mc)(h1:RSs X body m1)(h2:RSs X rest m2):RS X (.If c body rest pos) (sIf mc m1 m2):=RS.wk (bY hc.pe h1.pe h2.pe) λDn σ H h=>by
 obtain⟨ι,μ,τ,f,τ',μ',R,S,e,q⟩:=h;obtain⟨x,μ1,e1,e⟩:=AI e;refine⟨ι,μ,τ,x,μ1,R,S,e1,λι1 H1 E1 R1=>?_⟩;cases x with
 |true=>exact⟨ι1,μ1,τ,f,τ',μ',R1,S.ext E1,e,λι2 H2 E2 R2=>q ι2 H2 (E1.trans E2) R2⟩
 |false=>exact⟨ι1,μ1,τ,f,τ',μ',R1,S.ext E1,e,λι2 H2 E2 R2=>q ι2 H2 (E1.trans E2) R2⟩
def Li:Sl->M (Fl×Sl):=λ_=>BG
theorem Ty:RS X st Li:=RS.wk UP λDn σ H h=>by
 obtain⟨ι,μ,τ,f,τ',μ',R,S,e,q⟩:=h;cases e
theorem RX:RSs X body Li:=RSs.wk Rc λDn σ H h=>by
 obtain⟨ι,μ,τ,f,τ',μ',R,S,e,q⟩:=h;cases e
noncomputable def tG(K:PySem.W.Frag)(bf:D->Sl->M Sl):TG:=λv σ H Q=>∃ι μ τ d τ' μ',RelH K ι μ H/\RelS K ι μ.length H τ σ/\Is K ι μ.length H d v/\bf d τ μ=some (τ',μ') /\
 Aft K ι μ H μ' λι' H'=>∀σ',RelS K ι' μ'.length H' τ' σ'->Q σ' H'
structure RG(X:Cx)(tg:Expr)(bf:D->Sl->M Sl):Prop where
 pe:PG X tg (tG X.K bf)
theorem PG.wk(h:PG X tg t)(w:∀v σ H Q,t' v σ H Q->t v σ H Q):PG X tg t':=λpins s σ H v u Q I r q=>h pins s σ H v u Q I r (w v σ H Q q)
theorem RG.wk(h:PG X tg t)(w:∀v σ H Q,tG X.K bf v σ H Q->t v σ H Q):RG X tg bf:=⟨PG.wk h w⟩
noncomputable def AR(i:Nat):D->Sl->M Sl:=λd τ=>ret (τ.set i (some d))
theorem Pq(h:tG K (AR i) v σ H Q):Dh i v σ H Q:=by
 obtain⟨ι,μ,τ,d,τ',μ',R,S,i1,e,q⟩:=h;cases e;exact q ι H R.ext0 R _ (S.set i i1)
theorem Db(i:Nat)(hN:X.N.Nodup)(hi:X.N[i]?=some x:=by rfl)(hx:Loc X.env.scope x:=by first|exact Or.inl rfl|exact Or.inr rfl)(hf:X.fn x=true∨X.env.scope.names.lookup x=some .local:=by first|exact .inl rfl|exact .inr rfl|assumption):RG X (.Name x pos) (AR i):=
 RG.wk (Au hN hi hx hf) λ_ _ _ _ h=>Pq h
noncomputable def J3:List Nat->List D->Sl->M Sl
 |[],[],τ=>ret τ
 |i::is,d::ds,τ=>bnd (AR i d τ) λτ1=>J3 is ds τ1
 |_,_,_=>BG
noncomputable def Eg(is:List Nat):D->Sl->M Sl
 | .tup ds,τ=>if ds.length=is.length then J3 is ds τ else BG
 |_,_=>BG
noncomputable def EV:List Nat->TGs
 |[]=>cJ
 |i::is=>Ys (Dh i) (EV is)
theorem HR:∀{is:List Nat} {ds:List D} {vs:List V} {τ τ':Sl} {σ:St} {ι:Nat->Addr} {μ μ':Mh} {H:Hp} {Q:St->Hp->Prop},RelH K ι μ H->RelS K ι μ.length H τ σ->IsL K ι μ.length H ds vs->J3 is ds τ μ=some (τ',μ')->
  (μ'=μ->∀σ',RelS K ι μ.length H τ' σ'->Q σ' H)->EV is vs σ H Q
 |[],[],_,_,_,_,_,_,_,_,_,R,S,i,e,q=>by
  cases e;unfold IsL at i;subst i;exact⟨rfl,q rfl _ S⟩
 |_::is,_::ds,_,τ,τ',σ,ι,μ,μ',H,Q,R,S,i,e,q=>by
  unfold IsL at i;obtain⟨v,vs',rfl,i1,i2⟩:=i;exact⟨v,vs',rfl,HR (is:=is) (ds:=ds) R (S.set _ i1) i2 e q⟩
 |[],_::_,_,_,_,_,_,_,_,_,_,_,_,_,e,_=>by cases e
 |_::_,[],_,_,_,_,_,_,_,_,_,_,_,_,e,_=>by cases e
theorem F0(hc:X.calm=true)(h:PGs X es (EV is))(hn:(assignEach es X.env).length=is.length:=by rfl)(hst:(assignEach es X.env).findIdx? (·.1)=none:=by rfl):RG X (.Tuple es k pos) (Eg is):=
 RG.wk (Oi hc h hn hst) λv σ H Q h=>by
  obtain⟨ι,μ,τ,d,τ',μ',R,S,i1,e,q⟩:=h;cases d with
  |tup ds=>
   unfold Is at i1;obtain⟨p,vs,rfl,h1,h2⟩:=i1;have e':(if ds.length=is.length then J3 is ds τ else BG) μ=some (τ',μ'):=e;by_cases hl:ds.length=is.length
   ·rw[if_pos hl] at e';have e:=e';refine⟨p,vs,rfl,h1,by rw[h2.length,hl],HR R S h2 e λz σ' S'=>?_⟩;subst z;exact q ι H R.ext0 R σ' S'
   ·rw[if_neg hl] at e';cases e'
  |_=>cases e
noncomputable def Ai(m:Sl->M D)(bf:D->Sl->M Sl):Sl->M (Fl×Sl):=λτ=>bnd (m τ) λd=>bnd (bf d τ) λτ'=>ret (.next,τ')
theorem Pp(hg:∀v H Q,tG K bf v σ H Q->g v σ H Q)(h:tSt K (Ai m bf) Dn σ H):Ti (tE K m) g Dn σ H:=by
 obtain⟨ι,μ,τ,f,τ',μ',R,S,e,q⟩:=h;obtain⟨x,μ1,e1,e⟩:=AI e;obtain⟨τ1,μ2,e2,e⟩:=AI e;cases e;exact⟨ι,μ,τ,x,μ1,R,S,e1,λι1 H1 E1 R1 v i1=>hg _ _ _ ⟨ι1,μ1,τ,x,_,_,R1,S.ext E1,i1,e2,λι2 H2 E2 R2 σ' S'=>q ι2 H2 (E1.trans E2) R2 σ' S'⟩⟩
theorem AW(i:Nat)(hN:X.N.Nodup)(he:RE X e m)(hi:X.N[i]?=some x:=by rfl)(hx:Loc X.env.scope x:=by first|exact Or.inl rfl|exact Or.inr rfl)(hs:swapsWith e (some (.Name x pos')) pos.line X.env=pure false:=by rfl)(hf:X.fn x=true∨X.env.scope.names.lookup x=some .local:=by first|exact .inl rfl|exact .inr rfl|assumption):
  RS X (.Assign [.Name x pos'] e pos) (Ai m (AR i)):=RS.wk (Zk hN hi hx he.pe hs hf) λ_ _ _ h=>Pp (λ_ _ _ q=>Pq q) h
theorem Ll(he:RE X e m)(hg:RG X tg bf)(hs:swapsWithSole [tg] e pos.line X.env=pure false:=by rfl)(hw:swappedStores [tg] e X.env=pure none:=by rfl)
  (h1:(assignEach [tg] X.env).map (·.2)=[assign tg X.env]:=by rfl):RS X (.Assign [tg] e pos) (Ai m bf):=RS.wk (Zn he.pe hg.pe hs hw h1) λ_ _ _ h=>Pp (λ_ _ _ q=>q) h
noncomputable def RB(mc:Sl->M Bool)(mb:Sl->M (Fl×Sl)):Nat->Sl->M (Fl×Sl)
 |0,_=>BG
 |n+1,τ=>bnd (mc τ) λx=>if x=true then bnd (mb τ) λr=>match r.1 with
   | .next=>RB mc mb n r.2
   | .cont=>RB mc mb n r.2
   | .brk=>ret (.next,r.2)
   | .rt d=>ret (.rt d,r.2)
  else ret (.next,τ)
noncomputable def Lh(n:Nat)(mc:Sl->M Bool)(mb:Sl->M (Fl×Sl)):Sl->M (Fl×Sl):=RB mc mb n
theorem Tx(n:Nat)(hp:PassesOwn (model X.prog X.w) X.A X.env X.xe)(hc:RT X c mc)(hb:RSs X body mb):RS X (.While c body [] pos) (Lh n mc mb):=RS.wk (UO hp hc.pe hb.pe) λDn σ H h=>by
 refine⟨λn σ H=>tSt X.K (RB mc mb n) Dn σ H,⟨n,h⟩,?_⟩;intro n σ H h;obtain⟨ι,μ,τ,f,τ',μ',R,S,e,q⟩:=h;cases n with
 |zero=>cases e
 |succ n=>
  obtain⟨x,μ1,e1,e⟩:=AI e;refine⟨ι,μ,τ,x,μ1,R,S,e1,λι1 H1 E1 R1=>?_⟩;cases x with
  |false=>cases e;exact q ι1 H1 E1 R1 σ (S.ext E1)
  |true=>
   obtain⟨⟨f2,τ2⟩,μ2,e2,e⟩:=AI e;refine⟨λσ' H'=>tSt X.K (RB mc mb n) Dn σ' H',λσ' H' z=>⟨n,Nat.lt_succ_self n,z⟩,?_⟩;refine⟨ι1,μ1,τ,f2,τ2,μ2,R1,S.ext E1,e2,λι2 H2 E2 R2 σ2 S2=>?_⟩;have E12:=E1.trans E2;cases f2 with
   |next=>exact⟨ι2,μ2,τ2,f,τ',μ',R2,S2,e,λι3 H3 E3 R3=>q ι3 H3 (E12.trans E3) R3⟩
   |cont=>exact⟨ι2,μ2,τ2,f,τ',μ',R2,S2,e,λι3 H3 E3 R3=>q ι3 H3 (E12.trans E3) R3⟩
   |brk=>cases e;exact q ι2 H2 E12 R2 σ2 S2
   |rt d=>cases e;exact q ι2 H2 E12 R2 σ2 S2
def ItM(K:PySem.W.Frag)(J:It)(ds:List D)(ι:Nat->Addr)(μ:Mh)(H:Hp):Prop:=∀ι' (μ':Mh) H',Ext ι μ.length H ι' μ'.length H'->RelH K ι' μ' H'->
 (∀i,i<ds.length->J.go i H')/\J.stop ds.length H'/\∀(i:Nat) x H2 d,ds[i]?=some d->J.yld i H' x H2->Ext ι' μ'.length H' ι' μ'.length H2/\RelH K ι' μ' H2/\Is K ι' μ'.length H2 d x
theorem ItM.ext(h:ItM K J ds ι μ H)(E:Ext ι μ.length H ι' μ'.length H'):ItM K J ds ι' μ' H':=λι2 μ2 H2 E2 R2=>h ι2 μ2 H2 (E.trans E2) R2
noncomputable def tI(K:PySem.W.Frag)(m:Sl->M (List D)):TI:=λσ H R=>∃ι μ τ ds μ',RelH K ι μ H/\RelS K ι μ.length H τ σ/\m τ μ=some (ds,μ') /\
 Aft K ι μ H μ' λι' H'=>∀J,ItM K J ds ι' μ' H'->R J H'
structure RI(X:Cx)(tg iter:Expr)(m:Sl->M (List D)):Prop where
 pe:PI X tg iter (tI X.K m)
theorem PI.wk(h:PI X tg iter t)(w:∀σ H R,t' σ H R->t σ H R):PI X tg iter t':=λpins s σ H R I q=>h pins s σ H R I (w σ H R q)
theorem RI.wk(h:PI X tg iter t)(w:∀σ H R,tI X.K m σ H R->t σ H R):RI X tg iter m:=⟨PI.wk h w⟩
theorem PI.or(h:PI X tg iter t)(h':PI X tg iter t'):PI X tg iter (λσ H R=>t σ H R∨t' σ H R):=λpins s σ H R I q=>q.elim (h pins s σ H R I) (h' pins s σ H R I)
noncomputable def Qz:D->M (List D)
 | .lst ds=>ret ds
 | .tup ds=>ret ds
 | .scr ns=>ret (ns.map D.int)
 |_=>BG
noncomputable def EA(m:Sl->M D):Sl->M (List D):=λτ=>bnd (m τ) Qz
theorem Nb(st:∀ι' (μ':Mh) H',Ext ι μ.length H ι' μ'.length H'->RelH K ι' μ' H'->SqL K H' p vs)(i:IsL K ι μ.length H ds vs):ItM K (Itl K p) ds ι μ H:=by
 intro ι' μ' H' E R;have h:=st ι' μ' H' E R;have hl:=i.length;refine⟨λj hj=>⟨vs,vs[j],h,by simp⟩,⟨vs,h,by omega⟩,λj x H2 d hd y=>?_⟩;obtain⟨e,y⟩:=y;subst e;obtain⟨v,ev,iv⟩:=(i.ext E).get hd;have:=y vs h;rw[ev] at this;cases this;exact⟨R.ext0,R,iv⟩
theorem X8(h:SqT K H p vs)(i:IsL K ι μ.length H ds vs):ItM K (Itt K p) ds ι μ H:=by
 intro ι' μ' H' E R;have h:=GJ E h;have hl:=i.length;refine⟨λj hj=>⟨vs,vs[j],h,by simp⟩,⟨vs,h,by omega⟩,λj x H2 d hd y=>?_⟩;obtain⟨e,y⟩:=y;subst e;obtain⟨v,ev,iv⟩:=(i.ext E).get hd;have:=y vs h;rw[ev] at this;cases this;exact⟨R.ext0,R,iv⟩
theorem W4(q:tI K (EA m) σ H R):Yq K (tE K m) σ H R∨cH K (tE K m) σ H R:=by
 obtain⟨ι,μ,τ,ds,μ',R0,S,e,q⟩:=q;obtain⟨x,μ1,e1,e⟩:=AI e;cases x with
 |lst es=>
  cases e;refine .inl ⟨ι,μ,τ,_,_,R0,S,e1,λι1 H1 E1 R1 v i1=>?_⟩;unfold Is at i1;obtain⟨p,vs,rfl,h1,hn,h2⟩:=i1;exact⟨p,rfl,⟨vs,SqL.of h1⟩,q ι1 H1 E1 R1 _ (Nb (λι' μ' H' E _=>SqL.of (E.keep p _ h1 hn)) h2)⟩
 |tup es=>
  cases e;refine .inr ⟨ι,μ,τ,_,_,R0,S,e1,λι1 H1 E1 R1 v i1=>?_⟩;unfold Is at i1;obtain⟨p,vs,rfl,h1,h2⟩:=i1;exact⟨p,rfl,⟨vs,h1⟩,q ι1 H1 E1 R1 _ (X8 h1 h2)⟩
 |scr ns=>
  cases e;refine .inl ⟨ι,μ,τ,_,_,R0,S,e1,λι1 H1 E1 R1 v i1=>?_⟩;unfold Is at i1;obtain⟨p,rfl,h1⟩:=i1;exact⟨p,rfl,⟨_,h1.sq⟩,q ι1 H1 E1 R1 _ (Nb (λι' μ' H' E _=>(P4 E h1).sq) (IsL.ofInts ns))⟩
 |non=>cases e
 |bl _=>cases e
 |int _=>cases e
 |str _=>cases e
 |ty _=>cases e
 |ref _=>cases e
theorem B7(h:RE X e m):RI X tg e (EA m):=RI.wk (PI.or (Ls h.pe) (Zq h.pe)) λ_ _ _ q=>W4 q
noncomputable def M7(lo hi:Int):List D:=(List.range (hi-lo).toNat).map λ(j:Nat)=>D.int (lo+(j:Int))
noncomputable def T3:List D->M (List D)
 |[.int j]=>λμ=>if -(2 ^ 62)<=j/\j<2 ^ 62 then some (M7 0 j,μ) else none
 |_=>BG
noncomputable def NX(m:Sl->M (List D)):Sl->M (List D):=λτ=>bnd (m τ) T3
theorem X9:ItM K (Itr lo (hi-lo).toNat) (M7 lo hi) ι μ H:=by
 intro ι' μ' H' E R;have hl:(M7 lo hi).length=(hi-lo).toNat:=by simp[M7]
 rw[hl];refine⟨λj hj=>hj,AAF _,λj x H2 d hd y=>?_⟩;obtain⟨e,y⟩:=y;subst e;unfold M7 at hd;rw[AAW] at hd;cases q:(List.range (hi-lo).toNat)[j]? with
 |none=>rw[q] at hd;cases hd
 |some z=>
  rw[q] at hd;have hz:z=j:=by
   have:=(AAU.mp q).2;simpa using this.symm
  subst hz;cases hd;exact⟨R.ext0,R,by unfold Is;exact y⟩
theorem G9(hm:X.mg "range" = none)(ha:RA X [a] m)(hg:Gl X "range" := by rfl)(hs:starEach [a] X.env=[(false,eval a X.env)]:=by rfl):RI X tg (.Call (.Name "range" p) [a] [] pos) (NX m):=
 RI.wk (Rh hg hm ha.pe hs) λσ H R q=>by
  obtain⟨ι,μ,τ,ds,μ',R0,S,e,q⟩:=q;obtain⟨xs,μ1,e1,e⟩:=AI e;refine⟨ι,μ,τ,xs,μ1,R0,S,e1,λι1 H1 E1 R1 vs i1=>?_⟩;unfold T3 at e;split at e
  ·rename_i j;split at e
   ·rename_i hb;cases e;unfold IsL Is at i1;obtain⟨v,vs',rfl,rfl,i2⟩:=i1;unfold IsL at i2;subst i2;refine⟨j,rfl,hb.1,hb.2,q ι1 H1 E1 R1 _ ?_⟩;have:=X9 (K:=X.K) (ι:=ι1) (μ:=μ') (H:=H1) (lo:=0) (hi:=j);rw[Int.sub_zero] at this;exact this
   ·cases e
  ·cases e
noncomputable def FO(bf:D->Sl->M Sl)(mb:Sl->M (Fl×Sl)):List D->Sl->M (Fl×Sl)
 |[],τ=>ret (.next,τ)
 |x::xs,τ=>bnd (bf x τ) λτ1=>bnd (mb τ1) λr=>match r.1 with
  | .next=>FO bf mb xs r.2
  | .cont=>FO bf mb xs r.2
  | .brk=>ret (.next,r.2)
  | .rt d=>ret (.rt d,r.2)
noncomputable def G6(src:Sl->M (List D))(bf:D->Sl->M Sl)(mb:Sl->M (Fl×Sl)):Sl->M (Fl×Sl):=λτ=>bnd (src τ) λds=>FO bf mb ds τ
theorem DQ(hp:PassesOwn (model X.prog X.w) X.A X.env X.xe)(hc:X.calm=true)(hi:RI X tg iter src)(hg:RG X tg bf)(hb:RSs X body mb)
  (hs:∀x,foldedSetIterable iter X.env x=pure x:=by intro _;rfl):RS X (.For tg iter body [] pos) (G6 src bf mb):=RS.wk (UQ hp hc hi.pe hg.pe hb.pe hs) λDn σ H h=>by
 obtain⟨ι,μ,τ,f,τ',μ',R,S,e,q⟩:=h;obtain⟨ds,μ1,e1,e⟩:=AI e;refine⟨ι,μ,τ,ds,μ1,R,S,e1,λι1 H1 E1 R1 J it=>?_⟩
 let W:Nat->Nat->St->Hp->Prop:=λi m σ H=>m=ds.length-i/\i<=ds.length/\∃ι μ τ f τ' μ',RelH X.K ι μ H/\RelS X.K ι μ.length H τ σ/\ItM X.K J ds ι μ H/\FO bf mb (ds.drop i) τ μ=some ((f,τ'),μ') /\
  Aft X.K ι μ H μ' λι' H'=>∀σ',RelS X.K ι' μ'.length H' τ' σ'->FlP X.K Dn ι' μ'.length H' τ' σ' f
 refine⟨W,⟨ds.length,by simp,AAm _,ι1,μ1,τ,f,τ',μ',R1,S.ext E1,it,e,λι2 H2 E2 R2=>q ι2 H2 (E1.trans E2) R2⟩,?_⟩;rintro i m σ H ⟨hm,hil,ι,μ,τ,f,τ',μ',R,S,it,e,q⟩;obtain⟨go,stop,yl⟩:=it ι μ H R.ext0 R;by_cases hlt:i<ds.length
 ·refine .inr ⟨go i hlt,λσ' H'=>W (i+1) (ds.length-(i+1)) σ' H',λσ' H' z=>⟨_,by omega,z⟩,λx H2 y=>?_⟩;have hd:ds[i]?=some ds[i]:=by simp[hlt]
  obtain⟨E2,R2,ix⟩:=yl i x H2 _ hd y;rw[List.drop_eq_getElem_cons hlt] at e;obtain⟨τ1,μ1,e1,e⟩:=AI e;obtain⟨⟨f2,τ2⟩,μ2,e2,e⟩:=AI e;refine⟨ι,μ,τ,_,τ1,μ1,R2,S.ext E2,ix,e1,λι3 H3 E3 R3 σ3 S3=>?_⟩;refine⟨ι3,μ1,τ1,f2,τ2,μ2,R3,S3,e2,λι4 H4 E4 R4 σ4 S4=>?_⟩;have E14:=(E2.trans E3).trans E4;cases f2 with
  |next=>exact⟨rfl,hlt,ι4,μ2,τ2,f,τ',μ',R4,S4,it.ext E14,e,λι5 H5 E5 R5=>q ι5 H5 (E14.trans E5) R5⟩
  |cont=>exact⟨rfl,hlt,ι4,μ2,τ2,f,τ',μ',R4,S4,it.ext E14,e,λι5 H5 E5 R5=>q ι5 H5 (E14.trans E5) R5⟩
  |brk=>cases e;exact q ι4 H4 E14 R4 σ4 S4
  |rt d=>cases e;exact q ι4 H4 E14 R4 σ4 S4
 ·have hi':i=ds.length:=by omega
  subst hi';rw[List.drop_length] at e;cases e;exact .inl ⟨stop,q ι H R.ext0 R σ S⟩
end
section
variable{X:Cx}{scope:Scope}{tgs:List Str}{ix:List Nat}{elt tg iter:Expr}{pos:Pos}
noncomputable def UX(ix:List Nat)(τ:Sl):Sl:=ix.map λj=>(τ[j]?).getD none
noncomputable def CU(n:Nat)(ix:List Nat)(τ:Sl):Sl:=List.replicate n none++UX ix τ
noncomputable def CB(bf:D->Sl->M Sl)(mc:Sl->M Bool)(me:Sl->M D)(τ0:Sl):List D->List D->M (List D)
 |[],ys=>ret ys
 |x::xs,ys=>bnd (bf x τ0) λτ1=>bnd (mc τ1) λc=>if c=true then bnd (me τ1) λy=>CB bf mc me τ0 xs (ys++[y]) else CB bf mc me τ0 xs ys
noncomputable def Bp(n:Nat)(ix:List Nat)(src:Sl->M (List D))(bf:D->Sl->M Sl)(mc:Sl->M Bool)(me:Sl->M D)(fin:List D->M D):Sl->M D:=λτ=>bnd (src τ) λds=>bnd (lim ds.length) λ_=>bnd (CB bf mc me (CU n ix τ) ds []) fin
def C3:Sl->M Bool:=λ_=>ret true
theorem RelS.block(S:RelS K ι k H τ σ):RelS K ι k H (CU tgs.length ix τ) (CK tgs ix σ):=by
 refine⟨by simp[CU,CK,UX,Kn],λi d e=>?_⟩;unfold CU at e;have hk:tgs.length<=i:=by
  rcases Nat.lt_or_ge i tgs.length with z|z
  ·rw[AAT (by simpa using z),List.getElem?_replicate,if_pos z] at e;cases e
  ·exact z
 rw[AAS (by simpa using hk),AAp] at e;unfold UX at e;rw[AAW] at e;cases q:ix[i-tgs.length]? with
 |none=>rw[q] at e;cases e
 |some j=>
  rw[q] at e;have e':(τ[j]?).getD none=some d:=Option.some.inj e;cases q2:τ[j]? with
  |none=>rw[q2] at e';cases e'
  |some o=>
   rw[q2] at e';have e'':o=some d:=e';subst e'';obtain⟨v,ev,iv⟩:=S.get j d q2;refine⟨v,?_,iv⟩;unfold CK;rw[AAS (by simpa using hk),AAp];unfold Kn;rw[AAW,q,Option.map_some,ev];rfl
theorem Ps(hn:tgs.length=n)(hf:∀ι μ μ' H ds vs d (Q:VK),RelH K ι μ H->IsL K ι μ.length H ds vs->fin ds μ=some (d,μ')->(Aft K ι μ H μ' λι' H'=>∀v,Is K ι' μ'.length H' d v->Q v H')->
   vs.length<=sizeLine/\∀p,H p=none->Q (.ref p) (upd H p (.lst vs)))
  (h:tE K (Bp n ix src (AR i) mc me fin) σ H Q):Iq tgs ix (tI K src) (Dh i) (tT K mc) (tE K me) σ H Q:=by
 subst hn;obtain⟨ι,μ,τ,d,μ',R,S,e,q⟩:=h;obtain⟨ds,μ1,e1,e5⟩:=AI e;obtain⟨u,μ2,e2,e6⟩:=AI e5;obtain⟨zs,μ3,e3,e7⟩:=AI e6;obtain⟨hl,e4⟩:=C4 e2;clear e e5 e6;subst e4;refine⟨ι,μ,τ,ds,_,R,S,e1,λι1 H1 E1 R1 J it=>?_⟩;refine⟨λi' m ys H=>m=ds.length-i'/\i'<=ds.length/\ys.length<=i'/\∃(ι:Nat->Addr) (μ:Mh) (as:List D),RelH K ι μ H/\RelS K ι μ.length H τ σ/\ItM K J ds ι μ H/\IsL K ι μ.length H as ys/\CB (AR i) mc me (CU tgs.length ix τ) (ds.drop i') as μ=some (zs,μ3) /\
  Aft K ι μ H μ' λι' H'=>∀v,Is K ι' μ'.length H' d v->Q v H',⟨ds.length,by simp,AAm _,AAF _,ι1,_,[],R1,S.ext E1,it,.nil,e3,λι2 H2 E2 R2=>q ι2 H2 (E1.trans E2) R2⟩,?_⟩
 rintro i' m ys H ⟨hm,hil,hyl,ι,μ,as,R,S,it,ia,e3,q⟩;obtain⟨go,stop,yl⟩:=it ι μ H R.ext0 R;by_cases hlt:i'<ds.length
 ·refine .inr ⟨go i' hlt,by omega,λys' H'=>ys'.length<=i'+1/\∃(ι:Nat->Addr) (μ:Mh) (as:List D),RelH K ι μ H'/\RelS K ι μ.length H' τ σ/\ItM K J ds ι μ H'/\IsL K ι μ.length H' as ys'/\CB (AR i) mc me (CU tgs.length ix τ) (ds.drop (i'+1)) as μ=some (zs,μ3) /\
   Aft K ι μ H' μ' λι' H'=>∀v,Is K ι' μ'.length H' d v->Q v H',λys' H' z=>⟨_,(by omega:ds.length-(i'+1)<m),rfl,hlt,z⟩,λx H2 y=>?_⟩
  have hd:ds[i']?=some ds[i']:=by simp[hlt]
  obtain⟨E2,R2,ix2⟩:=yl i' x H2 _ hd y;rw[List.drop_eq_getElem_cons hlt] at e3;obtain⟨τ1,μ1,e1,e3⟩:=AI e3;cases e1;obtain⟨cc,μ2,e2,e3⟩:=AI e3;have S2:=(S.ext E2).block (tgs:=tgs) (ix:=ix);show tT K mc _ H2 _;refine⟨ι,_,_,cc,μ2,R2,S2.set i ix2,e2,λι3 H3 E3 R3=>?_⟩;have E13:=E2.trans E3;cases cc with
  |false=>
   exact⟨by omega,ι3,μ2,as,R3,S.ext E13,it.ext E13,ia.ext E13,e3,λι5 H5 E5 R5=>q ι5 H5 (E13.trans E5) R5⟩
  |true=>
   obtain⟨y',μ4,e4,e3⟩:=AI e3;refine⟨ι3,μ2,_,y',μ4,R3,(S2.set i ix2).ext E3,e4,λι4 H4 E4 R4 v iv=>?_⟩;have E14:=E13.trans E4;exact⟨by simp;omega,ι4,μ4,as++[y'],R4,S.ext E14,it.ext E14,(ia.ext E14).append (.one iv),e3,λι5 H5 E5 R5=>q ι5 H5 (E14.trans E5) R5⟩
 ·have hi':i'=ds.length:=by omega
  subst hi';rw[List.drop_length] at e3;cases e3;obtain⟨z1,z2⟩:=hf ι _ μ' H _ ys d Q R ia e7 q;exact .inl ⟨stop,z1,z2⟩
theorem FU(S:BScope X scope tgs ix)(hc:X.calm=true)(hi:RI X tg iter src)(hg:∀fp C s H,PG (cxB X scope tgs fp C s H) tg (Dh i))(hif:∀fp C s H,KL (cxB X scope tgs fp C s H) ifs (tT X.K mc))(he:∀fp C s H,RE (cxB X scope tgs fp C s H) elt me)
  (hin:i<tgs.length:=by decide) (hn:tgs.length=n:=by rfl) (hs:∀x,foldedSetIterable iter X.env x=pure x:=by intro _;rfl) (ht:∀o v,letOwnedTupleGo tg o v=pure ():=by intro _ _;rfl):RE X (.ListComp elt [⟨tg,iter,ifs,0⟩] scope pos) (Bp n ix src (AR i) mc me BM):=
 RE.wk (QK (te:=tE X.K me) S hc hi.pe hg (L9 hin) hif (λfp C s H=>(he fp C s H).pe) hs ht) λ_ _ _ h=>Ps hn (λ_ _ _ _ _ _ _ _ R i e q=>Ca R i e q) h
theorem CZ:KL X [] (tT K C3):=λpins s σ H Q I h=>by
 obtain⟨ι,μ,τ,b,μ',R,S,e,q⟩:=h;cases e;exact UV pins s σ H Q I (q ι H R.ext0 R)
theorem T5(h:RT X c mc):KL X [c] (tT X.K mc):=UU h.pe
theorem Fz(k:Nat)(hN:X.N.Nodup)(S:BScope X scope tgs ix)(hc:X.calm=true)(hi:RI X tg iter src)(hg:∀fp C s H,PG (cxB X scope tgs fp C s H) tg (Dh i))(hif:∀fp C s H,KL (cxB X scope tgs fp C s H) ifs (tT X.K mc))(he:∀fp C s H,RE (cxB X scope tgs fp C s H) elt me)
  (hfin:∀ι μ μ' H ds vs d (Q:VK),RelH X.K ι μ H->IsL X.K ι μ.length H ds vs->fin ds μ=some (d,μ')->(Aft X.K ι μ H μ' λι' H'=>∀v,Is X.K ι' μ'.length H' d v->Q v H')->vs.length<=sizeLine/\∀p,H p=none->Q (.ref p) (upd H p (.lst vs)))
  (hiN:X.N[k]?=some y:=by rfl) (hy:X.env.scope.names.lookup y=some .local:=by rfl) (hin:i<tgs.length:=by decide) (hn:tgs.length=n:=by rfl)
  (hsw:swapsWith (.ListComp elt [⟨tg,iter,ifs,0⟩] scope pos) (some (.Name y py)) spos.line X.env=pure true:=by rfl) (hs:∀x,foldedSetIterable iter X.env x=pure x:=by intro _;rfl) (ht:∀o v,letOwnedTupleGo tg o v=pure ():=by intro _ _;rfl) :
  RS X (.Assign [.Name y py] (.ListComp elt [⟨tg,iter,ifs,0⟩] scope pos) spos) (Ai (Bp n ix src (AR i) mc me fin) (AR k)):=
 RS.wk (Og (te:=tE X.K me) hN hiN hy S hc hi.pe hg (L9 hin) hif (λfp C s H=>(he fp C s H).pe) hsw hs ht) λDn σ H h=>by
  obtain⟨ι,μ,τ,f,τ',μ',R,S,e,q⟩:=h;obtain⟨x,μ1,e1,e⟩:=AI e;obtain⟨τ1,μ2,e2,e⟩:=AI e;cases e2;cases e;refine Ps hn hfin ⟨ι,μ,τ,x,_,R,S,e1,λι1 H1 E1 R1 v i1=>?_⟩;exact q ι1 H1 E1 R1 _ ((S.ext E1).set k i1)
mutual
def Cl(k:Nat):D->Prop
 | .tup ds=>ClL k ds
 | .lst ds=>ClL k ds
 | .ref n=>n<k
 |_=>True
def ClL(k:Nat):List D->Prop
 |[]=>True
 |d::ds=>Cl k d/\ClL k ds
end
noncomputable def ClO(k:Nat):MO->Prop
 | .lst ds=>ClL k ds
 | .dK l=>ClL k (l.map (·.2))
 | .dC l=>ClL k (l.map (·.2))
 | .ins _ l=>ClL k (l.map (·.2))
 | .dP _ l=>ClL k (l.map (·.1))/\ClL k (l.map (·.2))
section
variable{K:PySem.W.Frag}{ι:Nat->Addr}{k k':Nat}{H:Hp}
mutual
theorem Is.down(hk:k<=k'):∀{d:D} {v:V},Cl k d->Is K ι k' H d v->Is K ι k H d v
 | .non,_,_,h=>by unfold Is at h ⊢;exact h
 | .bl _,_,_,h=>by unfold Is at h ⊢;exact h
 | .int _,_,_,h=>by unfold Is at h ⊢;exact h
 | .str _,_,_,h=>by unfold Is at h ⊢;exact h
 | .ty _,_,_,h=>by unfold Is at h ⊢;exact h
 | .scr _,_,_,h=>by unfold Is at h ⊢;exact h
 | .tup ds,_,c,h=>by
  unfold Is at h ⊢;obtain⟨p,vs,e,h1,h2⟩:=h;exact⟨p,vs,e,h1,IsL.down hk (by unfold Cl at c;exact c) h2⟩
 | .lst ds,_,c,h=>by
  unfold Is at h ⊢;obtain⟨p,vs,e,h1,hn,h2⟩:=h;exact⟨p,vs,e,h1,λn z=>hn n (AAN z hk),IsL.down hk (by unfold Cl at c;exact c) h2⟩
 | .ref n,_,c,h=>by
  unfold Is at h ⊢;exact⟨by unfold Cl at c;exact c,h.2⟩
theorem IsL.down(hk:k<=k'):∀{ds:List D} {vs:List V},ClL k ds->IsL K ι k' H ds vs->IsL K ι k H ds vs
 |[],_,_,h=>by unfold IsL at h ⊢;exact h
 |_::_,_,c,h=>by
  unfold IsL at h ⊢;unfold ClL at c;obtain⟨v,vs',e,h1,h2⟩:=h;exact⟨v,vs',e,Is.down hk c.1 h1,IsL.down hk c.2 h2⟩
end
mutual
theorem Is.cl:∀{d:D} {v:V},Is K ι k H d v->Cl k d
 | .non,_,_=>by unfold Cl;trivial
 | .bl _,_,_=>by unfold Cl;trivial
 | .int _,_,_=>by unfold Cl;trivial
 | .str _,_,_=>by unfold Cl;trivial
 | .ty _,_,_=>by unfold Cl;trivial
 | .scr _,_,_=>by unfold Cl;trivial
 | .tup ds,_,h=>by
  unfold Is at h;unfold Cl;obtain⟨p,vs,e,h1,h2⟩:=h;exact IsL.cl h2
 | .lst ds,_,h=>by
  unfold Is at h;unfold Cl;obtain⟨p,vs,e,h1,hn,h2⟩:=h;exact IsL.cl h2
 | .ref n,_,h=>by
  unfold Is at h;unfold Cl;exact h.1
theorem IsL.cl:∀{ds:List D} {vs:List V},IsL K ι k H ds vs->ClL k ds
 |[],_,_=>by unfold ClL;trivial
 |_::_,_,h=>by
  unfold IsL at h;unfold ClL;obtain⟨v,vs',e,h1,h2⟩:=h;exact⟨Is.cl h1,IsL.cl h2⟩
end
theorem KVs.cl:∀{l:List (Key×D)} {r:List (Key×V)},KVs K ι k H l r->ClL k (l.map (·.2))
 |[],_,_=>by unfold List.map ClL;trivial
 |(_,_)::_,_,h=>by
  obtain⟨v,r',e,h1,h2⟩:=h;rw[AAX];unfold ClL;exact⟨h1.cl,KVs.cl h2⟩
theorem KVs.down(hk:k<=k'):∀{l:List (Key×D)} {r:List (Key×V)},ClL k (l.map (·.2))->KVs K ι k' H l r->KVs K ι k H l r
 |[],_,_,h=>h
 |(_,_)::_,_,c,h=>by
  rw[AAX] at c;unfold ClL at c;obtain⟨v,r',e,h1,h2⟩:=h;exact⟨v,r',e,h1.down hk c.1,KVs.down hk c.2 h2⟩
theorem Qx:∀l:List Int,ClL k (l.map D.int)
 |[]=>by unfold List.map ClL;trivial
 |_::l=>by unfold List.map ClL;exact⟨by unfold Cl;trivial,Qx l⟩
theorem cT(c:Nk.Cs):Cl k (csD c):=by
 unfold csD Cl ClL;refine⟨by unfold Cl;trivial,?_⟩;unfold ClL;refine⟨by unfold Cl;trivial,?_⟩;unfold ClL;exact⟨by unfold Cl;exact Qx _,by unfold ClL;trivial⟩
theorem CVs.cl:∀{l:List (Nk.Cs×D)} {r:List (Nk.Cs×Addr×V)},CVs K ι k H l r->ClL k (l.map (·.2))
 |[],_,_=>by unfold List.map ClL;trivial
 |(_,_)::_,_,h=>by
  obtain⟨a,v,r',rfl,_,h1,h2⟩:=h;rw[AAX];unfold ClL;exact⟨h1.cl,CVs.cl h2⟩
theorem CVs.down(hk:k<=k'):∀{l:List (Nk.Cs×D)} {r:List (Nk.Cs×Addr×V)},ClL k (l.map (·.2))->CVs K ι k' H l r->CVs K ι k H l r
 |[],_,_,h=>h
 |(_,_)::_,_,c,h=>by
  rw[AAX] at c;unfold ClL at c;obtain⟨a,v,r',e,h0,h1,h2⟩:=h;exact⟨a,v,r',e,h0.down hk (cT _),h1.down hk c.1,CVs.down hk c.2 h2⟩
theorem FVs.cl:∀{l:List (Str×D)} {r:List (Str×V)},FVs K ι k H l r->ClL k (l.map (·.2))
 |[],_,_=>by unfold List.map ClL;trivial
 |(_,_)::_,_,h=>by
  obtain⟨v,r',rfl,h1,h2⟩:=h;rw[AAX];unfold ClL;exact⟨h1.cl,FVs.cl h2⟩
theorem FVs.down(hk:k<=k'):∀{l:List (Str×D)} {r:List (Str×V)},ClL k (l.map (·.2))->FVs K ι k' H l r->FVs K ι k H l r
 |[],_,_,h=>h
 |(_,_)::_,_,c,h=>by
  rw[AAX] at c;unfold ClL at c;obtain⟨v,r',e,h1,h2⟩:=h;exact⟨v,r',e,h1.down hk c.1,FVs.down hk c.2 h2⟩
theorem PVs.cl:∀{l:List (D×D)} {r:List (D×Addr×V)},PVs K ι k H l r->ClL k (l.map (·.1))/\ClL k (l.map (·.2))
 |[],_,_=>by unfold List.map ClL;exact⟨trivial,trivial⟩
 |(_,_)::_,_,h=>by
  obtain⟨a,v,r',_,h1,h2,h3⟩:=h;rw[AAX,AAX];unfold ClL;exact⟨⟨h1.2.2.cl,(PVs.cl h3).1⟩,h2.cl,(PVs.cl h3).2⟩
theorem PVs.down(hk:k<=k'):∀{l:List (D×D)} {r:List (D×Addr×V)},ClL k (l.map (·.1))->ClL k (l.map (·.2))->PVs K ι k' H l r->PVs K ι k H l r
 |[],_,_,_,h=>h
 |(_,_)::_,_,b,c,h=>by
  rw[AAX] at b c;unfold ClL at b c;obtain⟨a,v,r',e,h1,h2,h3⟩:=h;exact⟨a,v,r',e,⟨h1.1,h1.2.1,h1.2.2.down hk b.1⟩,h2.down hk c.1,PVs.down hk b.2 c.2 h3⟩
theorem ObjIs.cl(h:ObjIs K ι k H p o u):ClO k o:=by
 cases o with
 |lst ds=>obtain⟨vs,_,h⟩:=h;exact h.cl
 |dK l=>obtain⟨r,_,h⟩:=h;exact h.cl
 |dC l=>obtain⟨r,_,h⟩:=h;exact h.cl
 |ins c l=>obtain⟨C,dx,r,_,_,_,h⟩:=h;exact h.cl
 |dP w l=>obtain⟨r,_,h⟩:=h;exact h.cl
theorem ObjIs.down(hk:k<=k')(c:ClO k o)(h:ObjIs K ι k' H p o u):ObjIs K ι k H p o u:=by
 cases o with
 |lst ds=>obtain⟨vs,e,h⟩:=h;exact⟨vs,e,h.down hk c⟩
 |dK l=>obtain⟨r,e,h⟩:=h;exact⟨r,e,h.down hk c⟩
 |dC l=>obtain⟨r,e,h⟩:=h;exact⟨r,e,h.down hk c⟩
 |ins n l=>obtain⟨C,dx,r,e,h0,h1,h⟩:=h;exact⟨C,dx,r,e,h0,h1,h.down hk c⟩
 |dP w l=>obtain⟨r,e,h⟩:=h;exact⟨r,e,h.down hk c.1 c.2⟩
end
def dc(μ2 μ':Mh)(d' d:D):Prop:=(d'=d/\Cl μ'.length d)∨∃n ds,d'=.ref n/\μ2[n]?=some (.lst ds)/\μ'.length<=n/\d=.lst ds/\ClL μ'.length ds
structure J7(μ μ2 μ':Mh)(d' d:D):Prop where
 grow:∃g,μ2=μ'++g
 le:μ.length<=μ'.length
 old:∀(n:Nat) (o:MO),μ'[n]?=some o->μ[n]?=some o∨ClO μ'.length o
 conv:dc μ2 μ' d' d
def JL:Fl->D
 | .rt d=>d
 |_=>.non
theorem Tb(R:RelH K ι μ H)(E:Ext ι μ.length H ι2 μ2.length H2)(R2:RelH K ι2 μ2 H2)(t:J7 μ μ2 μ' d' d):
  Ext ι μ.length H ι2 μ'.length H2/\RelH K ι2 μ' H2/\∀v,Is K ι2 μ2.length H2 d' v->Is K ι2 μ'.length H2 d v:=by
 obtain⟨⟨g,hg⟩,le,old,conv⟩:=t;have hle:μ'.length<=μ2.length:=by rw[hg];simp
 have hget:∀(n:Nat) (o:MO),μ'[n]?=some o->μ2[n]?=some o:=λn o e=>by
  rw[hg,AAT (AAU.mp e).1];exact e
 refine⟨⟨le,E.agree,λn h1 h2=>E.fresh n h1 (AAN h2 hle),E.keep,E.was,E.there⟩,⟨λi j hi hj=>R2.inj i j (AAN hi hle) (AAN hj hle),λn o e=>?_⟩,λv iv=>?_⟩
 ·obtain⟨u,q,hq⟩:=R2.obj n o (hget n o e);refine⟨u,q,hq.down hle ?_⟩;rcases old n o e with z|z
  ·obtain⟨u0,_,h0⟩:=R.obj n o z;have c:=h0.cl;cases o with
   |lst ds=>exact clL_mono le c
   |dK l=>exact clL_mono le c
   |dC l=>exact clL_mono le c
   |ins n l=>exact clL_mono le c
   |dP w l=>exact⟨clL_mono le c.1,clL_mono le c.2⟩
  ·exact z
 ·rcases conv with ⟨rfl,c⟩|⟨n,ds,rfl,hn,hle2,rfl,c⟩
  ·exact iv.down hle c
  ·obtain⟨u,q,vs,rfl,il⟩:=R2.obj n _ hn;have hn2:n<μ2.length:=(AAU.mp hn).1;unfold Is at iv ⊢;refine⟨ι2 n,vs,iv.2,q,λm hm z=>?_,il.down hle c⟩;have:=R2.inj m n (AAN hm hle) hn2 z;omega
where
 cl_mono {k k':Nat} (h:k<=k'):∀{d:D},Cl k d->Cl k' d
  | .non,_=>by unfold Cl;trivial
  | .bl _,_=>by unfold Cl;trivial
  | .int _,_=>by unfold Cl;trivial
  | .str _,_=>by unfold Cl;trivial
  | .ty _,_=>by unfold Cl;trivial
  | .scr _,_=>by unfold Cl;trivial
  | .tup ds,c=>by unfold Cl at c ⊢;exact clL_mono h c
  | .lst ds,c=>by unfold Cl at c ⊢;exact clL_mono h c
  | .ref n,c=>by unfold Cl at c ⊢;exact AAN c h
 clL_mono {k k':Nat} (h:k<=k'):∀{ds:List D},ClL k ds->ClL k' ds
  |[],_=>by unfold ClL;trivial
  |_::_,c=>by unfold ClL at c ⊢;exact⟨cl_mono h c.1,clL_mono h c.2⟩
noncomputable def Bi(n:Nat)(ds:List D):Sl:=ds.map some++List.replicate (n-ds.length) none
theorem RelS.start(i:IsL K ι k H ds vs):RelS K ι k H (Bi N.length ds) (L2.start N vs):=by
 have hl:=i.length;refine⟨by simp[Bi,L2.start,hl],λj d e=>?_⟩;unfold Bi at e;unfold L2.start;rcases Nat.lt_or_ge j ds.length with z|z
 ·rw[AAT (by simpa using z),AAW] at e;rw[AAT (by simpa[hl] using z),AAW];cases q:ds[j]? with
  |none=>rw[q] at e;cases e
  |some d0=>
   rw[q] at e;cases e;obtain⟨v,ev,iv⟩:=i.get q;exact⟨v,by rw[ev];rfl,iv⟩
 ·rw[AAS (by simpa using z),List.getElem?_replicate] at e;split at e<;>cases e
theorem K9(F:Fun K x qual st f fd)(S:Ae N ps (AO st))(hn:ps.length=n:=by rfl)
  (body:∀(cdv:Value) (A:Around) (outer:List Env) (s:Shared) (H:Hp) (E:XK),Room k (A.deeper (PyProof.Rows.envOfC qual (AO st) s.heap.objs.size f cdv))->RSs (IH CX0 P w K mg base N qual (AO st) f cdv A outer s H E).nox (Bq st) mb)
  (run:∀ds μ d μ',φ ds μ=some (d,μ')->∃fl τ2 μ2,mb (Bi N.length ds) μ=some ((fl,τ2),μ2)/\(fl=.next∨∃d,fl=.rt d)/\J7 μ μ2 μ' (JL fl) d):FnOk P w K mg base CX0 (k+1) f fd ps (spM K n φ):=by
 refine F.ok S (λvs H Q E h=>by rw[hn];exact h.1) (λcdv A outer s H vs Q E hr h=>⟨_,(body cdv A outer s H E hr).pe,?_⟩);obtain⟨hl,ι,μ,ds,d,μ',R,i,e,q⟩:=h;obtain⟨fl,τ2,μ2,e2,hfl,t⟩:=run ds μ d μ' e;refine⟨ι,μ,_,fl,τ2,μ2,R,RelS.start i,e2,λι2 H2 E2 R2 σ2 S2=>?_⟩;obtain⟨E3,R3,c⟩:=Tb R E2 R2 t;rcases hfl with rfl|⟨d0,rfl⟩
 ·exact q ι2 H2 E3 R3 _ (c _ (by unfold JL Is;rfl))
 ·exact λv iv=>q ι2 H2 E3 R3 v (c v iv)
end
def Bo:D->M (List D)
 | .lst ds=>ret ds
 | .scr ns=>ret (ns.map D.int)
 | .ref n=>λμ=>match μ[n]? with
  |some (.lst ds)=>some (ds,μ)
  |_=>none
 |_=>BG
section
variable{K:PySem.W.Frag}{ι:Nat->Addr}{μ μ':Mh}{H:Hp}{d:D}{v:V}{ds:List D}
theorem B6(R:RelH K ι μ H)(i:Is K ι μ.length H d v)(e:Bo d μ=some (ds,μ')):μ'=μ/\∃p vs,v=.ref p/\SqL K H p vs/\IsL K ι μ.length H ds vs:=by
 cases d with
 |lst es=>
  cases e;unfold Is at i;obtain⟨p,vs,rfl,h1,hn,h2⟩:=i;exact⟨rfl,p,vs,rfl,SqL.of h1,h2⟩
 |scr ns=>
  cases e;unfold Is at i;obtain⟨p,rfl,h1⟩:=i;exact⟨rfl,p,_,rfl,h1.sq,IsL.ofInts ns⟩
 |ref n=>
  unfold Is at i;obtain⟨hn,rfl⟩:=i;have e':(match μ[n]? with|some (.lst ds)=>some (ds,μ)|_=>none)=some (ds,μ'):=e;split at e'
  ·rename_i es hq;cases e';obtain⟨u,h1,vs,rfl,h2⟩:=R.obj n _ hq;exact⟨rfl,_,vs,rfl,SqL.of h1,h2⟩
  ·cases e'
 |_=>cases e
theorem Bw(h:Is K ι μ.length H (.int i) v):v=.int i:=by unfold Is at h;exact h
theorem Ci(h:Is K ι μ.length H (.str i) v):v=.str i:=by unfold Is at h;exact h
theorem U8(h:Is K ι μ.length H (.bl i) v):v=.bl i:=by unfold Is at h;exact h
theorem Ox(h:Is K ι μ.length H .non v):v=.non:=by unfold Is at h;exact h
theorem cF(h:Is K ι μ.length H (.ty n) v):v=.ty n:=by unfold Is at h;exact h
theorem ofI(i:Int):Is K ι k H (.int i) (.int i):=by unfold Is;rfl
theorem ofS(i:Str):Is K ι k H (.str i) (.str i):=by unfold Is;rfl
theorem ofB(i:Bool):Is K ι k H (.bl i) (.bl i):=by unfold Is;rfl
theorem ofN:Is K ι k H .non .non:=by unfold Is;rfl
theorem HL(h:IsL K ι k H [d] vs):∃v,vs=[v]/\Is K ι k H d v:=by
 unfold IsL at h;obtain⟨v,vs',rfl,h1,h2⟩:=h;unfold IsL at h2;subst h2;exact⟨v,rfl,h1⟩
theorem aU(h:IsL K ι k H [d,d'] vs):∃v v',vs=[v,v']/\Is K ι k H d v/\Is K ι k H d' v':=by
 unfold IsL at h;obtain⟨v,vs',rfl,h1,h2⟩:=h;obtain⟨v',rfl,h3⟩:=HL h2;exact⟨v,v',rfl,h1,h3⟩
theorem ai(h:IsL K ι k H ds vs)(e:atI ds i=some d):∃v,atI vs i=some v/\Is K ι k H d v:=by
 unfold atI at e ⊢;rw[h.length];cases q:ixN ds.length i with
 |none=>rw[q] at e;cases e
 |some j=>
  rw[q] at e;exact h.get e
theorem VX(h:IsL K ι k H ds vs):IsL K ι k H ((ds.drop (HT.sIx ds.length 0 lo)).take (HT.sIx ds.length ds.length hi-HT.sIx ds.length 0 lo)) (Nz vs lo hi):=by
 unfold Nz;rw[h.length];exact(h.drop _).take _
end
noncomputable def L6(C:Int->Int->Prop)[∀i j,Decidable (C i j)](g:Int->Int->D):D->D->M D
 | .int i,.int j=>λμ=>if C i j then some (g i j,μ) else none
 |_,_=>BG
noncomputable def Kk:D->D->M D:=L6 (λ_ _=>True) λi j=>.int (i-j)
noncomputable def DS:D->D->M D:=L6 (λ_ j=>0<j/\j<1073741824) λi j=>.int (i / j)
noncomputable def C1:D->D->M D:=L6 (λ_ j=>0<j) λi j=>.int (i % j)
noncomputable def UK:D->D->M D:=L6 (λi j=>0<=j/\j<=1000000/\i.natAbs<2 ^ 64) λi j=>.int (i ^ j.toNat)
noncomputable def NE:D->D->M D:=L6 (λ_ _=>True) λi j=>.bl (decide (i<j))
noncomputable def Ra:D->D->M D:=L6 (λ_ _=>True) λi j=>.bl (decide (i<=j))
noncomputable def NF:D->D->M D:=L6 (λ_ _=>True) λi j=>.bl (decide (j<i))
noncomputable def Rb:D->D->M D:=L6 (λ_ _=>True) λi j=>.bl (decide (j<=i))
section
variable{X:Cx}
theorem FF[∀i j,Decidable (C i j)](hg:∀i j ι k H,Is X.K ι k H (g i j) (gv i j))(ho:OpR X f (rI C gv)):OpR X f (rM X.K (L6 C g)):=OpR.wk ho λx y H Q h=>by
 obtain⟨ι,μ,a,b,d,μ',R,ia,ib,e,q⟩:=h;cases a with
 |int i=>
  cases b with
  |int j=>
   have e':(if C i j then some (g i j,μ) else none)=some (d,μ'):=e;split at e'
   ·rename_i hc;cases e';exact⟨i,j,Bw ia,Bw ib,hc,q ι H R.ext0 R _ (hg i j _ _ _)⟩
   ·cases e'
  |_=>cases e
 |_=>cases e
theorem OpR.ofI0(ho:OpR X f (rI0 gv)):OpR X f (rI (λ_ _=>True) gv):=OpR.wk ho λx y H Q h=>by
 obtain⟨i,j,h1,h2,_,q⟩:=h;exact⟨i,j,h1,h2,q⟩
theorem Uo:OpR X (binaryOp .Sub) (rM X.K Kk):=FF (λ_ _ _ _ _=>ofI _) (OpR.ofI0 Z2)
theorem HB:OpR X (binaryOp .FloorDiv) (rM X.K DS):=FF (λ_ _ _ _ _=>ofI _) Xf
theorem FE:OpR X (binaryOp .Mod) (rM X.K C1):=FF (λ_ _ _ _ _=>ofI _) Z7
theorem bp:OpR X (binaryOp .Pow) (rM X.K UK):=FF (λ_ _ _ _ _=>ofI _) Z4
theorem Xj:OpR X (compareOp .Lt) (rM X.K NE):=FF (λ_ _ _ _ _=>ofB _) (OpR.ofI0 be)
theorem Xk:OpR X (compareOp .LtE) (rM X.K Ra):=FF (λ_ _ _ _ _=>ofB _) (OpR.ofI0 bh)
theorem bu:OpR X (compareOp .Gt) (rM X.K NF):=FF (λ_ _ _ _ _=>ofB _) (OpR.ofI0 bj)
theorem aC:OpR X (compareOp .GtE) (rM X.K Rb):=FF (λ_ _ _ _ _=>ofB _) (OpR.ofI0 bm)
noncomputable def FC:D->M D
 | .int i=>ret (.int (-i))
 |_=>BG
theorem NL:UnR X (unaryOp .USub) (rM1 X.K FC):=λpins s σ H x v Q I r h=>by
 obtain⟨ι,μ,a,d,μ',R,ia,e,q⟩:=h;cases a with
 |int i=>
  cases e;have z:=Bw ia;subst z;exact ZK pins s σ H _ v Q I r ⟨i,rfl,q ι H R.ext0 R _ (ofI _)⟩
 |_=>cases e
noncomputable def UL:D->D->M D
 | .int i,.int j=>ret (.int (i+j))
 | .str i,.str j=>bnd (lim (i.length+j.length)) λ_=>ret (.str (i++j))
 | .lst a,.lst b=>BM (a++b)
 | .tup [],.tup b=>BG
 | .tup (a::as),.tup b=>As (a::as++b)
 |_,_=>BG
theorem bv:OpR X (binaryOp .Add) (rM X.K UL):=λpins s σ H x y v u Q I rx ry h=>by
 obtain⟨ι,μ,a,b,d,μ',R,ia,ib,e,q⟩:=h;unfold UL at e;split at e
 ·cases e;cases Bw ia;cases Bw ib;exact aA pins s σ H _ _ v u Q I rx ry ⟨_,_,rfl,rfl,q ι H R.ext0 R _ (ofI _)⟩
 ·obtain⟨_,μ1,e1,e2⟩:=AI e;obtain⟨hl,rfl⟩:=C4 e1;cases e2;cases Ci ia;cases Ci ib;exact Ol pins s σ H _ _ v u Q I rx ry ⟨_,_,rfl,rfl,hl,q ι H R.ext0 R _ (ofS _)⟩
 ·unfold Is at ia ib;obtain⟨p,vs,rfl,h1,hn,h2⟩:=ia;obtain⟨p',vs',rfl,h1',hn',h2'⟩:=ib;obtain⟨hl,w⟩:=Ca R (h2.append h2') e q;exact Um pins s σ H _ _ v u Q I rx ry ⟨p,p',vs,vs',rfl,rfl,h1,h1',by rw[←AAH];exact hl,w⟩
 ·cases e
 ·rename_i a as bs;unfold Is at ia ib;obtain⟨p,vs,rfl,h1,h2⟩:=ia;obtain⟨p',vs',rfl,h1',h2'⟩:=ib;obtain⟨hl,w⟩:=QR R (h2.append h2') e q;refine Xg pins s σ H _ _ v u Q I rx ry ⟨p,p',vs,vs',rfl,rfl,h1,h1',λz=>?_,by rw[←AAH];exact hl,λz=>?_,λ_=>w⟩
  ·have:=h2.length;rw[z] at this;cases this
  ·subst z;have hb:bs=[]:=by
    have:=h2'.length;cases bs with
    |nil=>rfl
    |cons _ _=>cases this
   subst hb;obtain⟨_,μ1,e1,e2⟩:=AI e;obtain⟨hl,rfl⟩:=C4 e1;cases e2;exact q ι H R.ext0 R _ (by unfold Is;exact⟨p,vs,rfl,h1,by rw[AAb];exact h2⟩)
 ·cases e
noncomputable def GP:D->D->M D
 | .int i,.int j=>λμ=>if (-(2 ^ 64)<i/\i<2 ^ 64)∨(-(2 ^ 64)<j/\j<2 ^ 64) then some (.int (i * j),μ) else none
 | .lst a,.int j=>λμ=>if -(2 ^ 63)<=j/\j<2 ^ 63/\a.length * j.toNat<=sizeLine then BM (List.replicate j.toNat a).flatten μ else none
 |_,_=>BG
theorem IsL.rep(h:IsL K ι k H ds vs):∀n:Nat,IsL K ι k H (List.replicate n ds).flatten (List.replicate n vs).flatten
 |0=>.nil
 |n+1=>by
  rw[AAn,AAn,List.flatten_cons,List.flatten_cons];exact h.append (IsL.rep h n)
theorem NM:OpR X (binaryOp .Mult) (rM X.K GP):=λpins s σ H x y v u Q I rx ry h=>by
 obtain⟨ι,μ,a,b,d,μ',R,ia,ib,e,q⟩:=h;unfold GP at e;split at e
 ·split at e
  ·rename_i hc;cases e;cases Bw ia;cases Bw ib;exact Z6 pins s σ H _ _ v u Q I rx ry ⟨_,_,rfl,rfl,hc,q ι H R.ext0 R _ (ofI _)⟩
  ·cases e
 ·split at e
  ·rename_i hc;cases Bw ib;unfold Is at ia;obtain⟨p,vs,rfl,h1,hn,h2⟩:=ia;obtain⟨hl,w⟩:=Ca R (h2.rep _) e q;exact Z3 pins s σ H _ _ v u Q I rx ry ⟨p,_,vs,rfl,rfl,h1,hc.1,hc.2.1,by rw[h2.length];exact hc.2.2,w⟩
  ·cases e
 ·cases e
mutual
def toP(μ:Mh):D->Option PyData
 | .non=>some .none
 | .bl b=>some (.bool b)
 | .int i=>some (.int i)
 | .str x=>some (.str x)
 | .ty _=>none
 | .scr ns=>some (.list (ns.map PyData.int))
 | .tup ds=>(Fx μ ds).map PyData.tuple
 | .lst ds=>(Fx μ ds).map PyData.list
 | .ref _=>none
def Fx(μ:Mh):List D->Option (List PyData)
 |[]=>some []
 |d::ds=>(toP μ d).bind λp=>(Fx μ ds).map (p::·)
end
def KD(μ:Mh):D->Option PyData
 | .ref n=>match μ[n]? with
  |some (.lst ds)=>(Fx μ ds).map PyData.list
  |_=>none
 |d=>toP μ d
section
variable{K:PySem.W.Frag}{ι:Nat->Addr}{μ:Mh}{H:Hp}{k:Nat}
theorem Qu:∀(ns:List Int),DatVs K H (ns.map V.int) (ns.map PyData.int)
 |[]=>.nil
 |n::r=>.cons (.int n) (Qu r)
mutual
theorem Is.dat:∀{d:D} {v:V} {p:PyData},Is K ι k H d v->toP μ d=some p->DatV K H v p
 | .non,_,_,h,e=>by unfold Is at h;unfold toP at e;cases e;subst h;exact .non
 | .bl b,_,_,h,e=>by unfold Is at h;unfold toP at e;cases e;subst h;exact .bl b
 | .int b,_,_,h,e=>by unfold Is at h;unfold toP at e;cases e;subst h;exact .int b
 | .str b,_,_,h,e=>by unfold Is at h;unfold toP at e;cases e;subst h;exact .str b
 | .ty b,_,_,h,e=>by unfold toP at e;cases e
 | .scr ns,_,_,h,e=>by
  unfold Is at h;unfold toP at e;cases e;obtain⟨p,rfl,h⟩:=h;exact .lst h.sq (Qu ns)
 | .tup ds,_,_,h,e=>by
  unfold Is at h;unfold toP at e;obtain⟨p,vs,rfl,h1,h2⟩:=h;cases q:Fx μ ds with
  |none=>rw[q] at e;cases e
  |some ps=>rw[q] at e;cases e;exact .tup h1 (IsL.dat h2 q)
 | .lst ds,_,_,h,e=>by
  unfold Is at h;unfold toP at e;obtain⟨p,vs,rfl,h1,_,h2⟩:=h;cases q:Fx μ ds with
  |none=>rw[q] at e;cases e
  |some ps=>rw[q] at e;cases e;exact .lst (SqL.of h1) (IsL.dat h2 q)
 | .ref n,_,_,h,e=>by unfold toP at e;cases e
theorem IsL.dat:∀{ds:List D} {vs:List V} {ps:List PyData},IsL K ι k H ds vs->Fx μ ds=some ps->DatVs K H vs ps
 |[],_,_,h,e=>by unfold IsL at h;unfold Fx at e;cases e;subst h;exact .nil
 |d::ds,_,_,h,e=>by
  unfold IsL at h;unfold Fx at e;obtain⟨v,vs',rfl,h1,h2⟩:=h;cases q:toP μ d with
  |none=>rw[q] at e;cases e
  |some p=>
   rw[q] at e;cases q2:Fx μ ds with
   |none=>rw[q2] at e;cases e
   |some ps=>rw[q2] at e;cases e;exact .cons (Is.dat h1 q) (IsL.dat h2 q2)
end
theorem YN(R:RelH K ι μ H)(h:Is K ι μ.length H d v)(e:KD μ d=some p):DatV K H v p:=by
 cases d with
 |ref n=>
  unfold Is at h;obtain⟨_,rfl⟩:=h;have e':(match μ[n]? with|some (.lst ds)=>(Fx μ ds).map PyData.list|_=>none)=some p:=e;split at e'
  ·rename_i ds hq;obtain⟨u,h1,vs,rfl,h2⟩:=R.obj n _ hq;cases q:Fx μ ds with
   |none=>rw[q] at e';cases e'
   |some ps=>rw[q] at e';cases e';exact .lst (SqL.of h1) (IsL.dat h2 q)
  ·cases e'
 |_=>exact Is.dat (μ:=μ) h e
end
def GQ(neg:Bool)(a b:D):M D:=λμ=>match KD μ a,KD μ b with
 |some p,some q=>if SeqAt.shaped p=true/\SeqAt.shaped q=true then some (.bl (if neg then !PyData.eqv p q else PyData.eqv p q),μ) else none
 |_,_=>none
def A7:D->D->M D:=GQ false
def Ce:D->D->M D:=GQ true
theorem JO(e:GQ neg a b μ=some (d,μ')):∃p q,KD μ a=some p/\KD μ b=some q/\SeqAt.shaped p=true/\SeqAt.shaped q=true/\d=.bl (if neg then !PyData.eqv p q else PyData.eqv p q)/\μ'=μ:=by
 unfold GQ at e;split at e
 ·rename_i p q e1 e2;split at e
  ·rename_i h;cases e;exact⟨p,q,e1,e2,h.1,h.2,rfl,rfl⟩
  ·cases e
 ·cases e
theorem BV(hr:Room k X.A):OpR X (compareOp .Eq) (rM X.K A7):=OpR.wk (Z9 (T0 hr)) λx y H Q h=>by
 obtain⟨ι,μ,a,b,d,μ',R,ia,ib,e,q⟩:=h;obtain⟨p,p',e1,e2,s1,s2,rfl,rfl⟩:=JO e;exact⟨p,p',YN R ia e1,YN R ib e2,s1,s2,q ι H R.ext0 R _ (ofB _)⟩
theorem IE(hr:Room k X.A):OpR X (compareOp .NotEq) (rM X.K Ce):=OpR.wk (Z5 (T0 hr)) λx y H Q h=>by
 obtain⟨ι,μ,a,b,d,μ',R,ia,ib,e,q⟩:=h;obtain⟨p,p',e1,e2,s1,s2,rfl,rfl⟩:=JO e;exact⟨p,p',YN R ia e1,YN R ib e2,s1,s2,q ι H R.ext0 R _ (ofB _)⟩
def isN:D->Bool
 | .non=>true
 |_=>false
noncomputable def DK(neg:Bool):D->D->M D
 |a,.non=>ret (.bl (if neg then !isN a else isN a))
 |_,_=>BG
theorem Qm(h:Is K ι k H a x):decide (x=V.non)=isN a:=by
 cases a with
 |non=>unfold Is at h;subst h;rfl
 |bl b=>unfold Is at h;subst h;rfl
 |int b=>unfold Is at h;subst h;rfl
 |str b=>unfold Is at h;subst h;rfl
 |ty b=>unfold Is at h;subst h;rfl
 |scr ns=>unfold Is at h;obtain⟨p,rfl,_⟩:=h;rfl
 |tup ns=>unfold Is at h;obtain⟨p,o,rfl,_⟩:=h;rfl
 |lst ns=>unfold Is at h;obtain⟨p,o,rfl,_⟩:=h;rfl
 |ref ns=>unfold Is at h;obtain⟨_,rfl⟩:=h;rfl
theorem Ly:OpR X (compareOp .Is) (rM X.K (DK false)):=OpR.wk Z8 λx y H Q h=>by
 obtain⟨ι,μ,a,b,d,μ',R,ia,ib,e,q⟩:=h;cases b with
 |non=>cases e;exact⟨Ox ib,by rw[Qm ia];exact q ι H R.ext0 R _ (ofB _)⟩
 |_=>cases e
theorem IT:OpR X (compareOp .IsNot) (rM X.K (DK true)):=OpR.wk Xe λx y H Q h=>by
 obtain⟨ι,μ,a,b,d,μ',R,ia,ib,e,q⟩:=h;cases b with
 |non=>cases e;exact⟨Ox ib,by rw[Qm ia];exact q ι H R.ext0 R _ (ofB _)⟩
 |_=>cases e
noncomputable def LB:D->Option V
 | .non=>some .non
 | .bl b=>some (.bl b)
 | .int i=>some (.int i)
 | .str x=>some (.str x)
 |_=>none
noncomputable def F7:List D->Option (List V)
 |[]=>some []
 |d::ds=>(LB d).bind λv=>(F7 ds).map (v::·)
section
variable{K:PySem.W.Frag}{ι:Nat->Addr}{H:Hp}{k:Nat}
theorem Jp(h:Is K ι k H d x)(e:LB d=some v):x=v/\DU v=true:=by
 cases d with
 |non=>cases e;unfold Is at h;exact⟨h,rfl⟩
 |bl b=>cases e;unfold Is at h;exact⟨h,rfl⟩
 |int b=>cases e;unfold Is at h;exact⟨h,rfl⟩
 |str b=>cases e;unfold Is at h;exact⟨h,rfl⟩
 |_=>cases e
theorem HS:∀{ds:List D} {vs xs:List V},IsL K ι k H ds xs->F7 ds=some vs->xs=vs/\vs.all DU=true
 |[],_,_,h,e=>by cases e;unfold IsL at h;exact⟨h,rfl⟩
 |d::ds,_,_,h,e=>by
  unfold IsL at h;obtain⟨v,vs',rfl,h1,h2⟩:=h;unfold F7 at e;cases q:LB d with
  |none=>rw[q] at e;cases e
  |some w=>
   rw[q] at e;cases q2:F7 ds with
   |none=>rw[q2] at e;cases e
   |some ws=>
    rw[q2] at e;cases e;obtain⟨rfl,f1⟩:=Jp h1 q;obtain⟨rfl,f2⟩:=HS h2 q2;exact⟨rfl,by rw[List.all_cons,f1,f2];rfl⟩
end
noncomputable def BU:D->M (List D)
 | .tup ds=>ret ds
 |d=>Bo d
theorem DO(R:RelH K ι μ H)(i:Is K ι μ.length H d v)(e:BU d μ=some (ds,μ')):μ'=μ/\∃p vs,v=.ref p/\(SqL K H p vs∨SqT K H p vs)/\IsL K ι μ.length H ds vs:=by
 cases d with
 |tup es=>
  cases e;unfold Is at i;obtain⟨p,vs,rfl,h1,h2⟩:=i;exact⟨rfl,p,vs,rfl,.inr h1,h2⟩
 |lst es=>obtain⟨h,p,vs,a,b,c⟩:=B6 R i e;exact⟨h,p,vs,a,.inl b,c⟩
 |scr es=>obtain⟨h,p,vs,a,b,c⟩:=B6 R i e;exact⟨h,p,vs,a,.inl b,c⟩
 |ref es=>obtain⟨h,p,vs,a,b,c⟩:=B6 R i e;exact⟨h,p,vs,a,.inl b,c⟩
 |_=>cases e
noncomputable def Qp(neg:Bool)(a b:D):M D:=bnd (BU b) λds=>λμ=>match LB a,F7 ds with
 |some x,some xs=>some (.bl (if neg then !inV x xs else inV x xs),μ)
 |_,_=>none
noncomputable def KH(neg:Bool):D->D->M D
 | .str i,.str j=>ret (.bl (if neg then !(!(Builtin.Str.occurrences j i 0 j.length 1).isEmpty) else !(Builtin.Str.occurrences j i 0 j.length 1).isEmpty))
 |a,b=>Qp neg a b
theorem UJ(R:RelH K ι μ H)(ia:Is K ι μ.length H a x)(ib:Is K ι μ.length H b y)(e:Qp neg a b μ=some (d,μ'))(q:Aft K ι μ H μ' λι' H'=>∀v,Is K ι' μ'.length H' d v->Q v H'):rIn K neg x y H Q:=by
 obtain⟨ds,μ1,e1,e2⟩:=AI e;obtain⟨hm,p,vs,rfl,h1,h2⟩:=DO R ib e1;subst hm;split at e2
 ·rename_i w ws q1 q2;cases e2;obtain⟨rfl,f1⟩:=Jp ia q1;obtain⟨rfl,f2⟩:=HS h2 q2;exact⟨p,_,rfl,h1,f1,f2,q ι H R.ext0 R _ (ofB _)⟩
 ·cases e2
theorem br:OpR X (compareOp .In) (rM X.K (KH false)):=λpins s σ H x y v u Q I rx ry h=>by
 obtain⟨ι,μ,a,b,d,μ',R,ia,ib,e,q⟩:=h;unfold KH at e;split at e
 ·cases e;cases Ci ia;cases Ci ib;exact Rj pins s σ H _ _ v u Q I rx ry ⟨_,_,rfl,rfl,q ι H R.ext0 R _ (ofB _)⟩
 ·exact Rk pins s σ H _ _ v u Q I rx ry (UJ R ia ib e q)
theorem QN:OpR X (compareOp .NotIn) (rM X.K (KH true)):=λpins s σ H x y v u Q I rx ry h=>by
 obtain⟨ι,μ,a,b,d,μ',R,ia,ib,e,q⟩:=h;unfold KH at e;split at e
 ·cases e;cases Ci ia;cases Ci ib;exact Lw pins s σ H _ _ v u Q I rx ry ⟨_,_,rfl,rfl,q ι H R.ext0 R _ (ofB _)⟩
 ·exact Lx pins s σ H _ _ v u Q I rx ry (UJ R ia ib e q)
noncomputable def ixD(ds:List D)(i:Int):M D:=λμ=>(atI ds i).map λd=>(d,μ)
noncomputable def AM:D->D->M D
 | .str z,.int i=>λμ=>if z.length<=sizeLine then (atI z.cps.toList i).map λc=>(.str ⟨#[c]⟩,μ) else none
 |a,.int i=>bnd (BU a) λds=>ixD ds i
 |_,_=>BG
theorem AQ:IxR X (rM X.K AM):=λva sl pins s σ H x y v u Q I rx ry h hsl=>by
 obtain⟨ι,μ,a,b,d,μ',R,ia,ib,e,q⟩:=h;unfold AM at e;split at e
 ·split at e
  ·rename_i z i hl;cases Ci ia;cases Bw ib;cases qq:atI z.cps.toList i with
   |none=>rw[qq] at e;cases e
   |some c=>
    rw[qq] at e;cases e;exact Ov va sl pins s σ H _ _ v u Q I rx ry (.inr (.inr ⟨z,i,c,rfl,rfl,hl,qq,q ι H R.ext0 R _ (ofS _)⟩)) hsl
  ·cases e
 ·cases Bw ib;obtain⟨ds,μ1,e1,e2⟩:=AI e;obtain⟨hm,p,vs,rfl,h1,h2⟩:=DO R ia e1;subst hm;rename_i i _;unfold ixD at e2;cases qq:atI ds i with
  |none=>rw[qq] at e2;cases e2
  |some c=>
   rw[qq] at e2;cases e2;obtain⟨w,ew,iw⟩:=ai h2 qq;rcases h1 with h1|h1
   ·exact Ov va sl pins s σ H _ _ v u Q I rx ry (.inl ⟨p,vs,i,w,rfl,rfl,h1,ew,q ι H R.ext0 R _ iw⟩) hsl
   ·exact Ov va sl pins s σ H _ _ v u Q I rx ry (.inr (.inl ⟨p,vs,i,w,rfl,rfl,h1,ew,q ι H R.ext0 R _ iw⟩)) hsl
 ·cases e
noncomputable def Jf:List D->M D
 |[.str z]=>λμ=>if z.length<=sizeLine then some (.int z.length,μ) else none
 |[.ref n]=>λμ=>match μ[n]? with
  |some (.lst ds)=>some (.int ds.length,μ)
  |_=>none
 |[d]=>bnd (BU d) λds=>ret (.int ds.length)
 |_=>BG
theorem Jz:CT X (.builtin "len") (rMA X.K Jf):=λpins s σ H xs us Q I r h=>by
 obtain⟨ι,μ,as,d,μ',R,ia,e,q⟩:=h;refine Vh pins s σ H xs us Q I r ?_;unfold Jf at e;split at e
 ·rename_i z;obtain⟨v,rfl,i1⟩:=HL ia;split at e
  ·rename_i hl;cases e;cases Ci i1;exact⟨_,_,rfl,⟨hl,rfl⟩,q ι H R.ext0 R _ (ofI _)⟩
  ·cases e
 ·rename_i n;obtain⟨v,rfl,i1⟩:=HL ia;unfold Is at i1;obtain⟨_,rfl⟩:=i1;split at e
  ·rename_i ds hq;cases e;obtain⟨u,h1,vs,rfl,h2⟩:=R.obj n _ hq;exact⟨_,_,rfl,.inl ⟨vs,SqL.of h1,rfl⟩,by rw[h2.length];exact q ι H R.ext0 R _ (ofI _)⟩
  ·cases e
 ·obtain⟨v,rfl,i1⟩:=HL ia;obtain⟨ds,μ1,e1,e2⟩:=AI e;obtain⟨hm,p,vs,rfl,h1,h2⟩:=DO R i1 e1;subst hm;cases e2;rw[←h2.length] at q;rcases h1 with h1|h1
  ·exact⟨_,_,rfl,.inl ⟨vs,h1,rfl⟩,q ι H R.ext0 R _ (ofI _)⟩
  ·exact⟨_,_,rfl,.inr ⟨vs,h1,rfl⟩,q ι H R.ext0 R _ (ofI _)⟩
 ·cases e
noncomputable def Gh(ds:List D)(lo hi:Option Int):List D:=(ds.drop (HT.sIx ds.length 0 lo)).take (HT.sIx ds.length ds.length hi-HT.sIx ds.length 0 lo)
noncomputable def bU(lo hi:Option Int):D->M D
 | .tup ds=>if HT.sIx ds.length 0 lo=0/\HT.sIx ds.length ds.length hi=ds.length then BG else ret (.tup (Gh ds lo hi))
 |d=>bnd (Bo d) λds=>ret (.lst (Gh ds lo hi))
noncomputable def rMS(K:PySem.W.Frag):V->Option Int->Option Int->Hp->VK->Prop:=λx lo hi H Q=>∃ι μ a d μ',RelH K ι μ H/\Is K ι μ.length H a x/\bU lo hi a μ=some (d,μ') /\
 Aft K ι μ H μ' λι' H'=>∀v,Is K ι' μ'.length H' d v->Q v H'
theorem Qd{K:PySem.W.Frag}{ι:Nat->Addr}{μ:Mh}{vs:List V}{Q:VK}(R:RelH K ι μ H)(i:IsL K ι μ.length H ds vs)(q:Aft K ι μ H μ λι' H'=>∀v,Is K ι' μ.length H' (.lst ds) v->Q v H')(p:Addr)(hp:H p=none):Q (.ref p) (upd H p (.lst vs)):=by
 obtain⟨E1,R1⟩:=R.laid (.lst vs) hp;have ho:∀n,n<μ.length->ι n≠p:=λn hn z=>by
  obtain⟨o,e,_⟩:=R.muts n hn;rw[z,hp] at e;cases e
 exact q ι _ E1 R1 _ (by unfold Is;exact⟨p,vs,rfl,BK,ho,i.ext E1⟩)
theorem NY{K:PySem.W.Frag}{ι:Nat->Addr}{μ:Mh}{vs:List V}{Q:VK}(R:RelH K ι μ H)(i:IsL K ι μ.length H ds vs)(q:Aft K ι μ H μ λι' H'=>∀v,Is K ι' μ.length H' (.tup ds) v->Q v H')(p:Addr)(hp:H p=none):Q (.ref p) (upd H p (.tup vs)):=by
 obtain⟨E1,R1⟩:=R.laid (.tup vs) hp;exact q ι _ E1 R1 _ (by unfold Is;exact⟨p,vs,rfl,SqT.of BK,i.ext E1⟩)
theorem dF:SlR X (rMS X.K):=λpins s σ H x v vl vu lo hi sl Q I rx hs pl pu h=>by
 obtain⟨ι,μ,a,d,μ',R,ia,e,q⟩:=h;refine(SlR.or Wp ZU) pins s σ H x v vl vu lo hi sl Q I rx hs pl pu ?_;unfold bU at e;split at e
 ·rename_i ds;unfold Is at ia;obtain⟨p,vs,rfl,h1,h2⟩:=ia;split at e
  ·cases e
  ·rename_i hc;cases e;exact .inr ⟨p,vs,rfl,h1,by rw[h2.length];exact hc,λp hp=>NY R (VX h2) q p hp⟩
 ·obtain⟨ds,μ1,e1,e2⟩:=AI e;obtain⟨hm,p,vs,rfl,h1,h2⟩:=B6 R ia e1;subst hm;cases e2;exact .inl ⟨p,vs,rfl,h1,λp hp=>Qd R (VX h2) q p hp⟩
def Ch:Sl->M (Option Int):=λ_=>ret none
noncomputable def asI:D->M (Option Int)
 | .int i=>ret (some i)
 |_=>BG
noncomputable def EB(m:Sl->M D):Sl->M (Option Int):=λτ=>bnd (m τ) asI
noncomputable def tPt(K:PySem.W.Frag)(m:Sl->M (Option Int)):TO:=λσ H Q=>∃ι μ τ b μ',RelH K ι μ H/\RelS K ι μ.length H τ σ/\m τ μ=some (b,μ')/\Aft K ι μ H μ' λ_ H'=>Q b H'
structure RO(X:Cx)(e:Option Expr)(m:Sl->M (Option Int)):Prop where
 pe:PO X e (tPt X.K m)
theorem PO.wk(h:PO X e t)(w:∀σ H Q,t' σ H Q->t σ H Q):PO X e t':=λpins s σ H Q I q=>h pins s σ H Q I (w σ H Q q)
theorem RO.wk(h:PO X e t)(w:∀σ H Q,tPt X.K m σ H Q->t σ H Q):RO X e m:=⟨PO.wk h w⟩
theorem EK:RO X none Ch:=RO.wk XQ λσ H Q h=>by
 obtain⟨ι,μ,τ,b,μ',R,S,e,q⟩:=h;cases e;exact q ι H R.ext0 R
theorem EJ(h:RE X e m):RO X (some e) (EB m):=RO.wk (XO h.pe) λσ H Q h=>by
 obtain⟨ι,μ,τ,b,μ',R,S,e,q⟩:=h;obtain⟨x,μ1,e1,e⟩:=AI e;refine⟨ι,μ,τ,x,μ1,R,S,e1,λι1 H1 E1 R1 v i1=>?_⟩;cases x with
 |int i=>cases e;exact⟨i,Bw i1,q ι1 H1 E1 R1⟩
 |_=>cases e
noncomputable def tyD(μ:Mh):D->Option String
 | .non=>some "NoneType"
 | .bl _=>some "bool"
 | .int _=>some "int"
 | .str _=>some "str"
 | .tup _=>some "tuple"
 | .lst _=>some "list"
 | .scr _=>none
 | .ref n=>match μ[n]? with
  |some (.lst _)=>some "list"
  |some (.dK _)=>some "dict"
  |some (.dC _)=>none
  |some (.ins _ _)=>none
  |some (.dP _ _)=>none
  |none=>none
 | .ty _=>none
noncomputable def Qk(t T:String):Option Bool:=
 if t∈["NoneType", "bool", "int", "str", "tuple", "list", "dict"]/\T∈["bool", "int", "str", "tuple", "list", "dict"] then some (t==T||(t == "bool" && T == "int")) else none
theorem Xz(h:Qk t T=some b):PySem.W.kitOne K (.type t) (.type T)=some b:=by
 unfold Qk at h;split at h
 ·rename_i hm;obtain⟨h1,h2⟩:=hm;simp only[AAJ,List.not_mem_nil,or_false] at h1 h2;rcases h1 with rfl|rfl|rfl|rfl|rfl|rfl|rfl<;>rcases h2 with rfl|rfl|rfl|rfl|rfl|rfl<;>(cases h;kernel_rfl)
 ·cases h
noncomputable def Ng:List D->M D
 |[a,.ty T]=>λμ=>match tyD μ a with
  |some t=>(Qk t T).map λb=>(.bl b,μ)
  |none=>none
 |_=>BG
theorem PB:CT X (.builtin "isinstance") (rMA X.K Ng):=λpins s σ H xs us Q I r h=>by
 obtain⟨ι,μ,as,d,μ',R,ia,e,q⟩:=h;unfold Ng at e;split at e
 ·rename_i a T;obtain⟨v,v',rfl,i1,i2⟩:=aU ia;cases cF i2;split at e
  ·rename_i t ht;cases hk:Qk t T with
   |none=>rw[hk] at e;cases e
   |some b=>
    rw[hk] at e;cases e;have kit:=Xz (K:=X.K) hk;have fin:=q ι H R.ext0 R _ (ofB b);have byTy:Gn X.K H v (.type t)->wpAny (model X.prog X.w) X.A (call (.builtin "isinstance") us) (EP X pins σ Q) X.xe s:=λty=>
     N6 pins s σ H _ us Q I r ⟨v,T,_,b,rfl,ty,kit,fin⟩
    cases a with
    |non=>cases ht;cases Ox i1;exact byTy .non
    |bl x=>cases ht;cases U8 i1;exact byTy (.bl x)
    |int x=>cases ht;cases Bw i1;exact byTy (.int x)
    |str x=>cases ht;cases Ci i1;exact byTy (.str x)
    |ty n=>cases ht
    |lst ds=>cases ht;unfold Is at i1;obtain⟨p,vs,rfl,h1,_⟩:=i1;exact byTy (.lst h1)
    |scr ns=>cases ht
    |ref n=>
     unfold Is at i1;obtain⟨_,rfl⟩:=i1;have ht:(match μ[n]? with|some (.lst _)=>some "list" |some (.dK _)=>some "dict" |some (.dC _)=>none|some (.ins _ _)=>none|some (.dP _ _)=>none|none=>none)=some t:=ht;split at ht
     ·rename_i ds hq;cases ht;obtain⟨u,h1,vs,rfl,h2⟩:=R.obj n _ hq;exact byTy (.lst h1)
     ·rename_i ds hq;cases ht;obtain⟨u,h1,vs,rfl,h2⟩:=R.obj n _ hq;exact byTy (.dK h1)
     ·cases ht
     ·cases ht
     ·cases ht
     ·cases ht
    |tup ds=>
     cases ht;unfold Is at i1;obtain⟨p,vs,rfl,h1,h2⟩:=i1;obtain⟨its,_,⟨o,g1,g2,_⟩,_⟩:=I.tuple h1;obtain⟨u1,u2,rfl,r1,r2⟩:=Vals.two r;cases r1;cases r2;exact PySem.W.kia_one PySem.W.kitx_tuple I.kIn ⟨o,g1,g2⟩ kit (λz=>nomatch z) λtk=>⟨.bl b,H,I.tok _,rfl,fin⟩
  ·cases e
 ·cases e
noncomputable def VA:List D->M D
 |[.int i]=>ret (.int i)
 |[.bl b]=>ret (.int (if b then 1 else 0))
 |_=>BG
theorem cU:CT X (.type "int") (rMA X.K VA):=λpins s σ H xs us Q I r h=>by
 obtain⟨ι,μ,as,d,μ',R,ia,e,q⟩:=h;refine SK pins s σ H xs us Q I r ?_;unfold VA at e;split at e
 ·obtain⟨v,rfl,i1⟩:=HL ia;cases e;cases Bw i1;exact .inl ⟨_,rfl,q ι H R.ext0 R _ (ofI _)⟩
 ·obtain⟨v,rfl,i1⟩:=HL ia;cases e;cases U8 i1;exact .inr ⟨_,rfl,q ι H R.ext0 R _ (ofI _)⟩
 ·cases e
noncomputable def C9:List D->M D
 |[.tup ds]=>ret (.tup ds)
 |[d]=>bnd (Bo d) λds=>ret (.tup ds)
 |_=>BG
theorem Ee:CT X (.type "tuple") (rMA X.K C9):=λpins s σ H xs us Q I r h=>by
 obtain⟨ι,μ,as,d,μ',R,ia,e,q⟩:=h;unfold C9 at e;split at e
 ·obtain⟨v,rfl,i1⟩:=HL ia;cases e;have i2:=i1;unfold Is at i1;obtain⟨p,vs,rfl,h1,h2⟩:=i1;exact N4 pins s σ H _ us Q I r ⟨p,vs,rfl,h1,q ι H R.ext0 R _ i2⟩
 ·obtain⟨v,rfl,i1⟩:=HL ia;obtain⟨ds,μ1,e1,e2⟩:=AI e;obtain⟨hm,p,vs,rfl,h1,h2⟩:=B6 R i1 e1;subst hm;cases e2;obtain⟨u,rfl,ru⟩:=Vals.one r;cases ru;obtain⟨its,rv,pl,hz⟩:=I.list h1;refine PySem.call_tuple_list pl.isList (λh' hk=>?_) (by rw[List.size_toArray,←rv.length];exact hz);have I1:Inv X pins σ H { s with heap:=h' }:=I.kept (t':=s.toks) hk;have I2:Inv X pins σ (upd H h'.objs.size (.tup vs)) { s with heap:=h'.push { cls:=.type "tuple",data:=.seq its.toArray } }:=I1.laid (t':=s.toks) (o:=.tup vs) (λb ob q=>AAC _ q) (AAF _) ⟨hz,its,rv,PyProof.Rows.IsTup.new _ _⟩;exact⟨.ref h'.objs.size,_,I2,rfl,NY R h2 q _ (I1.hok.fresh (AAF _))⟩
 ·cases e
end
section
variable{X:Cx}{e a b c o i f:Expr}{es:List Expr}{pos apos cpos:Pos}
theorem Tg(h:tE K (HF g g' ma mb mc) σ H Q):Th (rM K g) (rM K g') (tE K ma) (tE K mb) (tE K mc) σ H Q:=by
 obtain⟨ι,μ,τ,d,μ',R,S,e,q⟩:=h;obtain⟨x,μ1,e1,ee1⟩:=AI e;obtain⟨y,μ2,e2,ee2⟩:=AI ee1;obtain⟨z,μ3,e3,ee3⟩:=AI ee2;obtain⟨k,μ4,e4,ee4⟩:=AI ee3;obtain⟨hz,hm⟩:=J5 e4;subst hm;subst hz;refine⟨ι,μ,τ,x,μ1,R,S,e1,λι1 H1 E1 R1 v1 i1=>⟨ι1,μ1,τ,y,μ2,R1,S.ext E1,e2,λι2 H2 E2 R2 v2 i2=>?_⟩⟩;refine⟨ι2,μ2,x,y,_,_,R2,i1.ext E2,i2,e3,λι3 H3 E3 R3 v3 i3=>⟨k,U8 i3,?_⟩⟩;have E13:=(E1.trans E2).trans E3;cases k with
 |false=>cases ee4;exact q ι3 H3 E13 R3 _ (ofB _)
 |true=>
  obtain⟨w,μ5,e5,ee5⟩:=AI ee4;exact⟨ι3,_,τ,w,μ5,R3,S.ext E13,e5,λι4 H4 E4 R4 v4 i4=>⟨ι4,μ5,y,w,d,μ',R4,i2.ext (E3.trans E4),i4,ee5,λι5 H5 E5 R5=>q ι5 H5 ((E13.trans E4).trans E5) R5⟩⟩
theorem NC(ho:OpR X (compareOp op) (rM X.K g))(ho':OpR X (compareOp op') (rM X.K g'))(ha:RE X a ma)(hb:RE X b mb)(hc:RE X c mc)(hm:lastMarks [op,op'] [b,c]=false:=by with_unfolding_all rfl):
  RE X (.Compare a [op,op'] [b,c] pos) (HF g g' ma mb mc):=RE.wk (Ug ho ho' ha.pe hb.pe hc.pe hm) λ_ _ _ h=>Tg h
theorem Lo(hm:X.mg x=none)(hv:bootBuiltins x=some (.type n))(hg:Gl X x:=by rfl)(hn:x ≠ "__name__" := by decide)(hdb:(x==("__debug__" : Str))=false:=by decide):RE X (.Name x pos) (mC (.ty n)):=
 RZ (t:=λ_ _ _=>True) (Xc (v:=.ty n) hg hm hv rfl hn hdb) λ_ _ _=>by unfold Is;rfl
def Cb(d:D):M Unit:=bnd (Bo d) λ_=>ret ()
noncomputable def BT(g:D->List D->M D)(mo:Sl->M D)(ma:Sl->M (List D)):Sl->M D:=λτ=>bnd (mo τ) λx=>bnd (Cb x) λ_=>bnd (ma τ) λxs=>g x xs
noncomputable def rMM(K:PySem.W.Frag)(g:D->List D->M D):V->List V->Hp->VK->Prop:=λx xs H Q=>∃ι μ a as d μ',RelH K ι μ H/\Is K ι μ.length H a x/\IsL K ι μ.length H as xs/\g a as μ=some (d,μ') /\
 Aft K ι μ H μ' λι' H'=>∀v,Is K ι' μ'.length H' d v->Q v H'
theorem Hu(R:RelH K ι μ H)(i:Is K ι μ.length H d v)(e:Cb d μ=some (u,μ')):μ'=μ/\tyV K "list" v H:=by
 obtain⟨ds,μ1,e1,ee1⟩:=AI e;cases ee1;obtain⟨hm,p,vs,rfl,h1,h2⟩:=B6 R i e1;exact⟨hm,.inl ⟨rfl,vs,h1⟩⟩
theorem HQ(e:Cb d μ=some (u,μ')):μ'=μ:=by
 obtain⟨ds,μ1,e1,ee1⟩:=AI e;cases ee1;cases d with
 |lst _=>cases e1;rfl
 |scr _=>cases e1;rfl
 |ref n=>
  have e1:(match μ[n]? with|some (.lst ds)=>some (ds,μ)|_=>none)=some (ds,μ'):=e1;split at e1
  ·cases e1;rfl
  ·cases e1
 |_=>cases e1
theorem Te(h:tE K (BT g mo ma) σ H Q):tBM K "list" (rMM K g) (tE K mo) (tL K ma) σ H Q:=by
 obtain⟨ι,μ,τ,d,μ',R,S,e,q⟩:=h;obtain⟨x,μ1,e1,ee1⟩:=AI e;obtain⟨u,μ2,e2,ee2⟩:=AI ee1;obtain⟨as,μ3,e3,ee3⟩:=AI ee2;have hm:=HQ e2;subst hm;refine⟨ι,μ,τ,x,_,R,S,e1,λι1 H1 E1 R1 v1 i1=>⟨(Hu R1 i1 e2).2,?_⟩⟩;refine⟨ι1,_,τ,as,μ3,R1,S.ext E1,e3,λι2 H2 E2 R2 vs i2=>?_⟩;exact⟨ι2,μ3,x,as,d,μ',R2,i1.ext E2,i2,ee3,λι3 H3 E3 R3=>q ι3 H3 ((E1.trans E2).trans E3) R3⟩
theorem Bt{name:Str}{id:String}(slot:Slot "list" name id)(hty:typeOf (.builtin id)=pure (.type "method_descriptor"))(hm:MtR X id (rMM X.K g))(ho:RE X o mo)(ha:RA X (e::es) ma)
  (hbase:attributeBase o name X.env (eval o X.env)=eval o X.env:=by rfl)
  (hfew:((backTo cpos (starEach (e::es) X.env)).all (λx=>!x.1)&&(backToKw cpos (keywordEach [] X.env)).all (λx=>x.1.isSome)
   && decide ((e::es).length+([]:List Keyword).length+(if ([]:List Keyword).isEmpty then 0 else 1)<30))=true:=by rfl)
  (hline:(apos.endLine==cpos.line)=true:=by rfl) (hs:starEach (e::es) X.env=(false,eval e X.env)::starEach es X.env:=by exact Ak rfl) (hplain:(backTo cpos (starEach es X.env)).any (·.1)=false:=by exact BS rfl) :
  RE X (.Call (.Attribute o name apos) (e::es) [] cpos) (BT g mo ma):=RE.wk (Yg PySem.F.plainAttrs_list slot hty hm ho.pe ha.pe hbase hfew hline hs hplain) λ_ _ _ h=>Te h
noncomputable def Gy(n:Nat)(k:List D->Option (D×List D)):M D:=λμ=>match μ[n]? with
 |some (.lst ds)=>(k ds).map λr=>(r.1,μ.set n (.lst r.2))
 |_=>none
theorem Gx(e:Gy n k μ=some (d,μ')):∃ds es,μ[n]?=some (.lst ds)/\k ds=some (d,es)/\μ'=μ.set n (.lst es):=by
 unfold Gy at e;split at e
 ·rename_i ds hq;cases hk:k ds with
  |none=>rw[hk] at e;cases e
  |some r=>rw[hk] at e;cases e;exact⟨ds,r.2,hq,hk,rfl⟩
 ·cases e
theorem LZ{K:PySem.W.Frag}{ι:Nat->Addr}{μ:Mh}{H:Hp}{n:Nat}{d:D}{es:List D}{ws:List V}{v:V}{Q:VK}{ds:List D}(R:RelH K ι μ H)(hn:μ[n]?=some (.lst ds))(iw:IsL K ι μ.length H es ws)(iv:Is K ι μ.length H d v)
  (q:Aft K ι μ H (μ.set n (.lst es)) λι' H'=>∀v,Is K ι' (μ.set n (.lst es)).length H' d v->Q v H'):Q v (upd H (ι n) (.lst ws)):=by
 have hlt:n<μ.length:=(AAU.mp hn).1;obtain⟨E1,R1⟩:=R.changed (m:=.lst es) (o:=.lst ws) hlt ⟨ws,rfl,iw⟩;exact q ι _ E1 R1 v (iv.ext E1)
noncomputable def Hb:D->List D->M D
 | .ref n,[d]=>Gy n λds=>if ds.length<sizeLine then some (.non,ds++[d]) else none
 |_,_=>BG
theorem D9:MtR X "list.append" (rMM X.K Hb):=λpins s σ H x xs v us Q I rx rs h=>by
 obtain⟨ι,μ,a,as,d,μ',R,ia,ib,e,q⟩:=h;unfold Hb at e;split at e
 ·rename_i n y;obtain⟨ds,es,h1,h2,rfl⟩:=Gx e;split at h2
  ·rename_i hl;cases h2;obtain⟨w,rfl,iw⟩:=HL ib;unfold Is at ia;obtain⟨_,rfl⟩:=ia;obtain⟨u,g1,vs,rfl,g2⟩:=R.obj n _ h1;exact Rp pins s σ H _ _ v us Q I rx rs ⟨_,vs,w,rfl,rfl,g1,by rw[g2.length];exact hl,LZ R h1 (g2.append (.one iw)) ofN q⟩
  ·cases h2
 ·cases e
noncomputable def SC:D->List D->M D
 | .ref n,[.lst zs]=>Gy n λds=>if ds.length+zs.length<=sizeLine then some (.non,ds++zs) else none
 |_,_=>BG
theorem JY:MtR X "list.extend" (rMM X.K SC):=λpins s σ H x xs v us Q I rx rs h=>by
 obtain⟨ι,μ,a,as,d,μ',R,ia,ib,e,q⟩:=h;unfold SC at e;split at e
 ·rename_i n zs;obtain⟨ds,es,h1,h2,rfl⟩:=Gx e;split at h2
  ·rename_i hl;cases h2;obtain⟨w,rfl,iw⟩:=HL ib;unfold Is at ia iw;obtain⟨_,rfl⟩:=ia;obtain⟨p,ws,rfl,k1,_,k2⟩:=iw;obtain⟨u,g1,vs,rfl,g2⟩:=R.obj n _ h1;exact Ro pins s σ H _ _ v us Q I rx rs ⟨_,p,vs,ws,rfl,rfl,g1,k1,by rw[g2.length,k2.length];exact hl,LZ R h1 (g2.append k2) ofN q⟩
  ·cases h2
 ·cases e
noncomputable def Wv:D->D->D->M Unit
 | .ref n,.int k,d=>λμ=>match μ[n]? with
  |some (.lst ds)=>(ixN ds.length k).map λj=>((),μ.set n (.lst (ds.set j d)))
  |_=>none
 |_,_,_=>BG
noncomputable def Vk(mo mi:Sl->M D):D->Sl->M Sl:=λd τ=>bnd (mo τ) λx=>bnd (mi τ) λy=>bnd (Wv x y d) λ_=>ret τ
theorem RU(e:Wv x y d μ=some (u,μ')):∃n k ds j,x=.ref n/\y=.int k/\μ[n]?=some (.lst ds)/\ixN ds.length k=some j/\μ'=μ.set n (.lst (ds.set j d)):=by
 unfold Wv at e;split at e
 ·rename_i n k;split at e
  ·rename_i ds hq;cases hk:ixN ds.length k with
   |none=>rw[hk] at e;cases e
   |some j=>rw[hk] at e;cases e;exact⟨n,k,ds,j,rfl,rfl,hq,hk,rfl⟩
  ·cases e
 ·cases e
theorem Zc(ho:RE X o mo)(hi:RE X i mi)
  (ha:∀v,assign (.Subscript o i pos) X.env v=(do
   let ov ←holding [v] (eval o X.env)
   let iv ←holding [v,ov] (eval i X.env)
   standAt pos
   holding [v,ov,iv] (setItem ov iv v)
   release [v,ov,iv] []):=by intro _;rfl):RG X (.Subscript o i pos) (Vk mo mi):=RG.wk (Zr ho.pe hi.pe To ha) λv σ H Q h=>by
 obtain⟨ι,μ,τ,d,τ',μ',R,S,i1,e,q⟩:=h;obtain⟨x,μ1,e1,ee1⟩:=AI e;obtain⟨y,μ2,e2,ee2⟩:=AI ee1;obtain⟨u,μ3,e3,ee3⟩:=AI ee2;cases ee3;refine⟨ι,μ,_,x,μ1,R,S,e1,λι1 H1 E1 R1 v1 j1=>⟨ι1,μ1,_,y,μ2,R1,S.ext E1,e2,λι2 H2 E2 R2 v2 j2=>?_⟩⟩;obtain⟨n,k,ds,j,rfl,rfl,g1,g2,rfl⟩:=RU e3;have E12:=E1.trans E2;have j1':=j1.ext E2;unfold Is at j1';obtain⟨hlt,rfl⟩:=j1';cases Bw j2;obtain⟨w,k1,vs,rfl,k2⟩:=R2.obj n _ g1;obtain⟨E3,R3⟩:=R2.changed (m:=.lst (ds.set j d)) (o:=.lst (vs.set j v)) hlt ⟨_,rfl,k2.set (i1.ext E12) j⟩;exact⟨_,vs,k,j,rfl,rfl,k1,by rw[k2.length];exact g2,q ι2 _ (E12.trans E3) R3 σ (S.ext (E12.trans E3))⟩
noncomputable def GU:D->Option Key
 | .int i=>some (.inl i)
 | .str x=>some (.inr x)
 |_=>none
noncomputable def Eh:D->M (Nat×List (Key×D))
 | .ref n=>λμ=>match μ[n]? with
  |some (.dK l)=>some ((n,l),μ)
  |_=>none
 |_=>BG
noncomputable def Fw(l:List (Key×D))(k:Key):Option D:=(l.find? λkv=>decide (kv.1=k)).map (·.2)
noncomputable def FD(l:List (Key×D))(k:Key)(d:D):List (Key×D):=
 if (l.any λkv=>decide (kv.1=k))=true then l.map (λkv=>if kv.1=k then (kv.1,d) else kv) else l++[(k,d)]
noncomputable def aE:Sl->M D:=λ_ μ=>some (.ref μ.length,μ++[.dK []])
theorem W8:RE X (.Dict [] [] pos) aE:=RE.wk Ue λσ H Q h=>by
 obtain⟨ι,μ,τ,d,μ',R,S,e,q⟩:=h;cases e;intro p hp;obtain⟨ι',E1,R1,e0⟩:=R.grown (m:=.dK []) (o:=.dK []) hp ⟨[],rfl,rfl⟩;exact q ι' _ E1 R1 _ (by unfold Is;exact⟨by simp,by rw[e0]⟩)
section
variable{K:PySem.W.Frag}{ι:Nat->Addr}{k:Nat}{H:Hp}
theorem KVs.val:∀{l:List (Key×D)} {r:List (Key×V)} (y:Key),KVs K ι k H l r->(Fw l y=none/\Fv r y=none)∨∃d v,Fw l y=some d/\Fv r y=some v/\Is K ι k H d v
 |[],_,y,h=>by cases h;exact .inl ⟨rfl,rfl⟩
 |(z,d)::l,_,y,h=>by
  obtain⟨v,r',rfl,h1,h2⟩:=h;by_cases hz:z=y
  ·subst hz;exact .inr ⟨d,v,by simp[Fw],by simp[Fv],h1⟩
  ·have:=KVs.val y h2;simpa[Fw,Fv,List.find?_cons,hz] using this
theorem KVs.any:∀{l:List (Key×D)} {r:List (Key×V)} (y:Key),KVs K ι k H l r->(l.any λkv=>decide (kv.1=y))=(r.any λkv=>decide (kv.1=y))
 |[],_,y,h=>by cases h;rfl
 |(z,d)::l,_,y,h=>by
  obtain⟨v,r',rfl,h1,h2⟩:=h;rw[List.any_cons,List.any_cons,KVs.any y h2]
theorem KVs.length:∀{l:List (Key×D)} {r:List (Key×V)},KVs K ι k H l r->r.length=l.length
 |[],_,h=>by cases h;rfl
 |(z,d)::l,_,h=>by
  obtain⟨v,r',rfl,h1,h2⟩:=h;rw[AAI,AAI,KVs.length h2]
theorem KVs.app:∀{l:List (Key×D)} {r:List (Key×V)} {y:Key} {d:D} {v:V},KVs K ι k H l r->Is K ι k H d v->KVs K ι k H (l++[(y,d)]) (r++[(y,v)])
 |[],_,y,d,v,h,h1=>by cases h;exact⟨v,[],rfl,h1,rfl⟩
 |(z,e)::l,_,y,d,v,h,h1=>by
  obtain⟨w,r',rfl,h2,h3⟩:=h;exact⟨w,_,rfl,h2,KVs.app h3 h1⟩
theorem KVs.mapPut:∀{l:List (Key×D)} {r:List (Key×V)} {y:Key} {d:D} {v:V},KVs K ι k H l r->Is K ι k H d v->KVs K ι k H (l.map λkv=>if kv.1=y then (kv.1,d) else kv) (r.map λkv=>if kv.1=y then (kv.1,v) else kv)
 |[],_,y,d,v,h,h1=>by cases h;rfl
 |(z,e)::l,_,y,d,v,h,h1=>by
  obtain⟨w,r',rfl,h2,h3⟩:=h;rw[AAX,AAX];by_cases hz:z=y
  ·subst hz;simp only[if_true];exact⟨v,_,rfl,h1,KVs.mapPut h3 h1⟩
  ·simp only[hz,if_false];exact⟨w,_,rfl,h2,KVs.mapPut h3 h1⟩
theorem KVs.put(h:KVs K ι k H l r)(h1:Is K ι k H d v):KVs K ι k H (FD l y d) (Da r y v):=by
 unfold FD Da;rw[h.any y];split
 ·exact h.mapPut h1
 ·exact h.app h1
theorem L5(h:Is K ι k H d v)(e:GU d=some y):v=kV y:=by
 cases d with
 |int i=>cases e;unfold Is at h;exact h
 |str i=>cases e;unfold Is at h;exact h
 |_=>cases e
theorem IA(R:RelH K ι μ H)(i:Is K ι μ.length H d v)(e:Eh d μ=some (r,μ')):μ'=μ/\d=.ref r.1/\μ[r.1]?=some (.dK r.2)/\v=.ref (ι r.1)/\∃kvs,H (ι r.1)=some (.dK kvs)/\KVs K ι μ.length H r.2 kvs:=by
 cases d with
 |ref n=>
  have e:(match μ[n]? with|some (.dK l)=>some ((n,l),μ)|_=>none)=some (r,μ'):=e;split at e
  ·rename_i l hq;cases e;unfold Is at i;obtain⟨u,h1,kvs,rfl,h2⟩:=R.obj n _ hq;exact⟨rfl,rfl,hq,i.2,kvs,h1,h2⟩
  ·cases e
 |_=>cases e
end
noncomputable def Gg(d y:D):M D:=bnd (Eh d) λr=>λμ=>((GU y).bind (Fw r.2)).map λv=>(v,μ)
theorem IQ(hr:Room k X.A)(ho:RE X o mo)(hi:RE X i mi)(hs:ST i:=by exact λ_ _=>rfl):RE X (.Subscript o i pos) (mOp Gg mo mi):=RE.wk (XZ (Yr hr) ho.pe hi.pe hs) λσ H Q h=>by
 obtain⟨ι,μ,τ,d,μ',R,S,e,q⟩:=h;obtain⟨x,μ1,e1,ee1⟩:=AI e;obtain⟨y,μ2,e2,ee2⟩:=AI ee1;obtain⟨r,μ3,e3,ee3⟩:=AI ee2;refine⟨ι,μ,τ,x,μ1,R,S,e1,λι1 H1 E1 R1 v1 i1=>⟨ι1,μ1,τ,y,μ2,R1,S.ext E1,e2,λι2 H2 E2 R2 v2 i2=>?_⟩⟩;obtain⟨hm,_,g1,rfl,kvs,g2,g3⟩:=IA R2 (i1.ext E2) e3;subst hm;cases hk:GU y with
 |none=>rw[hk] at ee3;cases ee3
 |some ky=>
  rw[hk] at ee3;cases L5 i2 hk;rcases g3.val ky with ⟨z1,_⟩|⟨dd,vv,z1,z2,z3⟩
  ·rw[Option.bind_some,z1] at ee3;cases ee3
  ·rw[Option.bind_some,z1] at ee3;cases ee3;exact⟨_,vv,rfl,by rw[←z2];exact DGet.k g2,q ι2 H2 (E1.trans E2) R2 vv z3⟩
noncomputable def GO(mo mi mv:Sl->M D):Sl->M (Fl×Sl):=λτ=>bnd (mv τ) λv=>bnd (mo τ) λx=>bnd (mi τ) λy=>bnd (Eh x) λr=>λμ=>match GU y with
 |some k=>if r.2.length<sizeLine then some ((.next,τ),μ.set r.1 (.dK (FD r.2 k v))) else none
 |none=>none
theorem Lk(hr:Room k X.A)(ho:RE X o mo)(hi:RE X i mi)(hv:RE X value mv)(hs:swapsWith value (some (.Subscript o i pos')) pos.line X.env=pure false:=by rfl):RS X (.Assign [.Subscript o i pos'] value pos) (GO mo mi mv):=RS.wk (XM (Yr hr) ho.pe hi.pe hv.pe hs) λDn σ H h=>by
 obtain⟨ι,μ,τ,f,τ',μ',R,S,e,q⟩:=h;obtain⟨v,μ1,e1,ee1⟩:=AI e;obtain⟨x,μ2,e2,ee2⟩:=AI ee1;obtain⟨y,μ3,e3,ee3⟩:=AI ee2;obtain⟨r,μ4,e4,ee4⟩:=AI ee3;refine⟨ι,μ,τ,v,μ1,R,S,e1,λι1 H1 E1 R1 v1 i1=>⟨ι1,μ1,τ,x,μ2,R1,S.ext E1,e2,λι2 H2 E2 R2 v2 i2=>⟨ι2,μ2,τ,y,μ3,R2,S.ext (E1.trans E2),e3,λι3 H3 E3 R3 v3 i3=>?_⟩⟩⟩;obtain⟨hm,hx,g1,hv2,kvs,g2,g3⟩:=IA R3 (i2.ext E3) e4;subst hm;have E13:=(E1.trans E2).trans E3;cases hk:GU y with
 |none=>rw[hk] at ee4;cases ee4
 |some ky=>
  rw[hk] at ee4;have ee4:(if r.2.length<sizeLine then some ((Fl.next,τ),List.set μ4 r.1 (MO.dK (FD r.2 ky v))) else none)=some ((f,τ'),μ'):=ee4;split at ee4
  ·rename_i hl;cases ee4;cases L5 i3 hk;have hlt:r.1<List.length μ4:=(AAU.mp g1).1;obtain⟨E4,R4⟩:=R3.changed (m:=.dK (FD r.2 ky v)) (o:=.dK (Da kvs ky v1)) hlt ⟨_,rfl,g3.put (i1.ext (E2.trans E3))⟩;exact⟨_,_,hv2,DPut.k g2 (by rw[g3.length];exact hl),q ι3 _ (E13.trans E4) R4 σ (S.ext (E13.trans E4))⟩
  ·cases ee4
noncomputable def Fr:Nat->List D->List D
 |_,[]=>[]
 |k,d::ds=>.tup [.int k,d]::Fr (k+1) ds
theorem LC:∀(k:Nat) (ds:List D),(Fr k ds).length=ds.length
 |_,[]=>rfl
 |k,_::ds=>by unfold Fr;simp[LC (k+1) ds]
theorem LD:∀(k:Nat) (ds:List D) (j:Nat),(Fr k ds)[j]?=(ds[j]?).map λd=>.tup [.int ((k+j:Nat):Int),d]
 |_,[],j=>by simp[Fr]
 |k,d::ds,0=>by simp[Fr]
 |k,d::ds,j+1=>by
  unfold Fr;rw[List.getElem?_cons_succ,List.getElem?_cons_succ,LD (k+1) ds j];have:k+1+j=k+(j+1):=by omega
  rw[this]
theorem U5(st:∀ι' (μ':Mh) H',Ext ι μ.length H ι' μ'.length H'->RelH K ι' μ' H'->Cond K H')(i:IsL K ι μ.length H ds vs):
  ItM K (ItP K vs.length (Ge vs) Cond) (Fr 0 ds) ι μ H:=by
 intro ι' μ' H' E R;have h:=st ι' μ' H' E R;rw[LC,←i.length];refine⟨λj hj=>⟨hj,h⟩,⟨rfl,h⟩,λj x H2 d hd y=>?_⟩;obtain⟨T,hT,rfl,rfl⟩:=y;obtain⟨E2,R2⟩:=R.laid (.tup (Ge vs j)) hT;refine⟨E2,R2,?_⟩;rw[LD] at hd;cases q:ds[j]? with
 |none=>rw[q] at hd;cases hd
 |some d0=>
  rw[q] at hd;cases hd;obtain⟨w,ew,iw⟩:=(i.ext E).get q;have e0:vs.getD j V.non=w:=by simp[List.getD,ew]
  have es:Ge vs j=[.int j,w]:=by unfold Ge;rw[e0]
  have key:IsL K ι' (List.length μ') (upd H' T (.tup (Ge vs j))) [.int ((0+j:Nat):Int),d0] [.int j,w]:=.cons (by unfold Is;simp) (.one (iw.ext E2));unfold Is;exact⟨T,_,rfl,SqT.of BK,(congrArg (IsL K ι' (List.length μ') (upd H' T (.tup (Ge vs j))) [.int ((0+j:Nat):Int),d0]) es).mpr key⟩
end
theorem DY:bootBuiltins "len" = some (.builtin "len"):=by decide +kernel
theorem DD:bootBuiltins "isinstance" = some (.builtin "isinstance"):=by decide +kernel
theorem N9:bootBuiltins "int" = some (.type "int"):=by decide +kernel
theorem SQ:bootBuiltins "bool" = some (.type "bool"):=by decide +kernel
theorem Bj:bootBuiltins "tuple" = some (.type "tuple"):=by decide +kernel
theorem SM:bootBuiltins "list" = some (.type "list"):=by decide +kernel
theorem SO:bootBuiltins "dict" = some (.type "dict"):=by decide +kernel
theorem N8:bootBuiltins "set" = some (.type "set"):=by decide +kernel
structure Fn(P:Program)(w:World)(K:PySem.W.Frag)(mg:Str->Option Value)(base:Heap)(x:Str)(ps:List Str)(k:Nat)(φ:List D->M D):Prop where
 len:∀ds μ r,φ ds μ=some r->ds.length=ps.length
 ex:∃f fd,FnOk P w K mg base CX0 k f fd ps (spM K ps.length φ)/\mg x=some (.ref f)/\PySem.W.keepIn K (.ref f)=true/\Binds K fd ps []
def Glo(K:PySem.W.Frag)(mg:Str->Option Value)(x:Str)(d:D):Prop:=∃u v,mg x=some u/\RelV v u/\∀ι k H,Is K ι k H d v
section
variable{X:Cx}{e:Expr}{es:List Expr}{pos p:Pos}
theorem Aj(F:Fn X.prog X.w X.K X.mg X.base x ps k φ)(hr:Room j X.A)(ha:RA X (e::es) m)(hkj:k<=j:=by decide)(hg:Gl X x:=by rfl)(hdb:(x==("__debug__" : Str))=false:=by decide)
  (he:starEach (e::es) X.env=(false,eval e X.env)::starEach es X.env:=by exact Ak rfl) (hpl:(backTo pos (starEach es X.env)).any (·.1)=false:=by exact BS rfl):RE X (.Call (.Name x p) (e::es) [] pos) (AJ φ m):=by
 obtain⟨len,f,fd,F,hm,hk,hb⟩:=F;exact W9 F (hr.mono hkj) hm hk hb len ha hg hdb he hpl
theorem DG(h:Glo X.K X.mg x d)(hg:Gl X x:=by rfl)(hdb:(x==("__debug__" : Str))=false:=by decide):RE X (.Name x pos) (mC d):=by
 obtain⟨u,v,hm,r,hd⟩:=h;exact W6 hm r hd hg hdb
end
theorem aY(F:Fun K x qual st f fd)(S:Ae N ps (AO st))(hm:mg x=some (.ref f))(hb:Binds K fd ps [])
  (body:∀(cdv:Value) (A:Around) (outer:List Env) (s:Shared) (H:Hp) (E:XK),Room k (A.deeper (PyProof.Rows.envOfC qual (AO st) s.heap.objs.size f cdv))->RSs (IH CX0 P w K mg base N qual (AO st) f cdv A outer s H E).nox (Bq st) mb)
  (len:∀ds μ r,φ ds μ=some r->ds.length=ps.length)
  (run:∀ds μ d μ',φ ds μ=some (d,μ')->∃fl τ2 μ2,mb (Bi N.length ds) μ=some ((fl,τ2),μ2)/\(fl=.next∨∃d,fl=.rt d)/\J7 μ μ2 μ' (JL fl) d):Fn P w K mg base x ps (k+1) φ:=
 ⟨len,f,fd,K9 F S rfl body run,hm,F.kp,hb⟩
theorem Ip(h:Cl μ.length d):J7 μ (μ++g) μ d d:=⟨⟨g,rfl⟩,AAF _,λ_ _ e=>.inl e,.inl ⟨rfl,h⟩⟩
section
variable{X:Cx}{e i:Expr}{pos p:Pos}
structure ao(w:World)(K:PySem.W.Frag)(mg:Str->Option Value)(x:Str)(t:Str->Option D):Prop where
 ex:∃ad,mg x=some (.ref ad)/\∀y:Str,∃r,KGet w.params K ad (.str y) r/\((t y=none/\r=none)∨∃d v,t y=some d/\r=some v/\∀ι k H,Is K ι k H d v)
noncomputable def Yp(t:Str->Option D):D->M D
 | .str y=>λμ=>(t y).map λd=>(d,μ)
 |_=>BG
theorem W5(k:ao X.w X.K X.mg x t)(hi:RE X i mi)(hg:Gl X x:=by rfl)(hdb:(x==("__debug__" : Str))=false:=by decide)(hs:ST i:=by exact λ_ _=>rfl):RE X (.Subscript (.Name x p) i pos) (mUn (Yp t) mi):=by
 obtain⟨ad,hm,kk⟩:=k;refine RE.wk (XW (QJ (v:=.ref ad) hg hm rfl hdb) hi.pe hs) λσ H Q h=>?_;obtain⟨ι,μ,τ,d,μ',R,S,e,q⟩:=h;obtain⟨y,μ1,e1,e2⟩:=AI e;refine⟨ι,μ,τ,y,μ1,R,S,e1,λι1 H1 E1 R1 v1 i1=>?_⟩;cases y with
 |str y=>
  cases Ci i1;obtain⟨r,g,z⟩:=kk y;rcases z with ⟨z1,_⟩|⟨d0,v0,z1,rfl,z3⟩
  ·have e3:(t y).map (λd=>(d,μ1))=some (d,μ'):=e2;rw[z1] at e3;cases e3
  ·have e3:(t y).map (λd=>(d,μ1))=some (d,μ'):=e2;rw[z1] at e3;cases e3;exact⟨ad,v0,rfl,g,q ι1 H1 E1 R1 v0 (z3 _ _ _)⟩
 |_=>cases e2
end
end Mi
namespace L2
open PySem PySem.Spec PyProof.Rows Sem
section
variable{prog:Program}{w:World}{A:Around}{E:Value->Shared->Prop}{s:Shared}
theorem BH[Decidable c](h:¬c)(hb:wpAny M A b Q E s):wpAny M A (if c then a else b) Q E s:=by
 rw[if_neg h];exact hb
theorem Mj(hh:A.handled=none)(hit:s.heap.IsTupleIter it t i)(ht:s.heap.IsTuple t items)
  (more:∀x h',items[i]?=some x->h'.IsTupleIter it t (i+1)->Heap.SameBut it s.heap h'->Q x { s with heap:=h' })
  (over:items[i]?=none->∀h' e,Heap.ExtBut it s.heap h'->(∃o,h'.get? e=some o/\o.cls=.type "StopIteration")->E (.ref e) { s with heap:=h' }) :
  wpAny (model prog w) A (Builtin.SmallTypes.nextOf (.ref it)) Q E s:=by
 have ty:=hit.typeIs;obtain⟨o,at_it,hc,hd⟩:=hit;obtain⟨ot,at_t,_,n,hdt⟩:=ht;have put:∀(k:Nat) (v:Value),(s.heap.update it (Obj.mapFields (λfs=>fs.set! k v))).get? it=some (Obj.mapFields (λfs=>fs.set! k v) o):=λk v=>Heap.get?_update_self _ at_it (Obj.isFreed_of_fields (Obj.data_mapFields hd _));unfold Builtin.SmallTypes.nextOf;refine AAA (wpAny_callSpecial?_slot ty F.slot_tuple_iterator_next (AAe F.slot_tuple_iterator_next ty F.entry_tuple_iterator_next ?_ (F.args_tuple_iterator_next_1 _)));have notNone:¬(Value.ref t==Value.none)=true:=AAi;refine AAA (m:=field (.ref it) 0) (AAz at_it hd (x:=.ref t) rfl ?_);refine BH notNone ?_;refine AAA (m:=field (.ref it) 1) (AAz at_it hd (x:=.int i 0) rfl (AAA (m:=seqItems? (.ref t)) (AA0 at_t hdt ?_)));have ei:((i:Int)).toNat=i:=Int.toNat_natCast i;cases hx:items[i]? with
 |some x=>
  dsimp only;rw[ei,hx];refine AAA (wpAny_setField at_it hd (by simp) (AAB ⟨x,rfl,AAB (more x _ hx ⟨_,put _ _,?_,?_⟩ (Heap.SameBut.update ..))⟩))
  ·exact(Obj.cls_mapFields ..).trans hc
  ·rw[Obj.data_mapFields hd];rfl
 |none=>
  dsimp only;rw[ei,hx];refine AAA (wpAny_rule (AAA (wpAny_setField at_it hd (by simp) ?_)));have first:firstArgMember (.type "StopIteration") []=pure Value.none:=by first|rfl|(unfold firstArgMember;rfl)
  unfold Builtin.SmallTypes.stopIteration newExc newTuple;refine AAA (AAA (AAt (AAA (AAy first (AAt (wpAny_raiseNew_none hh ?_) (by size_fits)))) (by size_fits)));exact over hx _ _ (((Heap.SameBut.update ..).extBut.push _).push _) ⟨_,AAD _ rfl,rfl⟩
theorem FZ(hh:A.handled=none)(it t:Addr)(hne:t≠it)(items:Array Value):
  Draws prog w A it [it,t] items.size (λi v=>items[i]?=some v) (λi h=>h.IsTupleIter it t i/\h.IsTuple t items):=by
 refine⟨λi h st=>?_,λi h h' st k=>⟨?_,?_⟩,λi s Q E hi st q=>?_,λs Q E st q=>?_⟩
 ·obtain⟨⟨o,e,_⟩,_⟩:=st;exact⟨o,e⟩
 ·obtain⟨⟨o,e,r⟩,_⟩:=st;exact⟨o,k it (by simp) o e,r⟩
 ·obtain⟨_,⟨o,e,r⟩⟩:=st;exact⟨o,k t (by simp) o e,r⟩
 ·exact Mj hh st.1 st.2 (λx h' hx st' sb=>q x h' s.toks hx ⟨st',st.2.extBut sb.extBut hne⟩ sb) λno=>absurd no (by simp[hi])
 ·exact Mj hh st.1 st.2 (λx h' hx=>absurd hx (by simp)) λ_ h' e eb so=>q h' e eb so
noncomputable abbrev Ga(it:Addr):Obj:={ cls:=.type "enumerate",data:=.fields #[.none,.bool false,.ref it,rawInt 0,.none,.none] }
theorem VR(v:Value)(ob:Obj)(good:Heap->Prop)(hv:∀(prog:Program) (w:World) (A:Around) (E:Value->Shared->Prop) (s:Shared) (Q:Value->Shared->Prop),good s.heap->Q (.ref s.heap.objs.size) { s with heap:=s.heap.push ob }->wpAny (model prog w) A (pyIter v) Q E s):
  Meets (Builtin.«enumerate.__new__» ⟨[.type "enumerate",v],[]⟩) (λ_ R s=>good s.heap/\R (.ok (.ret (.ref (s.heap.push ob).objs.size))) { s with heap:=(s.heap.push ob).push (Ga s.heap.objs.size) }):=by
 refine .of_wp λprog w A R s ⟨g,q⟩=>?_;have own:=sub_enumerate;have walk:∀(A:Around) (E:Value->Shared->Prop) (Q:Value->Shared->Prop),Q (.ref s.heap.objs.size) { s with heap:=s.heap.push ob }->wpAny (model prog w) A (pyIter v) Q E s:=λA E Q z=>hv prog w A E s Q g z;obtain⟨hp,gs,dr,tk,os⟩:=s
 wp_walk
 refine wpAny_stack_any λst=>AAB ?_;split
 ·rename_i c _ _ _ _ _;cases (c==Value.type "enumerate")<;>(wp_walk using walk;exact⟨_,rfl,q⟩)
 ·wp_walk using walk
  exact⟨_,rfl,q⟩
end
end L2
namespace L2
open PySem PySem.Spec PyProof.Rows
theorem OT{P:Program}{w:World}{K:PySem.W.Frag}(a e it:Addr)(xs:List V)(hei:e≠it)(hea:e≠a)(hai:a≠it):
  ML P w K (.Tuple es k0 pos) (ItP K xs.length (Ge xs) λK H=>SqT K H a xs) [e,it] e (λi h=>(∃old,IsEnum h e it i old)/\h.IsTupleIter it a i):=by
 refine Im (ι:=List Value) (fp:=[e,it,a]) (Mid:=λits i T h=>(∃x,IsEnumOut h e it ((i:Int)+1) x T)/\(h.IsTupleIter it a (i+1)/\h.IsTuple a its.toArray)/\T≠e/\T≠it) (good:=λits=>Vals xs its) (Pt:=λits i vals=>∃t x,its.toArray[i]?=some x/\vals=#[.int i t,x]) (Sw:=λits i h=>(∃old,IsEnum h e it i old)/\h.IsTupleIter it a i/\h.IsTuple a its.toArray)
  (λA hA its r=>?walk) AAQ (λits i vals r h=>O3 r h) (λi=>(by show 2<=sizeLine;decide)) (λi h st=>?obj) (λi h h' st k=>?keep) (λX pins σ H s i hP hw hK I hc st=>?into) (λz i h st=>⟨st.1,st.2.1⟩) (λA i s Q E st h=>?self)
 case walk=>
  have hl:xs.length=its.toArray.size:=by rw[List.size_toArray];exact r.length
  have D:=FZ (prog:=P) (w:=w) (A:=A.in1) hA it a hai its.toArray;rw[hl];exact WalksT.enumerateD D e hei (by simp[hei,hea]) (by simp)
 case obj=>
  obtain⟨o,ho,_,hd⟩:=st.2;exact ae st.1 ho ⟨_,hd⟩
 case keep=>
  obtain⟨⟨old,q⟩,o,ho,r⟩:=st;exact⟨⟨old,k e (by simp) _ q⟩,o,k it (by simp) o ho,r⟩
 case into=>
  subst hK;obtain⟨its,r,p,_⟩:=I.tuple hc;exact⟨its,r,st.1,st.2,p⟩
 case self=>exact YM (f:=λi h=>h.IsTupleIter it a i) A i s Q E st h
section
variable{X:Cx}{es:List Expr}{k0:Nat}{tpos:Pos}
noncomputable def aW(K:PySem.W.Frag)(ta:TA):TI:=λσ H R=>ta σ H λvs H1=>∃a xs,vs=[.ref a]/\SqT K H1 a xs/\R (ItP K xs.length (Ge xs) λK H=>SqT K H a xs) H1
theorem UY(hg:Gl X "enumerate")(hm:X.mg "enumerate" = none)(ha:PA X [a] ta)(hs:starEach [a] X.env=[(false,eval a X.env)]:=by rfl):PI X (.Tuple es k0 tpos) (.Call (.Name "enumerate" p) [a] [] pos) (aW X.K ta):=by
 intro pins s σ H R I h;refine Call_ (FN I hg hm SN (PyProof.Rows.callWith_type1 (thn (ha pos pins s σ H _ I h) λus s1 ⟨vs,H1,I1,r1,q1⟩=>?_) hs rfl));obtain⟨l,xs,ev,hq,q⟩:=q1;subst ev;obtain⟨u,eu,ru⟩:=Ih r1;subst eu;cases ru;obtain⟨its,rv,pl,hz⟩:=I1.tuple hq;have lt:l<s1.heap.objs.size:=by obtain⟨o,e,_⟩:=pl;exact Heap.lt_size e
 have new:=VR (.ref l) { cls:=.type "tuple_iterator",data:=.fields #[.ref l,.int 0 0] } (λh=>h.IsTuple l its.toArray) (λ_ _ _ _ _ _ g z=>wpAny_pyIter_tuple g z);refine callType_new F.called_enumerate (by decide) (F.typeCall_enumerate_1 _) (F.newCall_enumerate_1 _) (λobj=>F.args_object_init_2 obj _) F.entry_enumerate_new new ⟨pl,?_⟩;generalize hG:s1.heap.push { cls:=.type "tuple_iterator",data:=.fields #[.ref l,.int 0 0] }=G;have hsz:G.objs.size=s1.heap.objs.size+1:=by rw[←hG];exact Heap.size_push ..
 have at_e:(G.push (Ga s1.heap.objs.size)).get? (s1.heap.objs.size+1)=some (Ga s1.heap.objs.size):=by rw[←hsz];exact AAD _ rfl
 have he:IsEnum (G.push (Ga s1.heap.objs.size)) (s1.heap.objs.size+1) s1.heap.objs.size 0 .none:=at_e;have at_i:(G.push (Ga s1.heap.objs.size)).IsTupleIter s1.heap.objs.size l 0:=⟨_,AAC _ (hG ▸ AAD _ rfl),rfl,rfl⟩;show _/\_;rw[hsz];refine⟨⟨_,at_e,rfl⟩,wpAny_pyIter_enum he ?_⟩;refine⟨s1.heap.objs.size+1,[s1.heap.objs.size+1,s1.heap.objs.size],λi h=>(∃old,IsEnum h (s1.heap.objs.size+1) s1.heap.objs.size i old)/\h.IsTupleIter s1.heap.objs.size l i,_,H1,rfl,I1.kept (t':=s1.toks) λb o x=>AAC _ (hG ▸ AAC _ x),?_,⟨⟨_,he⟩,at_i⟩,ZL I1,q⟩;exact OT l _ _ xs (Nat.succ_ne_self _) (Nat.ne_of_gt (AAj lt)) (AAf lt)
end
end L2
namespace Mi
open PySem L2
section
variable{X:Cx}{a:Expr}{es:List Expr}{pos:Pos}
noncomputable def TW:List D->M (List D)
 |[.tup ds]=>ret ds
 |_=>BG
noncomputable def HE(m:Sl->M (List D)):Sl->M (List D):=λτ=>bnd (m τ) λas=>bnd (TW as) λds=>ret (Fr 0 ds)
theorem JJ(hm:X.mg "enumerate" = none)(ha:RA X [a] m)(hg:Gl X "enumerate" := by rfl)(hs:starEach [a] X.env=[(false,eval a X.env)]:=by exact Ak rfl):RI X (.Tuple es k0 tpos) (.Call (.Name "enumerate" p) [a] [] pos) (HE m):=
 RI.wk (UY hg hm ha.pe hs) λσ H R q=>by
  obtain⟨ι,μ,τ,ds,μ',R0,S,e,q⟩:=q;obtain⟨xs,μ1,e1,e2⟩:=AI e;obtain⟨zs,μ2,e3,e4⟩:=AI e2;cases e4;refine⟨ι,μ,τ,xs,μ1,R0,S,e1,λι1 H1 E1 R1 vs i1=>?_⟩;unfold TW at e3;split at e3
  ·cases e3;obtain⟨v,rfl,i2⟩:=HL i1;unfold Is at i2;obtain⟨p,ws,rfl,h1,h2⟩:=i2;exact⟨p,ws,rfl,h1,q ι1 H1 E1 R1 _ (U5 (λι' μ' H' E _=>GJ E h1) h2)⟩
  ·cases e3
end
end Mi
namespace L2
open PySem PySem.Spec PyProof.Rows Sem
def TwoAt(h:Heap)(T:Addr)(a b:Value):Prop:=∃n,h.get? T=some { cls:=.type "tuple",data:=.seq #[a,b] n }
abbrev CJ(TI TO:Addr)(f0:Value):Obj:={ cls:=.type "zip",data:=.fields #[f0,.bool false,.bool false,.ref TI,.ref TO] }
theorem TwoAt.keep(x:TwoAt h T a b)(k:∀o,h.get? T=some o->h'.get? T=some o):TwoAt h' T a b:=by
 obtain⟨n,e⟩:=x;exact⟨n,k _ e⟩
section
variable{prog:Program}{w:World}{A:Around}{E:Value->Shared->Prop}{s:Shared}
theorem Pl(t:TwoAt s.heap T a b)(sh:(#[a,b]:Array Value).setIfInBounds k x=#[c,d])(h:∀h',TwoAt h' T c d->Heap.SameBut T s.heap h'->Q () { s with heap:=h' }):
  wpAny (model prog w) A (updateSeq T λxs=>xs.setIfInBounds k x) Q E s:=by
 obtain⟨n,e⟩:=t;refine wpAny_updateSeq e rfl (h _ ⟨n,?_⟩ (Heap.SameBut.update ..)) (by simp[sizeLine]) (by simp[sizeLine]);rw[Heap.get?_update_self _ e rfl];show some ({ cls:=.type "tuple",data:=.seq ((#[a,b]:Array Value).setIfInBounds k x) (if (((#[a,b]:Array Value).setIfInBounds k x).size==(#[a,b]:Array Value).size)=true then n else n+1) }:Obj)=_;rw[sh];rfl
structure Dt(z TI TO i1 i2:Addr)(f1 f2:List Addr):Prop where
 zTI:z≠TI
 zTO:z≠TO
 io:TI≠TO
 z1:z∉f1
 z2:z∉f2
 o1:TO∉f1
 o2:TO∉f2
 n1:TI≠i1
 n2:TI≠i2
 m1:i1∈f1
 m2:i2∈f2
 x12:i1∉f2
 x21:i2∉f1
theorem MQ{z TI TO i1 i2:Addr}{n k:Nat}{a b:Value}{f1 f2:List Addr}{Q:Value->Shared->Prop}(ap:Dt z TI TO i1 i2 f1 f2)
  (D1:Draws prog w A.in1 i1 f1 n P1 S1) (D2:Draws prog w A.in1 i2 f2 n P2 S2) (hk:k<n)
  (hz:s.heap.get? z=some (CJ TI TO .none)) (hI:TwoAt s.heap TI (.ref i1) (.ref i2)) (hO:TwoAt s.heap TO a b) (s1:S1 k s.heap) (s2:S2 k s.heap)
  (q:∀x y T h' tk,P1 k x->P2 k y->s.heap.objs.size<=T->h'.IsTuple T #[x,y]->h'.get? z=some (CJ TI TO (rawInt T))->TwoAt h' TI (.ref i1) (.ref i2)->TwoAt h' TO x y->S1 (k+1) h'->S2 (k+1) h'->(∀c o,c≠z->c≠TO->c≠i1->c≠i2->s.heap.get? c=some o->h'.get? c=some o)->Q (.ref T) { s with heap:=h',toks:=tk }) :
  wpAny (model prog w) A.in1 (Builtin.«zip.__next__» ⟨[.ref z],[]⟩) (λfin s'=>∃v,fin=.done (.ret v)/\Q v s') E s:=by
 obtain⟨nI,eI⟩:=id hI;refine AAA (m:=field (.ref z) 2) (AAz hz rfl (x:=.bool false) rfl ?_);refine AAA (m:=field (.ref z) 3) (AAz hz rfl (x:=.ref TI) rfl ?_);refine AAA (m:=seqItems? (.ref TI)) (AA0 eI rfl ?_);refine BH (by simp) ?_;refine AAA (m:=Builtin.SmallTypes.ownedTupleIsFree (.ref z)) ?_;unfold Builtin.SmallTypes.ownedTupleIsFree;refine AAA (m:=field (.ref z) 0) (AAz hz rfl (x:=.none) rfl (AAB ?_));rw[if_pos rfl];refine AAA (wpAny_rule ?_);refine AAA (m:=field (.ref z) 4) (AAz hz rfl (x:=.ref TO) rfl ?_);refine AAA (AAs hz (by simp) λh1 z1 b1=>?_);have k1:∀c o,c≠z->s.heap.get? c=some o->h1.get? c=some o:=λc o hc e=>(b1.2 c hc).trans e;have z1':h1.get? z=some (CJ TI TO .ellipsis):=z1;have hI1:=hI.keep (h':=h1) λo e=>k1 TI o ap.zTI.symm e;have hO1:=hO.keep (h':=h1) λo e=>k1 TO o ap.zTO.symm e;have s11:=D1.frame _ _ h1 s1 λc hc o e=>k1 c o (λy=>ap.z1 (y ▸ hc)) e;have s21:=D2.frame _ _ h1 s2 λc hc o e=>k1 c o (λy=>ap.z2 (y ▸ hc)) e;refine AAA (m:=forIn [(Value.ref i1,0),(Value.ref i2,1)] _ _) ?_;rw[List.forIn_cons];refine AAA (AAA (wpAny_onRaise (AAA (D1.item k { s with heap:=h1 } _ _ hk s11 λx h2 t2 px s12 b2=>AAB ?_))));have k2:∀c o,c≠i1->h1.get? c=some o->h2.get? c=some o:=λc o hc e=>(b2.2 c hc).trans e;have ne1:∀{c:Addr},c∉f1->c≠i1:=λhc y=>hc (y ▸ ap.m1);have ne2:∀{c:Addr},c∉f2->c≠i2:=λhc y=>hc (y ▸ ap.m2);have hO2:=hO1.keep (h':=h2) λo e=>k2 TO o (ne1 ap.o1) e;have hI2:=hI1.keep (h':=h2) λo e=>k2 TI o ap.n1 e;have z2:=k2 z _ (ne1 ap.z1) z1';have s22:=D2.frame _ _ h2 s21 λc hc o e=>k2 c o (λy=>ap.x12 (y ▸ hc)) e;obtain⟨nO,eO⟩:=id hO2;refine AAA (m:=seqItems? (.ref TO)) (AA0 eO rfl ?_);refine AAA (Pl (s:={ s with heap:=h2,toks:=t2 }) (c:=x) (d:=b) hO2 rfl λh3 hO3 b3=>AAA (wpAny_letGo (AAB ?_)));have k3:∀c o,c≠TO->h2.get? c=some o->h3.get? c=some o:=λc o hc e=>(b3.2 c hc).trans e;have hI3:=hI2.keep (h':=h3) λo e=>k3 TI o ap.io e;have z3:=k3 z _ ap.zTO z2;have s13:=D1.frame _ _ h3 s12 λc hc o e=>k3 c o (λy=>ap.o1 (y ▸ hc)) e;have s23:=D2.frame _ _ h3 s22 λc hc o e=>k3 c o (λy=>ap.o2 (y ▸ hc)) e;show wpAny _ _ (forIn [(Value.ref i2,1)] _ _) _ _ _;rw[List.forIn_cons];refine AAA (AAA (wpAny_onRaise (AAA (D2.item k { s with heap:=h3,toks:=t2 } _ _ hk s23 λy h4 t4 py s24 b4=>AAB ?_))));have k4:∀c o,c≠i2->h3.get? c=some o->h4.get? c=some o:=λc o hc e=>(b4.2 c hc).trans e;have hO4:=hO3.keep (h':=h4) λo e=>k4 TO o (ne2 ap.o2) e;have hI4:=hI3.keep (h':=h4) λo e=>k4 TI o ap.n2 e;have z4:=k4 z _ (ne2 ap.z2) z3;have s14:=D1.frame _ _ h4 s13 λc hc o e=>k4 c o (λy=>ap.x21 (y ▸ hc)) e;obtain⟨nO4,eO4⟩:=id hO4;refine AAA (m:=seqItems? (.ref TO)) (AA0 eO4 rfl ?_);refine AAA (Pl (s:={ s with heap:=h4,toks:=t4 }) (c:=x) (d:=y) hO4 rfl λh5 hO5 b5=>AAA (wpAny_letGo (AAB ?_)));have k5:∀c o,c≠TO->h4.get? c=some o->h5.get? c=some o:=λc o hc e=>(b5.2 c hc).trans e;have hI5:=hI4.keep (h':=h5) λo e=>k5 TI o ap.io e;have z5:=k5 z _ ap.zTO z4;have s15:=D1.frame _ _ h5 s14 λc hc o e=>k5 c o (λy=>ap.o1 (y ▸ hc)) e;have s25:=D2.frame _ _ h5 s24 λc hc o e=>k5 c o (λy=>ap.o2 (y ▸ hc)) e;show wpAny _ _ (forIn [] _ _) _ _ _;rw[List.forIn_nil];refine AAB ?_;obtain⟨nO5,eO5⟩:=id hO5;refine AAA (m:=seqItems? (.ref TO)) (AA0 eO5 rfl ?_);refine AAA (wpAny_newTuple ?_ (by simp[sizeLine]));have kp:∀c o,h5.get? c=some o->(h5.push { cls:=.type "tuple",data:=.seq #[x,y] }).get? c=some o:=λc o e=>AAC _ e;unfold Builtin.SmallTypes.ownedTupleHandOut;refine AAA (AAA (AAs (s:={ s with heap:=h5.push { cls:=.type "tuple",data:=.seq #[x,y] },toks:=t4 }) (kp z _ z5) (by simp) λh6 z6 b6=>AAs (s:={ s with heap:=h6,toks:=t4 }) z6 (by simp) λh7 z7 b7=>AAB ⟨_,rfl,?_⟩));have sz:h5.objs.size=s.heap.objs.size:=by rw[b5.1,b4.1,b3.1,b2.1,b1.1]
 have zlt:z<h5.objs.size:=Heap.lt_size z5;have k7:∀c o,c≠z->h5.get? c=some o->h7.get? c=some o:=λc o hc e=>(b7.2 c hc).trans ((b6.2 c hc).trans (kp c o e));refine q x y h5.objs.size h7 t4 px py (by rw[sz];exact AAF _) ?_ z7 (hI5.keep λo e=>k7 TI o ap.zTI.symm e) (hO5.keep λo e=>k7 TO o ap.zTO.symm e) (D1.frame _ _ h7 s15 λc hc o e=>k7 c o (λy=>ap.z1 (y ▸ hc)) e) (D2.frame _ _ h7 s25 λc hc o e=>k7 c o (λy=>ap.z2 (y ▸ hc)) e) ?_
 ·refine⟨{ cls:=.type "tuple",data:=.seq #[x,y] },?_,rfl,0,rfl⟩;have ne:h5.objs.size≠z:=Nat.ne_of_gt zlt;exact(b7.2 _ ne).trans ((b6.2 _ ne).trans (AAD _ rfl))
 ·intro c o c1 c2 c3 c4 e;exact k7 c o c1 (k5 c o c2 (k4 c o c4 (k3 c o c2 (k2 c o c3 (k1 c o c1 e)))))
theorem MP{z TI TO i1 i2:Addr}{n:Nat}{a b:Value}(ap:Dt z TI TO i1 i2 f1 f2)(D1:Draws prog w A.in1 i1 f1 n P1 S1)
  (hz:s.heap.get? z=some (CJ TI TO .none)) (hI:TwoAt s.heap TI (.ref i1) (.ref i2)) (hO:TwoAt s.heap TO a b) (s1:S1 n s.heap)
  (q:∀h' e,(∀c o,c≠z->c≠i1->s.heap.get? c=some o->h'.get? c=some o)->(∃o,h'.get? e=some o/\o.cls=.type "StopIteration")->E (.ref e) { s with heap:=h' }) :
  wpAny (model prog w) A.in1 (Builtin.«zip.__next__» ⟨[.ref z],[]⟩) Q E s:=by
 obtain⟨nI,eI⟩:=id hI;refine AAA (m:=field (.ref z) 2) (AAz hz rfl (x:=.bool false) rfl (AAA (m:=field (.ref z) 3) (AAz hz rfl (x:=.ref TI) rfl (AAA (m:=seqItems? (.ref TI)) (AA0 eI rfl ?_)))));refine BH (by simp) (AAA (m:=Builtin.SmallTypes.ownedTupleIsFree (.ref z)) ?_);unfold Builtin.SmallTypes.ownedTupleIsFree;refine AAA (m:=field (.ref z) 0) (AAz hz rfl (x:=.none) rfl (AAB ?_));rw[if_pos rfl];refine AAA (wpAny_rule (AAA (m:=field (.ref z) 4) (AAz hz rfl (x:=.ref TO) rfl (AAA (AAs hz (by simp) λh1 z1 b1=>?_)))));have s11:=D1.frame _ _ h1 s1 λc hc o e=>(b1.2 c (λy=>ap.z1 (y ▸ hc))).trans e;refine AAA (m:=forIn [(Value.ref i1,0),(Value.ref i2,1)] _ _) ?_;rw[List.forIn_cons];refine AAA (AAA (wpAny_onRaise (AAA (D1.done { s with heap:=h1 } _ _ s11 λh2 e eb so=>?_))));have zne:z≠i1:=λy=>ap.z1 (y ▸ ap.m1);have z2:h2.get? z=some (CJ TI TO .ellipsis):=eb z _ zne z1;obtain⟨oe,he,hce⟩:=so;refine AAs (s:={ s with heap:=h2 }) z2 (by simp) λh3 z3 b3=>q h3 e (λc o c1 c2 x=>(b3.2 c c1).trans (eb c o c2 ((b1.2 c c1).trans x))) ⟨oe,?_,hce⟩;have ez:e≠z:=λy=>by
  rw[y,z2] at he;cases he;exact absurd (Value.type.inj (show Value.type "zip" = Value.type "StopIteration" from hce)) (by decide)
 exact(b3.2 e ez).trans he
theorem GC{z TI TO:Addr}(hz:s.heap.get? z=some (CJ TI TO f0))(h:Q (.ref z) s):wpAny (model prog w) A (pyIter (.ref z)) Q E s:=wpAny_pyIter_zip hz h
theorem RC(hh:A.handled=none){z TI TO i1 i2:Addr}{n:Nat}{S1 S2:Nat->Heap->Prop}{f1 f2:List Addr}(ap:Dt z TI TO i1 i2 f1 f2)
  (D1:Draws prog w A.in1 i1 f1 n P1 S1) (D2:Draws prog w A.in1 i2 f2 n P2 S2) :
  WalksT prog w A z (z::TI::TO::(f1++f2)) [z,TI,TO,i1,i2] n (λk vals=>∃x y,P1 k x/\P2 k y/\vals=#[x,y])
   (λk h=>h.get? z=some (CJ TI TO .none)/\TwoAt h TI (.ref i1) (.ref i2)/\(∃a b,TwoAt h TO a b)/\S1 k h/\S2 k h)
   (λk T h=>h.get? z=some (CJ TI TO (rawInt T))/\TwoAt h TI (.ref i1) (.ref i2)/\(∃a b,TwoAt h TO a b)/\S1 (k+1) h/\S2 (k+1) h/\T≠z/\T≠TI/\T≠TO/\T≠i1/\T≠i2) where
 sub:=λc hc=>by
  have hc':c=z∨c=TI∨c=TO∨c=i1∨c=i2:=by simpa using hc
  rcases hc' with e|e|e|e|e<;>subst e
  ·simp
  ·simp
  ·simp
  ·simp[ap.m1]
  ·simp[ap.m2]
 frame:=λk h h' st kp=>by
  obtain⟨a1,a2,⟨a,b,a3⟩,a4,a5⟩:=st;exact⟨kp z (by simp) _ a1,a2.keep λo e=>kp TI (by simp) o e,⟨a,b,a3.keep λo e=>kp TO (by simp) o e⟩,D1.frame _ _ _ a4 λc hc o e=>kp c (by simp[hc]) o e,D2.frame _ _ _ a5 λc hc o e=>kp c (by simp[hc]) o e⟩
 item:=λk s Q E hk st q=>by
  obtain⟨a1,a2,⟨a,b,a3⟩,a4,a5⟩:=st;have ty:s.TypeIs (.ref z) "zip" := ⟨_,a1,rfl⟩;unfold pyNext;refine AAA (AA1 (wpAny_callSpecial?_slot (name:=Str.ofString "__next__") ty F.slot_zip_next (AAe F.slot_zip_next ty F.entry_zip_next (MQ ap D1 D2 hk a1 a2 a3 a4 a5 λx y T h' tk px py hT tup b1 b2 b3 b4 b5 kp=>?_) (F.args_zip_next_1 _))));have lt:∀{c:Addr} {o:Obj},s.heap.get? c=some o->T≠c:=λe=>Nat.ne_of_gt (AAN (Heap.lt_size e) hT);obtain⟨o1,e1⟩:=D1.live _ _ a4;obtain⟨o2,e2⟩:=D2.live _ _ a5;obtain⟨n3,e3⟩:=a3;obtain⟨n4,e4⟩:=id a2;refine AAB (q T #[x,y] h' tk ⟨x,y,px,py,rfl⟩ hT tup ⟨b1,b2,⟨x,y,b3⟩,b4,b5,lt a1,lt e4,lt e3,lt e1,lt e2⟩ λc o hc e=>?_);exact kp c o (λz=>hc (by simp[z])) (λz=>hc (by simp[z])) (λz=>hc (by simp[z])) (λz=>hc (by simp[z])) e
 go:=λes k0 pos k T s Q E st q=>by
  obtain⟨a1,a2,a3,a4,a5,t1,t5,t2,t3,t4⟩:=st;refine wpAny_letOwnedTupleGo_zip a1 λh' hz' sb=>?_;have kp:∀c o,c≠z->s.heap.get? c=some o->h'.get? c=some o:=λc o hc e=>(sb.2 c hc).trans e;obtain⟨a,b,a3⟩:=a3;refine q h' ⟨hz',a2.keep λo e=>kp TI o ap.zTI.symm e,⟨a,b,a3.keep λo e=>kp TO o ap.zTO.symm e⟩,D1.frame _ _ _ a4 λc hc o e=>kp c o (λy=>ap.z1 (y ▸ hc)) e,D2.frame _ _ _ a5 λc hc o e=>kp c o (λy=>ap.z2 (y ▸ hc)) e⟩ λc o hc e=>kp c o (λy=>hc (by simp[y])) e
 apart:=λk T h st hT=>by
  obtain⟨_,_,_,_,_,t1,t5,t2,t3,t4⟩:=st;have hT':T=z∨T=TI∨T=TO∨T=i1∨T=i2:=by simpa using hT
  rcases hT' with e|e|e|e|e
  ·exact t1 e
  ·exact t5 e
  ·exact t2 e
  ·exact t3 e
  ·exact t4 e
 done:=λs Q E st q=>by
  obtain⟨a1,a2,⟨a,b,a3⟩,a4,a5⟩:=st;have ty:s.TypeIs (.ref z) "zip" := ⟨_,a1,rfl⟩;unfold pyNext;refine AAA (AA1 (wpAny_callSpecial?_slot (name:=Str.ofString "__next__") ty F.slot_zip_next (AAe F.slot_zip_next ty F.entry_zip_next (MP ap D1 a1 a2 a3 a4 λh' e kp so=>?_) (F.args_zip_next_1 _))));obtain⟨o,ho,hc⟩:=so;refine AAA (AA2 (T := "StopIteration") (b:=true) ⟨o,ho,hc⟩ isSubtype_stop (AAB (q h' s.toks λc o hc e=>?_)));exact kp c o (λy=>hc (by simp[y])) (λy=>hc (by simp[y])) e
 self:=λk s Q E st h=>GC st.1 h
end
end L2
namespace L2
open PySem PySem.Spec PyProof.Rows
noncomputable abbrev EG(a b:Value):Obj:={ cls:=.type "tuple",data:=.seq #[a,b] }
noncomputable abbrev zh2(h:Heap)(o1 o2:Obj):Heap:=(h.push o1).push o2
noncomputable abbrev zh4(h:Heap)(o1 o2:Obj):Heap:=((zh2 h o1 o2).push (EG (.ref h.objs.size) (.ref (h.push o1).objs.size))).push (EG .none .none)
noncomputable abbrev zh5(h:Heap)(o1 o2:Obj):Heap:=(zh4 h o1 o2).push (CJ (zh2 h o1 o2).objs.size ((zh2 h o1 o2).push (EG (.ref h.objs.size) (.ref (h.push o1).objs.size))).objs.size .none)
theorem PU(v1 v2:Value)(o1 o2:Obj)(g1 g2:Heap->Prop)(g2p:∀h,g2 h->g2 (h.push o1))
  (w1:∀(prog:Program) (w:World) (A:Around) (E:Value->Shared->Prop) (s:Shared) (Q:Value->Shared->Prop),g1 s.heap->Q (.ref s.heap.objs.size) { s with heap:=s.heap.push o1 }->wpAny (model prog w) A (pyIter v1) Q E s)
  (w2:∀(prog:Program) (w:World) (A:Around) (E:Value->Shared->Prop) (s:Shared) (Q:Value->Shared->Prop),g2 s.heap->Q (.ref s.heap.objs.size) { s with heap:=s.heap.push o2 }->wpAny (model prog w) A (pyIter v2) Q E s) :
  Meets (Builtin.«zip.__new__» ⟨[.type "zip",v1,v2],[]⟩) (λ_ R s=>g1 s.heap/\g2 s.heap/\R (.ok (.ret (.ref (zh4 s.heap o1 o2).objs.size))) { s with heap:=zh5 s.heap o1 o2 }):=by
 refine .of_wp λprog w A R s ⟨x1,x2,q⟩=>?_;have own:=sub_zip;have walk1:∀(A:Around) (E:Value->Shared->Prop) (Q:Value->Shared->Prop),Q (.ref s.heap.objs.size) { s with heap:=s.heap.push o1 }->wpAny (model prog w) A (pyIter v1) Q E s:=λA E Q z=>w1 prog w A E s Q x1 z;have walk2:∀(A:Around) (E:Value->Shared->Prop) (Q:Value->Shared->Prop),Q (.ref (s.heap.push o1).objs.size) { s with heap:=zh2 s.heap o1 o2 }->wpAny (model prog w) A (pyIter v2) Q E { s with heap:=s.heap.push o1 }:=λA E Q z=>w2 prog w A E { s with heap:=s.heap.push o1 } Q (g2p _ x2) z;obtain⟨hp,gs,dr,tk,os⟩:=s
 wp_walk using walk1,walk2
 exact⟨_,rfl,q⟩
noncomputable def LN(xs ys:List V)(i:Nat):List V:=[xs.getD i .non,ys.getD i .non]
theorem Q3(r:Vals xs its)(r2:Vals ys jts)(h:∃x y,its.toArray[i]?=some x/\jts.toArray[i]?=some y/\vals=#[x,y]):Vals (LN xs ys i) vals.toList:=by
 obtain⟨x,y,hx,hy,rfl⟩:=h;have one:∀{zs:List V} {us:List Value} {u:Value},Vals zs us->us.toArray[i]?=some u->RelV (zs.getD i .non) u:=λ{zs us u} rz hu=>by
  have hu':us[i]?=some u:=by simpa using hu
  have hl:=rz.length;have lt:i<zs.length:=by have:=(AAU.mp hu').1;omega
  obtain⟨u',e1,e2⟩:=rz.get (show zs[i]?=some zs[i] by simp[lt]);rw[hu'] at e1;cases e1;simpa[List.getD,lt] using e2
 exact .cons (one r hx) (.cons (one r2 hy) .nil)
theorem RF{P:Program}{w:World}{K:PySem.W.Frag}(a b z TI TO i1 i2:Addr)(xs ys:List V)(hl:ys.length=xs.length)(ap:Dt z TI TO i1 i2 [i1,a] [i2,b])(h1:a≠i1)(h2:b≠i2):
  ML P w K (.Tuple es k0 pos) (ItP K xs.length (LN xs ys) λK H=>SqT K H a xs/\SqT K H b ys) [z,TI,TO,i1,i2] z (λi h=>h.get? z=some (CJ TI TO .none)/\TwoAt h TI (.ref i1) (.ref i2)/\(∃c d,TwoAt h TO c d)/\h.IsTupleIter i1 a i/\h.IsTupleIter i2 b i):=by
 refine Im (ι:=List Value×List Value) (good:=λp=>Vals xs p.1/\Vals ys p.2) (Pt:=λp i vals=>∃x y,p.1.toArray[i]?=some x/\p.2.toArray[i]?=some y/\vals=#[x,y])
  (Sw:=λp i h=>h.get? z=some (CJ TI TO .none)/\TwoAt h TI (.ref i1) (.ref i2)/\(∃c d,TwoAt h TO c d)/\(h.IsTupleIter i1 a i/\h.IsTuple a p.1.toArray)/\(h.IsTupleIter i2 b i/\h.IsTuple b p.2.toArray))
  (Mid:=λp i T h=>h.get? z=some (CJ TI TO (rawInt T))/\TwoAt h TI (.ref i1) (.ref i2)/\(∃c d,TwoAt h TO c d)/\(h.IsTupleIter i1 a (i+1)/\h.IsTuple a p.1.toArray)/\(h.IsTupleIter i2 b (i+1)/\h.IsTuple b p.2.toArray)/\T≠z/\T≠TI/\T≠TO/\T≠i1/\T≠i2)
  (fp:=z::TI::TO::([i1,a]++[i2,b]))
  (λA hA p r=>?walk) AAQ (λp i vals r h=>Q3 r.1 r.2 h) (λi=>(by show 2<=sizeLine;decide)) (λi h st=>?obj) (λi h h' st k=>?keep) (λX pins σ H s i hP hw hK I hc st=>?into) (λp i h st=>⟨st.1,st.2.1,st.2.2.1,st.2.2.2.1.1,st.2.2.2.2.1⟩) (λA i s Q E st h=>GC st.1 h)
 case walk=>
  have l1:p.1.toArray.size=xs.length:=by rw[List.size_toArray];exact r.1.length.symm
  have l2:p.2.toArray.size=xs.length:=by rw[List.size_toArray,←hl];exact r.2.length.symm
  have D1:=FZ (prog:=P) (w:=w) (A:=A.in1) hA i1 a h1 p.1.toArray;have D2:=FZ (prog:=P) (w:=w) (A:=A.in1) hA i2 b h2 p.2.toArray;rw[l1] at D1;rw[l2] at D2;exact RC hA ap D1 D2
 case obj=>
  intro c hc;obtain⟨a1,⟨n1,a2⟩,⟨c0,d0,n2,a3⟩,⟨o4,a4,_,d4⟩,⟨o5,a5,_,d5⟩⟩:=st;have hc':c=z∨c=TI∨c=TO∨c=i1∨c=i2:=by simpa using hc
  rcases hc' with e|e|e|e|e<;>subst e
  ·exact⟨_,a1,λv q=>by cases q⟩
  ·exact⟨_,a2,λv q=>by cases q⟩
  ·exact⟨_,a3,λv q=>by cases q⟩
  ·exact⟨_,a4,λv q=>by rw[d4] at q;cases q⟩
  ·exact⟨_,a5,λv q=>by rw[d5] at q;cases q⟩
 case keep=>
  obtain⟨a1,a2,⟨c0,d0,a3⟩,⟨o4,a4,r4⟩,⟨o5,a5,r5⟩⟩:=st;exact⟨k z (by simp) _ a1,a2.keep λo e=>k TI (by simp) o e,⟨c0,d0,a3.keep λo e=>k TO (by simp) o e⟩,⟨o4,k i1 (by simp) o4 a4,r4⟩,⟨o5,k i2 (by simp) o5 a5,r5⟩⟩
 case into=>
  subst hK;obtain⟨c1,c2⟩:=hc;obtain⟨a1,a2,a3,a4,a5⟩:=st;obtain⟨its,r,p,_⟩:=I.tuple c1;obtain⟨jts,r2,p2,_⟩:=I.tuple c2;exact⟨(its,jts),⟨r,r2⟩,a1,a2,a3,⟨a4,p⟩,⟨a5,p2⟩⟩
section
theorem N7:bootBuiltins "zip" = some (.type "zip"):=by decide +kernel
noncomputable def cG(K:PySem.W.Frag)(ta:TA):TI:=λσ H R=>ta σ H λvs H1=>∃a b xs ys,vs=[.ref a,.ref b]/\SqT K H1 a xs/\SqT K H1 b ys/\ys.length=xs.length/\R (ItP K xs.length (LN xs ys) λK H=>SqT K H a xs/\SqT K H b ys) H1
end
section
variable{X:Cx}{es:List Expr}{k0:Nat}{tpos:Pos}
theorem nin(h1:c≠n)(h2:c≠l):c∉([n,l]:List Nat):=λh=>by
 have h':c=n∨c=l:=by simpa using h
 exact h'.elim h1 h2
theorem zap(n l m:Nat)(hl:l<n)(hm:m<n):Dt (n+4) (n+2) (n+3) n (n+1) [n,l] [n+1,m] where
 zTI:=(by omega:¬(n+4:Nat)=n+2)
 zTO:=(by omega:¬(n+4:Nat)=n+3)
 io:=(by omega:¬(n+2:Nat)=n+3)
 z1:=nin (by omega) (by omega)
 z2:=nin (by omega) (by omega)
 o1:=nin (by omega) (by omega)
 o2:=nin (by omega) (by omega)
 n1:=(by omega:¬(n+2:Nat)=n)
 n2:=(by omega:¬(n+2:Nat)=n+1)
 m1:=AAQ
 m2:=AAQ
 x12:=nin (by omega) (by omega)
 x21:=nin (by omega) (by omega)
theorem YL(I:Inv X pins σ H s)(c:Addr)(hc:s.heap.objs.size<=c):Ew X pins H c:=I.fpOk hc (I.hok.fresh hc)
theorem XS(hg:Gl X "zip")(hm:X.mg "zip" = none)(ha:PA X [a,b] ta)(hs:starEach [a,b] X.env=(false,eval a X.env)::starEach [b] X.env)(hpl:(backTo pos (starEach [b] X.env)).any (·.1)=false):
  PI X (.Tuple es k0 tpos) (.Call (.Name "zip" p) [a,b] [] pos) (cG X.K ta):=by
 intro pins s σ H R I h;refine Call_ (FN I hg hm N7 (PyProof.Rows.callWith_type1 (thn (ha pos pins s σ H _ I h) λus s1 ⟨vs,H1,I1,r1,q1⟩=>?_) hs hpl));obtain⟨l,m,xs,ys,ev,hx,hy,hl,q⟩:=q1;subst ev;obtain⟨u1,u2,eu,ru1,ru2⟩:=Vals.two r1;subst eu;cases ru1;cases ru2;obtain⟨its,rx,px,_⟩:=I1.tuple hx;obtain⟨jts,ry,py,_⟩:=I1.tuple hy;have ltl:l<s1.heap.objs.size:=by obtain⟨o,e,_⟩:=px;exact Heap.lt_size e
 have ltm:m<s1.heap.objs.size:=by obtain⟨o,e,_⟩:=py;exact Heap.lt_size e
 have new:=PU (.ref l) (.ref m) { cls:=.type "tuple_iterator",data:=.fields #[.ref l,.int 0 0] } { cls:=.type "tuple_iterator",data:=.fields #[.ref m,.int 0 0] } (λh=>h.IsTuple l its.toArray) (λh=>h.IsTuple m jts.toArray) (λh x=>x.push _) (λ_ _ _ _ _ _ g z=>wpAny_pyIter_tuple g z) (λ_ _ _ _ _ _ g z=>wpAny_pyIter_tuple g z);refine callType_new F.called_zip (by decide) (F.typeCall_zip_2 _ _) (F.newCall_zip_2 _ _) (λobj=>F.args_object_init_3 obj _ _) F.entry_zip_new new ⟨px,py,?_⟩;generalize ho1:({ cls:=.type "tuple_iterator",data:=.fields #[.ref l,.int 0 0] }:Obj)=o1;generalize ho2:({ cls:=.type "tuple_iterator",data:=.fields #[.ref m,.int 0 0] }:Obj)=o2;have n1:(s1.heap.push o1).objs.size=s1.heap.objs.size+1:=Heap.size_push ..;have n2:(zh2 s1.heap o1 o2).objs.size=s1.heap.objs.size+2:=by rw[Heap.size_push,n1]
 have n3:((zh2 s1.heap o1 o2).push (EG (.ref s1.heap.objs.size) (.ref (s1.heap.push o1).objs.size))).objs.size=s1.heap.objs.size+3:=by rw[Heap.size_push,n2]
 have n4:(zh4 s1.heap o1 o2).objs.size=s1.heap.objs.size+4:=by rw[Heap.size_push,n3]
 have kp:∀c o,s1.heap.get? c=some o->(zh5 s1.heap o1 o2).get? c=some o:=λc o e=>AAC _ (AAC _ (AAC _ (AAC _ (AAC _ e))));have f1:o1.isFreed=false:=by rw[←ho1];rfl
 have f2:o2.isFreed=false:=by rw[←ho2];rfl
 have a1:(zh5 s1.heap o1 o2).get? s1.heap.objs.size=some o1:=AAC _ (AAC _ (AAC _ (AAC _ (AAD _ f1))));have a2:(zh5 s1.heap o1 o2).get? (s1.heap.objs.size+1)=some o2:=by rw[←n1];exact AAC _ (AAC _ (AAC _ (AAD _ f2)))
 have a3:(zh5 s1.heap o1 o2).get? (s1.heap.objs.size+2)=some (EG (.ref s1.heap.objs.size) (.ref (s1.heap.objs.size+1))):=by
  rw[←n1,←n2];exact AAC _ (AAC _ (AAD _ rfl))
 have a4:(zh5 s1.heap o1 o2).get? (s1.heap.objs.size+3)=some (EG .none .none):=by
  rw[←n3];exact AAC _ (AAD _ rfl)
 have a5:(zh5 s1.heap o1 o2).get? (s1.heap.objs.size+4)=some (CJ (s1.heap.objs.size+2) (s1.heap.objs.size+3) .none):=by
  rw[←n4,←n2,←n3];exact AAD _ rfl
 show _/\_;rw[n4];refine⟨⟨_,a5,rfl⟩,GC a5 ?_⟩;refine⟨s1.heap.objs.size+4,[s1.heap.objs.size+4,s1.heap.objs.size+2,s1.heap.objs.size+3,s1.heap.objs.size,s1.heap.objs.size+1],_,_,H1,rfl,I1.kept (t':=s1.toks) kp,
  RF l m (s1.heap.objs.size+4) (s1.heap.objs.size+2) (s1.heap.objs.size+3) s1.heap.objs.size (s1.heap.objs.size+1) xs ys hl (zap _ l m ltl ltm) (AAf ltl) (AAf (AAj ltm)),⟨a5,⟨_,a3⟩,⟨_,_,_,a4⟩,⟨o1,a1,by rw[←ho1],by rw[←ho1];rfl⟩,⟨o2,a2,by rw[←ho2],by rw[←ho2];rfl⟩⟩,λc hc=>YL I1 c ?_,q⟩
 have hc':c=s1.heap.objs.size+4∨c=s1.heap.objs.size+2∨c=s1.heap.objs.size+3∨c=s1.heap.objs.size∨c=s1.heap.objs.size+1:=by simpa using hc
 rcases hc' with e|e|e|e|e<;>subst e<;>first|exact AAF _|exact Nat.le_add_right _ _
end
end L2
namespace Mi
open PySem L2
section
variable{X:Cx}{a b:Expr}{es:List Expr}{pos:Pos}
noncomputable def Gu:List D->List D->List D
 |x::xs,y::ys=>.tup [x,y]::Gu xs ys
 |_,_=>[]
noncomputable def PV:List D->M (List D)
 |[.tup xs,.tup ys]=>λμ=>if ys.length=xs.length then some (Gu xs ys,μ) else none
 |_=>BG
noncomputable def Xq(m:Sl->M (List D)):Sl->M (List D):=λτ=>bnd (m τ) PV
theorem MR:∀{xs ys:List D},ys.length=xs.length->(Gu xs ys).length=xs.length
 |[],[],_=>rfl
 |x::xs,y::ys,h=>by unfold Gu;simp at h ⊢;exact MR h
 |[],_::_,h=>by simp at h
 |_::_,[],h=>by simp at h
theorem MS:∀{xs ys:List D} {j:Nat} {d:D},(Gu xs ys)[j]?=some d->∃x y,xs[j]?=some x/\ys[j]?=some y/\d=.tup [x,y]
 |[],_,j,d,h=>by simp[Gu] at h
 |_::_,[],j,d,h=>by simp[Gu] at h
 |x::xs,y::ys,0,d,h=>by simp[Gu] at h;exact⟨x,y,rfl,rfl,h.symm⟩
 |x::xs,y::ys,j+1,d,h=>by
  obtain⟨x',y',h1,h2,h3⟩:=MS (xs:=xs) (ys:=ys) (j:=j) (d:=d) (by simpa[Gu] using h);exact⟨x',y',by simpa using h1,by simpa using h2,h3⟩
theorem X7{K:PySem.W.Frag}{ι:Nat->Addr}{μ:Mh}{ds es:List D}{Cond:PySem.W.Frag->Hp->Prop}(st:∀ι' (μ':Mh) H',Ext ι μ.length H ι' μ'.length H'->RelH K ι' μ' H'->Cond K H')(i:IsL K ι μ.length H ds vs)(j:IsL K ι μ.length H es ws)(hl:es.length=ds.length):
  ItM K (ItP K vs.length (LN vs ws) Cond) (Gu ds es) ι μ H:=by
 intro ι' μ' H' E R;have h:=st ι' μ' H' E R;rw[MR hl,←i.length];refine⟨λj hj=>⟨hj,h⟩,⟨rfl,h⟩,λk x H2 d hd y=>?_⟩;obtain⟨T,hT,rfl,rfl⟩:=y;obtain⟨E2,R2⟩:=R.laid (.tup (LN vs ws k)) hT;refine⟨E2,R2,?_⟩;obtain⟨x,y,h1,h2,rfl⟩:=MS hd;obtain⟨v,ev,iv⟩:=(i.ext E).get h1;obtain⟨u,eu,iu⟩:=(j.ext E).get h2;have es':LN vs ws k=[v,u]:=by unfold LN;simp[List.getD,ev,eu]
 have key:IsL K ι' (List.length μ') (upd H' T (.tup (LN vs ws k))) [x,y] [v,u]:=.cons (iv.ext E2) (.one (iu.ext E2));unfold Is;exact⟨T,_,rfl,SqT.of BK,(congrArg (IsL K ι' (List.length μ') (upd H' T (.tup (LN vs ws k))) [x,y]) es').mpr key⟩
theorem W3{p tpos:Pos}{m:Sl->M (List D)}(hm:X.mg "zip" = none)(ha:RA X [a,b] m)(hg:Gl X "zip" := by rfl)(hs:starEach [a,b] X.env=(false,eval a X.env)::starEach [b] X.env:=by exact Ak rfl)(hpl:(backTo pos (starEach [b] X.env)).any (·.1)=false:=by exact BS rfl):
  RI X (.Tuple es k0 tpos) (.Call (.Name "zip" p) [a,b] [] pos) (Xq m):=
 RI.wk (XS hg hm ha.pe hs hpl) λσ H R q=>by
  obtain⟨ι,μ,τ,ds,μ',R0,S,e,q⟩:=q;obtain⟨xs,μ1,e1,e2⟩:=AI e;refine⟨ι,μ,τ,xs,μ1,R0,S,e1,λι1 H1 E1 R1 vs i1=>?_⟩;unfold PV at e2;split at e2
  ·rename_i xs ys;split at e2
   ·rename_i hl;cases e2;obtain⟨v,u,rfl,i2,i3⟩:=aU i1;unfold Is at i2 i3;obtain⟨p,ws,rfl,h1,h2⟩:=i2;obtain⟨p',ws',rfl,h1',h2'⟩:=i3;exact⟨p,p',ws,ws',rfl,h1,h1',by rw[h2.length,h2'.length];exact hl,q ι1 H1 E1 R1 _ (X7 (λι' μ' H' E _=>⟨GJ E h1,GJ E h1'⟩) h2 h2' hl)⟩
   ·cases e2
  ·cases e2
end
end Mi
namespace L2
open PySem PySem.Spec PyProof.Rows Sem
noncomputable def DM(xs:List Str):List Str:=xs.foldl (λys x=>if x∈ys then ys else ys++[x]) []
theorem Rm(xs:List Str)(x:Str):DM (xs++[x])=if x∈DM xs then DM xs else DM xs++[x]:=by
 unfold DM;rw[List.foldl_append];rfl
theorem Ko:∀(xs ys:List Str),(xs.foldl (λys x=>if x∈ys then ys else ys++[x]) ys).length<=ys.length+xs.length
 |[],ys=>AAF _
 |x::xs,ys=>by
  rw[List.foldl_cons];have:=Ko xs (if x∈ys then ys else ys++[x]);split at this<;>simp at this ⊢<;>(try split)<;>simp_all<;>omega
theorem QP(xs:List Str):(DM xs).length<=xs.length:=by
 have:=Ko xs [];simpa[DM] using this
section
variable{prog:Program}{w:World}{A:Around}{E:Value->Shared->Prop}{s:Shared}
set_option maxHeartbeats 2000000 in
theorem QY(ft:TypeCalled T nid iid)(ok:checkTypeCall T ⟨args,[]⟩=pure ())
  (new:codeAny (model prog w) A.in1 (.call (.builtin nid) ⟨.type T::args,[]⟩) (wants Q₁ E) s)
  (init:∀x s₁,Q₁ x s₁->s₁.TypeIs x T/\codeAny (model prog w) A.in1 (.call (.builtin iid) ⟨x::args,[]⟩) (wants (λr s₂=>r=.none/\Q x s₂) E) s₁) :
  wpAny (model prog w) A (call (.type T) args) Q E s:=by
 have a1:=ft.notType;have a2:=ft.canCreate;have a3:=ft.made;have a4:=ft.sub;obtain⟨c,tl,a5⟩:=ft.mro;have step:codeAny (model prog w) A (.builtin "type.__call__" ⟨.type T::args,[]⟩) (wants Q E) s:=by
  refine codeAny_builtin F.entry_type_call ?_;rw[Around.under_plain (weight_type_call_type T args []) rfl];unfold Builtin.«type.__call__»
  iterate 3 (any_goals (first|assumption|wp_step))
  first|refine AAy ok ?_|refine AAA (AAy ok ?_)
  repeat (any_goals (first|assumption|wp_step))
  refine codeAny_mono new λr s₁ hr=>?_
  match r,hr with
  | .error e,hr=>exact hr
  | .ok (.ret x),hr=>
   obtain⟨ty,run⟩:=init x s₁ hr;have b1:=ft.init.lookup;have b2:=ft.init.bind x
   repeat (any_goals (first|assumption|wp_step))
   refine codeAny_mono run λr₂ s₂ hr₂=>?_
   match r₂,hr₂ with
   | .error e,hr₂=>exact hr₂
   | .ok (.ret y),hr₂=>
    obtain⟨ey,hq⟩:=hr₂;subst ey
    repeat (any_goals (first|assumption|wp_step))
 exact wpAny_call (codeAny_of_tree (AAB ⟨Code.quiet_builtin _ (by decide +kernel),step⟩))
noncomputable abbrev Ay(led:Bool):Obj:={ cls:=.type "set",data:=.set #[] 0 (.fresh 0 0 led) }
end
end L2
namespace Mi
open PySem L2
noncomputable def GH:List D->Option (List Str)
 |[]=>some []
 | .str x::ds=>(GH ds).map (x::·)
 |_=>none
theorem Mq:∀{ds:List D} {vs:List V} {ss:List Str},IsL K ι k H ds vs->GH ds=some ss->vs=ss.map V.str
 |[],_,_,h,e=>by cases e;unfold IsL at h;exact h
 |d::ds,_,_,h,e=>by
  cases d with
  |str x=>
   unfold IsL at h;obtain⟨v,vs',rfl,h1,h2⟩:=h;have e':(GH ds).map (x::·)=some _:=e;cases q:GH ds with
   |none=>rw[q] at e';cases e'
   |some ss=>
    rw[q] at e';cases e';unfold Is at h1;rw[h1,Mq h2 q];rfl
  |_=>cases e
inductive How where
 |all|drop|frz
noncomputable def Ui(μ2:Mh):How->D->D
 | .frz,.ref n=>match μ2[n]? with
  |some (.lst ds)=>.lst ds
  |_=>.ref n
 |_,d=>d
noncomputable def Lv(μ μ2:Mh):How->Mh
 | .all=>μ2
 |_=>μ2.take μ.length
open Classical in
noncomputable def An(hw:How)(n ps:Nat)(mb:Sl->M (Fl×Sl)):List D->M D:=λds μ=>match mb (Bi n ds) μ with
 |some ((fl,_),μ2)=>if ds.length=ps/\(fl=.next∨∃d,fl=.rt d)/\J7 μ μ2 (Lv μ μ2 hw) (JL fl) (Ui μ2 hw (JL fl)) then some (Ui μ2 hw (JL fl),Lv μ μ2 hw) else none
 |none=>none
theorem DW(h:An hw n ps mb ds μ=some (d,μ')):
  ds.length=ps/\∃fl τ2 μ2,mb (Bi n ds) μ=some ((fl,τ2),μ2)/\(fl=.next∨∃d,fl=.rt d)/\J7 μ μ2 μ' (JL fl) d:=by
 unfold An at h;split at h
 ·rename_i fl τ2 μ2 e;split at h
  ·rename_i c;cases h;exact⟨c.1,fl,τ2,μ2,e,c.2.1,c.2.2⟩
  ·cases h
 ·cases h
theorem DX(e:mb (Bi n ds) μ=some ((fl,τ2),μ2))(hl:ds.length=ps)(hf:fl=.next∨∃d,fl=.rt d)(t:J7 μ μ2 (Lv μ μ2 hw) (JL fl) (Ui μ2 hw (JL fl))):
  An hw n ps mb ds μ=some (Ui μ2 hw (JL fl),Lv μ μ2 hw):=by
 unfold An;rw[e];exact if_pos ⟨hl,hf,t⟩
theorem F9(e:mb (Bi n ds) μ=some ((.rt d,τ2),μ++g))(hl:ds.length=ps)(c:Cl μ.length d):An .drop n ps mb ds μ=some (d,μ):=by
 have t:Lv μ (μ++g) .drop=μ:=by show (μ++g).take μ.length=μ;rw[List.take_left]
 have h:=DX (hw:=.drop) e hl (.inr ⟨d,rfl⟩) (by rw[t];exact Ip c);rw[t] at h;exact h
theorem SL(e:mb (Bi n ds) μ=some ((.rt (.ref k),τ2),μ++g))(hl:ds.length=ps)(hk:μ.length<=k)(hg:(μ++g)[k]?=some (.lst es))(c:ClL μ.length es):An .frz n ps mb ds μ=some (.lst es,μ):=by
 have t:Lv μ (μ++g) .frz=μ:=by show (μ++g).take μ.length=μ;rw[List.take_left]
 have o:Ui (μ++g) .frz (JL (.rt (.ref k)))=.lst es:=by
  show (match (μ++g)[k]? with|some (.lst ds)=>D.lst ds|_=>.ref k)=_;rw[hg]
 have h:=DX (hw:=.frz) e hl (.inr ⟨_,rfl⟩) (by rw[t,o];exact⟨⟨g,rfl⟩,AAF _,λ_ _ z=>.inl z,.inr ⟨k,es,rfl,hg,hk,rfl,c⟩⟩);rw[t,o] at h;exact h
theorem O9(e:mb (Bi n ds) μ=some ((.rt (.lst es),τ2),μ++g))(hl:ds.length=ps)(c:ClL μ.length es):An .frz n ps mb ds μ=some (.lst es,μ):=by
 have t:Lv μ (μ++g) .frz=μ:=by show (μ++g).take μ.length=μ;rw[List.take_left]
 have h:=DX (hw:=.frz) e hl (.inr ⟨_,rfl⟩) (by rw[t];exact Ip (by show Cl _ (D.lst es);unfold Cl;exact c));rw[t] at h;exact h
theorem Ao(hw:How)(F:Fun K x qual st f fd)(S:Ae N ps (AO st))(hm:mg x=some (.ref f))(hb:Binds K fd ps [])
  (body:∀(cdv:Value) (A:Around) (outer:List Env) (s:Shared) (H:Hp) (E:XK),Room k (A.deeper (PyProof.Rows.envOfC qual (AO st) s.heap.objs.size f cdv))->RSs (IH CX0 P w K mg base N qual (AO st) f cdv A outer s H E).nox (Bq st) mb) :
  Fn P w K mg base x ps (k+1) (An hw N.length ps.length mb):=
 aY F S hm hb body (λds μ r h=>(DW (d:=r.1) (μ':=r.2) h).1) (λds μ d μ' h=>(DW h).2)
theorem Fn.mono(F:Fn P w K mg base x ps j φ)(h:j<=k):Fn P w K mg base x ps k φ:=by
 obtain⟨len,f,fd,F,hm,hk,hb⟩:=F;exact⟨len,f,fd,F.mono h,hm,hk,hb⟩
theorem C5(F:Fun K x qual st f fd)(hm:mg x=some (.ref f))(hb:Binds K fd ps []):Fn P w K mg base x ps k (λ_=>BG):=by
 refine⟨(λds μ r h=>absurd (show (none:Option (D×Mh))=some r from h) (by simp)),⟨f,fd,⟨λvs H Q E h=>?_,λA outer s H args us vs Q E _ _ _ _ h=>?_⟩,hm,F.kp,hb⟩⟩
 ·obtain⟨_,ι,μ,as,d,μ',_,_,e,_⟩:=h;cases e
 ·obtain⟨_,ι,μ,as,d,μ',_,_,e,_⟩:=h;cases e
section
variable{P:Program}{w:World}{K:PySem.W.Frag}{mg:Str->Option Value}{base h:Heap}{x:Str}
def G0:List Value->Option (List Str)
 |[]=>some []
 | .str s _::r=>(G0 r).map (s::·)
 |_::_=>none
theorem Hf:∀{us:List Value} {xs:List Str},G0 us=some xs->Vals (xs.map V.str) us
 |[],xs,e=>by cases e;exact .nil
 |u::r,xs,e=>by
  cases u with
  |str s t=>
   have e:(G0 r).map (s::·)=some xs:=e;cases q:G0 r with
   |none=>rw[q] at e;cases e
   |some ys=>rw[q] at e;cases e;exact .cons ⟨t,rfl⟩ (Hf q)
  |_=>cases e
def TupLit(K:PySem.W.Frag)(p:Addr)(xs:List Str):Prop:=∃od its n sl,K.lookup p=some ⟨.type "tuple",od,.seq its n,sl⟩/\G0 its.toList=some xs
theorem a0(l:K.lookup p=some ⟨.type "tuple",od,.seq its n,sl⟩)(e:G0 its.toList=some xs):TupLit K p xs:=⟨od,its,n,sl,l,e⟩
theorem Nc:∀xs:List Str,IsL K ι k H (xs.map D.str) (xs.map V.str)
 |[]=>.nil
 |_::r=>.cons (by unfold Is;rfl) (Nc r)
theorem TupLit.is(h:TupLit K p xs)(hl:xs.length<=1000):Is K ι k H (.tup (xs.map D.str)) (.ref p):=by
 obtain⟨od,its,n,sl,l,e⟩:=h;have v:=Hf e;unfold Is;refine⟨p,_,rfl,.inr ⟨_,its,n,l,rfl,rfl,?_,v⟩,Nc xs⟩;have:=v.length;rw[AAG] at this;have z:its.size=xs.length:=by rw[this];simp
 rw[z];exact Nat.le_of_lt (G3 hl)
theorem L8(X:K.In h)(G:h.Ns mainGlobals mg)(a:PySem.W.nsIn K mainGlobals x=some (some (.int i t))):Glo K mg x (.int i):=
 ⟨_,.int i,PySem.W.mg_of X G a,⟨t,rfl⟩,λ_ _ _=>by unfold Is;rfl⟩
theorem YG(X:K.In h)(G:h.Ns mainGlobals mg)(a:PySem.W.nsIn K mainGlobals x=some (some (.ref p)))(l:TupLit K p xs)(hl:xs.length<=1000):Glo K mg x (.tup (xs.map D.str)):=
 ⟨_,.ref p,PySem.W.mg_of X G a,rfl,λ_ _ _=>l.is hl⟩
noncomputable def TabIs(K:PySem.W.Frag):List DictEntry->List (Str×List Str)->Prop
 |[],t=>t=[]
 |e::es,t=>∃x ys t' tok p,t=(x,ys)::t'/\e.key=.str x tok/\e.val=.ref p/\TupLit K p ys/\ys.length<=1000/\TabIs K es t'
theorem TabIs.noref:∀{es:List DictEntry} {t:List (Str×List Str)},TabIs K es t->es.any (·.refKey)=false
 |[],_,_=>rfl
 |e::es,t,h=>by
  obtain⟨x,ys,t',tok,p,rfl,hk,_,_,_,r⟩:=h;rw[List.any_cons,r.noref,Bool.or_false];show DictEntry.refKey e=false;unfold DictEntry.refKey;rw[hk]
def Mm(t:List (Str×List Str))(y:Str):Option D:=(t.find? (·.1==y)).map λp=>.tup (p.2.map D.str)
theorem TabIs.find:∀{es:List DictEntry} {t:List (Str×List Str)} (y:Str),TabIs K es t->(es.find? (·.key.isStr y)=none/\Mm t y=none)∨∃e p ys,es.find? (·.key.isStr y)=some e/\e.val=.ref p/\TupLit K p ys/\ys.length<=1000/\Mm t y=some (.tup (ys.map D.str))
 |[],t,y,h=>by cases (show t=[] from h);exact .inl ⟨rfl,rfl⟩
 |e::es,t,y,h=>by
  obtain⟨x,ys,t',tok,p,rfl,hk,hv,l,hl,r⟩:=h;have q:e.key.isStr y=(x==y):=by rw[hk];rfl
  cases b:(x==y) with
  |true=>
   right;refine⟨e,p,ys,?_,hv,l,hl,?_⟩
   ·rw[List.find?_cons];simp only[q,b]
   ·unfold Mm;rw[List.find?_cons];simp only[b];rfl
  |false=>
   have z1:(e::es).find? (·.key.isStr y)=es.find? (·.key.isStr y):=by rw[List.find?_cons];simp only[q,b]
   have z2:Mm ((x,ys)::t') y=Mm t' y:=by unfold Mm;rw[List.find?_cons];simp only[b]
   rw[z1,z2];exact r.find y
theorem Xy(X:K.In h)(G:h.Ns mainGlobals mg)(a:PySem.W.nsIn K mainGlobals x=some (some (.ref ad)))(l:K.lookup ad=some ⟨.type "dict",none,.dict es n,#[]⟩)(kl:PySem.W.KeysLit w.params es.toList)
  (hs:(ad==sysModules)=false) (T:TabIs K es.toList t):ao w K mg x (Mm t):=by
 refine⟨ad,PySem.W.mg_of X G a,λy=>?_⟩;have nr:=T.noref;rcases T.find y with ⟨f,g⟩|⟨e,p,ys,f,hv,tl,hl,g⟩
 ·refine⟨none,⟨y,es,n,none,rfl,l,kl,?_,trivial,hs⟩,.inl ⟨g,rfl⟩⟩;unfold PySem.W.nsIn;rw[l];simp only[f,nr];rfl
 ·refine⟨some (.ref p),⟨y,es,n,some (.ref p),rfl,l,kl,?_,rfl,hs⟩,.inr ⟨_,.ref p,g,rfl,λ_ _ _=>tl.is hl⟩⟩;unfold PySem.W.nsIn;rw[l];simp only[f,hv]
structure Df(K:PySem.W.Frag)(x:Str)(st:Stmt)(f:Addr)(fd:FuncData):Prop where
 a:PySem.W.nsIn K mainGlobals x=some (some (.ref f))
 F:Fun K x x st f fd
theorem cP{st:Stmt}{f:Addr}{oc:Value}{osl:Array (Option Value)}{kV doc pm cdv ct:Value}(a:PySem.W.nsIn K mainGlobals x=some (some (.ref f)))(l:K.lookup f=some ⟨oc,od,.func (PySem.W.fnOf x x (Ec st) (Bq st) (AO st) .none kV doc pm an cdv ct),osl⟩)
  (c:PySem.W.codeIn K cdv x=true) (k:PySem.W.keepIn K (.ref f)=true):∃f fd,Df K x st f fd:=⟨f,_,a,O0 l c k⟩
theorem Jn(hw:How)(F:Fun K x qual st f fd)(S:Ae N ps (AO st))
  (body:∀(cdv:Value) (A:Around) (outer:List Env) (s:Shared) (H:Hp) (E:XK),Room k (A.deeper (PyProof.Rows.envOfC qual (AO st) s.heap.objs.size f cdv))->RSs (IH CX0 P w K mg base N qual (AO st) f cdv A outer s H E).nox (Bq st) mb) :
  FnOk P w K mg base CX0 (k+1) f fd ps (spM K ps.length (An hw N.length ps.length mb)):=
 K9 F S rfl body (λds μ d μ' h=>(DW h).2)
noncomputable def Py(K:PySem.W.Frag):Sp:=λvs H Q _=>∃(a:Addr) (ns:List Int),vs=[.ref a]/\ScrAt K H a (ns.map V.int)/\ns.length<=63/\∀H',Q (.bl true) H'
theorem ZN(F:FnOk P w K mg base CX0 k f fd ["_law_script"] (spM K 1 φ))(hφ:∀ns:List Int,ns.length<=63->∃μ',φ [.scr ns] []=some (.bl true,μ')):FnOk P w K mg base CX0 k f fd ["_law_script"] (Py K):=
 F.imp λvs H Q E q=>by
  obtain⟨a,ns,rfl,s,hl,q⟩:=q;obtain⟨μ',e⟩:=hφ ns hl;refine⟨rfl,λ_=>a,[],[.scr ns],.bl true,μ',⟨λi j h=>absurd h (Nat.not_lt_zero _),λn o e=>by simp at e⟩,.one (by unfold Is;exact⟨a,rfl,s⟩),e,λι2 H2 E2 R2 v i=>?_⟩;unfold Is at i;rw[i];exact q H2
theorem My(o:YS H)(s:SqL K H a xs):ScrAt K H a xs:=by
 rcases s with z|z
 ·rcases z with z|⟨p,z⟩
  ·rcases o a with q|⟨p,ys,q⟩
   ·rw[q] at z;cases z
   ·rw[q] at z;cases z
  ·exact .inl ⟨p,z⟩
 ·exact .inr z
end
theorem ax{l:PySem.W.OpenLaw}{q:Program}{loose:List Str}{XP:(Str->Option Value)->Heap->Prop}{K:Params->PySem.W.Frag}{k:Nat}(hn:l.most=some 63)(hdf:d.params.defaults=[])(hk:k<=60)
  (hY:∀(w:World) (h:Heap),YP w h->(K w.params).In h)
  (F:∀(w:World) (mg:Str->Option Value) (fa:Addr) (h:Heap),(K w.params).In h->h.Ns mainGlobals mg->mg d.name=some (.ref fa)->
   ∃fd:FuncData,(∀(s:Shared) (u:Value),BindsTo s fd ⟨[u],[]⟩ [("_law_script",u)])/\∀base:Heap,(K w.params).In base->base.Ns mainGlobals mg->FnOk l.prog w (K w.params) mg base CX0 k fa fd ["_law_script"] (Py (K w.params))) :
  PySem.W.WalkO q loose XP YP l.row.toRowW d [] (λf vs=>PySem.call f vs):=
 L2.Wi (n:=63) (k:=k) (x := "_law_script") (CX:=λ_=>CX0) (sp:=λw=>Py (K w.params)) hn (by decide) hdf (Room.mono (j:=k) (k:=60) ⟨rfl,by decide,by decide⟩ hk) hY F (λ_ _ a ns hl o hS=>⟨a,ns,rfl,My o hS,hl,λ_=>rfl⟩) λ_ _ _ _ _ z=>z
def Pu{α:Type}(m:Sl->M α):Prop:=∀τ μ a μ',m τ μ=some (a,μ')->μ'=μ
def Pu2(g:D->D->M D):Prop:=∀x y μ a μ',g x y μ=some (a,μ')->μ'=μ
theorem XF:Pu (AC i):=λτ μ a μ' e=>by
 unfold AC at e;split at e
 ·cases e;rfl
 ·cases e
theorem dD:Pu (mC d):=λτ μ a μ' e=>by cases e;rfl
theorem XE:Pu C3:=λτ μ a μ' e=>by cases e;rfl
theorem bW(hg:Pu2 g)(ha:Pu ma)(hb:Pu mb):Pu (mOp g ma mb):=λτ μ a μ' e=>by
 obtain⟨x,μ1,e1,e2⟩:=AI e;obtain⟨y,μ2,e3,e4⟩:=AI e2;rw[hg _ _ _ _ _ e4,hb _ _ _ _ e3,ha _ _ _ _ e1]
theorem SS(e:Bo d μ=some (ds,μ')):μ'=μ:=by
 cases d with
 |lst _=>cases e;rfl
 |scr _=>cases e;rfl
 |ref n=>
  have e:(match μ[n]? with|some (.lst ds)=>some (ds,μ)|_=>none)=some (ds,μ'):=e;split at e
  ·cases e;rfl
  ·cases e
 |_=>cases e
theorem SR(e:BU d μ=some (ds,μ')):μ'=μ:=by
 cases d with
 |tup _=>cases e;rfl
 |_=>exact SS (by unfold BU at e;exact e)
theorem bX:Pu2 AM:=λx y μ a μ' e=>by
 unfold AM at e;split at e
 ·split at e
  ·rename_i z i hl;cases q:atI z.cps.toList i with
   |none=>rw[q] at e;cases e
   |some c=>rw[q] at e;cases e;rfl
  ·cases e
 ·obtain⟨ds,μ1,e1,e2⟩:=AI e;have z:=SR e1;unfold ixD at e2;rename_i i _;cases q:atI ds i with
  |none=>rw[q] at e2;cases e2
  |some c=>rw[q] at e2;cases e2;exact z
 ·cases e
section
variable{X:Cx}{scope:Scope}{tgs:List Str}{ix:List Nat}{e elt tg iter:Expr}{pos:Pos}
noncomputable def Yx:D->M (List D)
 | .ref n=>λμ=>match μ[n]? with
  |some (.lst ds)=>some (ds,μ)
  |_=>none
 |_=>BG
noncomputable def Qa(m:Sl->M D):Sl->M (List D):=λτ=>bnd (m τ) Yx
noncomputable def ItP(K:PySem.W.Frag)(J:It)(ds:List D)(ι:Nat->Addr)(μ:Mh)(H:Hp):Prop:=∀ι' H',Ext ι μ.length H ι' μ.length H'->RelH K ι' μ H'->
 (∀i,i<ds.length->J.go i H')/\J.stop ds.length H'/\∀(i:Nat) x H2 d,ds[i]?=some d->J.yld i H' x H2->Ext ι' μ.length H' ι' μ.length H2/\RelH K ι' μ H2/\Is K ι' μ.length H2 d x
theorem ItP.ext(h:ItP K J ds ι μ H)(E:Ext ι μ.length H ι' μ.length H'):ItP K J ds ι' μ H':=λι2 H2 E2 R2=>h ι2 H2 (E.trans E2) R2
noncomputable def tIP(K:PySem.W.Frag)(m:Sl->M (List D)):TI:=λσ H R=>∃ι μ τ ds μ',RelH K ι μ H/\RelS K ι μ.length H τ σ/\m τ μ=some (ds,μ') /\
 Aft K ι μ H μ' λι' H'=>∀J,ItP K J ds ι' μ' H'->R J H'
structure RIP(X:Cx)(tg iter:Expr)(m:Sl->M (List D)):Prop where
 pe:PI X tg iter (tIP X.K m)
theorem Zb(h:RE X e m):RIP X tg e (Qa m):=⟨PI.wk (Ls h.pe) λσ H Q q=>by
 obtain⟨ι,μ,τ,ds,μ',R0,S,e,q⟩:=q;obtain⟨x,μ1,e1,e⟩:=AI e;cases x with
 |ref n=>
  have e:(match μ1[n]? with|some (.lst ds)=>some (ds,μ1)|_=>none)=some (ds,μ'):=e;split at e
  ·rename_i es hn;cases e;refine⟨ι,μ,τ,_,_,R0,S,e1,λι1 H1 E1 R1 v i1=>?_⟩;unfold Is at i1;obtain⟨hk,rfl⟩:=i1;obtain⟨u,hu,o⟩:=R1.obj n _ hn;obtain⟨vs,rfl,iv⟩:=o;refine⟨_,rfl,⟨vs,SqL.of hu⟩,q ι1 H1 E1 R1 _ ?_⟩;intro ι2 H2 E2 R2;obtain⟨u2,hu2,o2⟩:=R2.obj n _ hn;obtain⟨vs2,rfl,iv2⟩:=o2;rw[E2.agree n hk] at hu2;have hl:=iv2.length;refine⟨λj hj=>⟨vs2,vs2[j],SqL.of hu2,by simp⟩,⟨vs2,SqL.of hu2,by omega⟩,λj x H3 d hd y=>?_⟩;obtain⟨z,y⟩:=y;subst z;obtain⟨v,ev,iv3⟩:=iv2.get hd;have:=y vs2 (SqL.of hu2);rw[ev] at this;cases this;exact⟨R2.ext0,R2,iv3⟩
  ·cases e
 |_=>cases e⟩
theorem Tf(pc:Pu mc)(pm:Pu me)(hn:tgs.length=n)(hf:∀ι μ μ' H ds vs d (Q:VK),RelH K ι μ H->IsL K ι μ.length H ds vs->fin ds μ=some (d,μ')->(Aft K ι μ H μ' λι' H'=>∀v,Is K ι' μ'.length H' d v->Q v H')->
   vs.length<=sizeLine/\∀p,H p=none->Q (.ref p) (upd H p (.lst vs)))
  (h:tE K (Bp n ix src (AR i) mc me fin) σ H Q):Iq tgs ix (tIP K src) (Dh i) (tT K mc) (tE K me) σ H Q:=by
 subst hn;obtain⟨ι,μ,τ,d,μ',R,S,e,q⟩:=h;obtain⟨ds,ν,e1,e5⟩:=AI e;obtain⟨u,μ2,e2,e6⟩:=AI e5;obtain⟨zs,μ3,e3,e7⟩:=AI e6;obtain⟨hl,e4⟩:=C4 e2;clear e e5 e6;subst e4;refine⟨ι,μ,τ,ds,_,R,S,e1,λι1 H1 E1 R1 J it=>?_⟩;refine⟨λi' m ys H=>m=ds.length-i'/\i'<=ds.length/\ys.length<=i'/\∃(ι:Nat->Addr) (as:List D),RelH K ι μ2 H/\RelS K ι μ2.length H τ σ/\ItP K J ds ι μ2 H/\IsL K ι μ2.length H as ys/\CB (AR i) mc me (CU tgs.length ix τ) (ds.drop i') as μ2=some (zs,μ3) /\
  Aft K ι μ2 H μ' λι' H'=>∀v,Is K ι' μ'.length H' d v->Q v H',⟨ds.length,by simp,AAm _,AAF _,ι1,[],R1,S.ext E1,it,.nil,e3,λι2 H2 E2 R2=>q ι2 H2 (E1.trans E2) R2⟩,?_⟩
 rintro i' m ys H ⟨hm,hil,hyl,ι,as,R,S,it,ia,e3,q⟩;obtain⟨go,stop,yl⟩:=it ι H R.ext0 R;by_cases hlt:i'<ds.length
 ·refine .inr ⟨go i' hlt,by omega,λys' H'=>ys'.length<=i'+1/\∃(ι:Nat->Addr) (as:List D),RelH K ι μ2 H'/\RelS K ι μ2.length H' τ σ/\ItP K J ds ι μ2 H'/\IsL K ι μ2.length H' as ys'/\CB (AR i) mc me (CU tgs.length ix τ) (ds.drop (i'+1)) as μ2=some (zs,μ3) /\
   Aft K ι μ2 H' μ' λι' H'=>∀v,Is K ι' μ'.length H' d v->Q v H',λys' H' z=>⟨_,(by omega:ds.length-(i'+1)<m),rfl,hlt,z⟩,λx H2 y=>?_⟩
  have hd:ds[i']?=some ds[i']:=by simp[hlt]
  obtain⟨E2,R2,ix2⟩:=yl i' x H2 _ hd y;rw[List.drop_eq_getElem_cons hlt] at e3;obtain⟨τ1,μ1,e1,e3⟩:=AI e3;cases e1;obtain⟨cc,μ5,e2,e3⟩:=AI e3;have z5:=pc _ _ _ _ e2;subst z5;have S2:=(S.ext E2).block (tgs:=tgs) (ix:=ix);show tT K mc _ H2 _;refine⟨ι,_,_,cc,_,R2,S2.set i ix2,e2,λι3 H3 E3 R3=>?_⟩;have E13:=E2.trans E3;cases cc with
  |false=>
   exact⟨by omega,ι3,as,R3,S.ext E13,it.ext E13,ia.ext E13,e3,λι5 H5 E5 R5=>q ι5 H5 (E13.trans E5) R5⟩
  |true=>
   obtain⟨y',μ4,e4,e8⟩:=AI e3;clear e3;have z4:=pm _ _ _ _ e4;subst z4;refine⟨ι3,_,_,y',_,R3,(S2.set i ix2).ext E3,e4,λι4 H4 E4 R4 v iv=>?_⟩;have E14:=E13.trans E4;exact⟨by simp;omega,ι4,as++[y'],R4,S.ext E14,it.ext E14,(ia.ext E14).append (.one iv),e8,λι5 H5 E5 R5=>q ι5 H5 (E14.trans E5) R5⟩
 ·have hi':i'=ds.length:=by omega
  subst hi';rw[List.drop_length] at e3;cases e3;obtain⟨z1,z2⟩:=hf ι _ μ' H _ ys d Q R ia e7 q;exact .inl ⟨stop,z1,z2⟩
theorem UH(pc:Pu mc)(pm:Pu me)(S:BScope X scope tgs ix)(hc:X.calm=true)(hi:RIP X tg iter src)(hg:∀fp C s H,PG (cxB X scope tgs fp C s H) tg (Dh i))(hif:∀fp C s H,KL (cxB X scope tgs fp C s H) ifs (tT X.K mc))(he:∀fp C s H,RE (cxB X scope tgs fp C s H) elt me)
  (hin:i<tgs.length:=by decide) (hn:tgs.length=n:=by rfl) (hs:∀x,foldedSetIterable iter X.env x=pure x:=by intro _;rfl) (ht:∀o v,letOwnedTupleGo tg o v=pure ():=by intro _ _;rfl):RE X (.ListComp elt [⟨tg,iter,ifs,0⟩] scope pos) (Bp n ix src (AR i) mc me BM):=
 RE.wk (QK (te:=tE X.K me) S hc hi.pe hg (L9 hin) hif (λfp C s H=>(he fp C s H).pe) hs ht) λ_ _ _ h=>Tf pc pm hn (λ_ _ _ _ _ _ _ _ R i e q=>Ca R i e q) h
end
end Mi
namespace Mi
open PySem L2 PyProof.Rows
section
variable{X:Cx}{e a b c:Expr}{pos:Pos}
theorem Ul:OpR X (binaryOp .Add) (λx y H Q=>∃a b ys,x=.ref a/\y=.ref b/\SqT X.K H a []/\SqT X.K H b ys/\Q (.ref b) H):=by
 intro pins s σ H x y v u Q I rx ry h;obtain⟨a,b,ys,rfl,rfl,ha,hb,q⟩:=h;cases rx;cases ry;obtain⟨its,r1,p1,_⟩:=I.tuple ha;obtain⟨its2,r2,p2,_⟩:=I.tuple hb;cases r1;obtain⟨⟨cls,dd,data,sl⟩,ho,hc,n,hd⟩:=p1;obtain⟨⟨cls2,dd2,data2,sl2⟩,ho2,hc2,n2,hd2⟩:=p2;simp only at hc hd hc2 hd2;subst hc hd hc2 hd2;exact concat_meets ⟨_,ho,rfl⟩ ⟨_,ho2,rfl⟩ noFill_tuple_add seq_tuple_add PySem.F.slot_tuple_add PySem.F.entry_tuple_add (PySem.F.args_tuple_add_2 _ _) (tuple_addW0 a b _ _ n n2 dd dd2 sl sl2 rfl) ⟨ho,ho2,⟨.ref b,H,I,rfl,q⟩⟩
noncomputable def A5(a b:D):M D:=match a,b with
 | .tup [],.tup ds=>ret (.tup ds)
 |a,b=>UL a b
theorem BW:OpR X (binaryOp .Add) (rM X.K A5):=λpins s σ H x y v u Q I rx ry h=>by
 obtain⟨ι,μ,a,b,d,μ',R,ia,ib,e,q⟩:=h;unfold A5 at e;split at e
 ·rename_i ds;cases e;unfold Is at ia;obtain⟨p,vs,rfl,h1,h2⟩:=ia;unfold IsL at h2;subst h2;have ib2:=ib;unfold Is at ib;obtain⟨p',vs',rfl,h1',h2'⟩:=ib;exact Ul pins s σ H _ _ v u Q I rx ry ⟨p,p',vs',rfl,rfl,h1,h1',q ι H R.ext0 R _ ib2⟩
 ·exact bv pins s σ H x y v u Q I rx ry ⟨ι,μ,_,_,d,μ',R,ia,ib,e,q⟩
theorem KK{prog:Program}{w:World}{A:Around}{E:Value->Shared->Prop}{s:Shared}{vl vu:Value}{lo hi:Option Int}{Q:Value->Shared->Prop}(ht:IsTup s.heap t items)(hs:s.heap.IsSliceOf sl vl vu .none)(pl:IsPart vl lo)(pu:IsPart vu hi)
  (h1:HT.sIx items.size 0 lo=0) (h2:HT.sIx items.size items.size hi=items.size) (h:Q (.ref t) s):wpAny (model prog w) A (getItem (.ref t) (.ref sl)) Q E s:=by
 obtain⟨os,hos,hcs,hds⟩:=id hs;have hTs:s.TypeIs (.ref sl) "slice" := ⟨os,hos,hcs⟩;unfold getItem
 try with_reducible refine AAr ?_
 first|refine AAA (AAB ?_)|skip
 refine AAA (wpAny_sequenceKey ht.typeIs (by decide) ?_);refine AAA (wpAny_callSpecial?_slot (name:=Str.ofString "__getitem__") ht.typeIs PyProof.Rows.slot_tuple_getitem
  (AAe PyProof.Rows.slot_tuple_getitem ht.typeIs entry_tuple_getitem ?_ (args_tuple_getitem _ _)))
 show wpAny _ _ (Builtin.Tuple.tupleItemsOf (.ref t) >>= _) _ _ s;refine AAA (tupleItemsOf_ ht ?_);refine AAA (wpAny_typeOf hTs ?_);rw[if_pos (by decide)];refine AAA (HT.D3 hs pl pu ?_);have hyes:((((HT.sIx items.size 0 lo:Nat):Int)==0&&(1:Int)==1&&(HT.sIx items.size items.size hi-HT.sIx items.size 0 lo)==items.size)=true):=by rw[h1,h2];simp
 show wpAny _ _ (if (((HT.sIx items.size 0 lo:Nat):Int)==0&&(1:Int)==1&&(HT.sIx items.size items.size hi-HT.sIx items.size 0 lo)==items.size)=true then _ else _) _ _ s;rw[if_pos hyes];refine AAA (m:=Builtin.Tuple.tupleIsExact (.ref t)) ?_;unfold Builtin.Tuple.tupleIsExact;refine AAA (wpAny_typeOf ht.typeIs (AAB ?_));rw[if_pos (by decide)];refine AAA (wpAny_rule ?_);exact AAB ⟨_,rfl,AAB h⟩
theorem Wo:SlR X (λx lo hi H Q=>∃a xs,x=.ref a/\SqT X.K H a xs/\HT.sIx xs.length 0 lo=0/\HT.sIx xs.length xs.length hi=xs.length/\Q (.ref a) H):=by
 intro pins s σ H x v vl vu lo hi sl Q I rx hs pl pu h;obtain⟨a,xs,rfl,hx,h1,h2,q⟩:=h;cases rx;obtain⟨its,r,ht,hz⟩:=I.tuple hx;have hlen:its.toArray.size=xs.length:=by rw[List.size_toArray];exact r.length.symm
 refine⟨"tuple",_,PyProof.Rows.slot_tuple_getitem.lookup,ht.typeIs,?_⟩;exact KK ht hs pl pu (by rw[hlen];exact h1) (by rw[hlen];exact h2) ⟨.ref a,H,I,rfl,q⟩
theorem VZ{ds:List D}{lo hi:Option Int}(h1:HT.sIx ds.length 0 lo=0)(h2:HT.sIx ds.length ds.length hi=ds.length):Gh ds lo hi=ds:=by
 unfold Gh;rw[h1,h2];simp
noncomputable def ND(lo hi:Option Int):D->M D
 | .tup ds=>ret (.tup (Gh ds lo hi))
 |d=>bnd (Bo d) λds=>ret (.lst (Gh ds lo hi))
noncomputable def c9(K:PySem.W.Frag):V->Option Int->Option Int->Hp->VK->Prop:=λx lo hi H Q=>∃ι μ a d μ',RelH K ι μ H/\Is K ι μ.length H a x/\ND lo hi a μ=some (d,μ') /\
 Aft K ι μ H μ' λι' H'=>∀v,Is K ι' μ'.length H' d v->Q v H'
theorem bo:SlR X (c9 X.K):=λpins s σ H x v vl vu lo hi sl Q I rx hs pl pu h=>by
 obtain⟨ι,μ,a,d,μ',R,ia,e,q⟩:=h;by_cases c:∃ds,a=.tup ds/\HT.sIx ds.length 0 lo=0/\HT.sIx ds.length ds.length hi=ds.length
 ·obtain⟨ds,rfl,h1,h2⟩:=c;have e:some (D.tup (Gh ds lo hi),μ)=some (d,μ'):=e;rw[VZ h1 h2] at e;cases e;have ia2:=ia;unfold Is at ia;obtain⟨p,vs,rfl,g1,g2⟩:=ia;exact Wo pins s σ H _ v vl vu lo hi sl Q I rx hs pl pu ⟨p,vs,rfl,g1,by rw[g2.length];exact h1,by rw[g2.length];exact h2,q ι H R.ext0 R _ ia2⟩
 ·refine dF pins s σ H x v vl vu lo hi sl Q I rx hs pl pu ⟨ι,μ,a,d,μ',R,ia,?_,q⟩;cases a with
  |tup ds=>
   show (if HT.sIx ds.length 0 lo=0/\HT.sIx ds.length ds.length hi=ds.length then (BG:M D) else ret (D.tup (Gh ds lo hi))) μ=_;rw[if_neg (λz=>c ⟨ds,rfl,z.1,z.2⟩)];exact e
  |_=>exact e
noncomputable def Fa(me:Sl->M D)(ml mh:Sl->M (Option Int)):Sl->M D:=λτ=>bnd (me τ) λx=>bnd (ml τ) λl=>bnd (mh τ) λh=>ND l h x
theorem F1{e:Expr}{lo hi:Option Expr}(he:RE X e me)(hl:RO X lo ml)(hh:RO X hi mh):RE X (.Subscript e (.Slice lo hi none p2) pos) (Fa me ml mh):=RE.wk (Ua bo he.pe hl.pe hh.pe) λσ H Q h=>by
 obtain⟨ι,μ,τ,z,μ',R,S,e,q⟩:=h;obtain⟨x,μ1,e1,e⟩:=AI e;obtain⟨l,μ2,e2,e⟩:=AI e;obtain⟨u,μ3,e3,e⟩:=AI e;refine⟨ι,μ,τ,x,μ1,R,S,e1,λι1 H1 E1 R1 v i1=>⟨ι1,μ1,τ,l,μ2,R1,S.ext E1,e2,λι2 H2 E2 R2=>⟨ι2,μ2,τ,u,μ3,R2,S.ext (E1.trans E2),e3,λι3 H3 E3 R3=>?_⟩⟩⟩;have E23:=E2.trans E3;exact⟨ι3,μ3,x,z,μ',R3,i1.ext E23,e,λι4 H4 E4 R4=>q ι4 H4 ((E1.trans E23).trans E4) R4⟩
end
end Mi
namespace Mi
open PySem L2
open PyProof.Rows hiding St
section
variable{X:Cx}{e o:Expr}{apos cpos:Pos}
noncomputable def Cq(g:D->List D->M D)(mo:Sl->M D):Sl->M D:=λτ=>bnd (mo τ) λx=>bnd (Cb x) λ_=>g x []
theorem RK{K:PySem.W.Frag}{g:D->List D->M D}{mo:Sl->M D}(h:tE K (Cq g mo) σ H Q):bL K "list" (rMM K g) (tE K mo) σ H Q:=by
 obtain⟨ι,μ,τ,d,μ',R,S,e,q⟩:=h;obtain⟨x,μ1,e1,ee1⟩:=AI e;obtain⟨u,μ2,e2,ee2⟩:=AI ee1;have hm:=HQ e2;subst hm;refine⟨ι,μ,τ,x,_,R,S,e1,λι1 H1 E1 R1 v1 i1=>⟨(Hu R1 i1 e2).2,?_⟩⟩;exact⟨ι1,_,x,[],d,μ',R1,i1,IsL.nil,ee2,λι3 H3 E3 R3=>q ι3 H3 (E1.trans E3) R3⟩
theorem HA{name:Str}{id:String}(slot:Slot "list" name id)(hty:typeOf (.builtin id)=pure (.type "method_descriptor"))(hm:MtR X id (rMM X.K g))(ho:RE X o mo)
  (hbase:attributeBase o name X.env (eval o X.env)=eval o X.env:=by rfl) (hline:(apos.endLine==cpos.line)=true:=by rfl) :
  RE X (.Call (.Attribute o name apos) [] [] cpos) (Cq g mo):=RE.wk (Z0 PySem.F.plainAttrs_list slot hty hm ho.pe hbase hline) λ_ _ _ h=>RK h
end
section
variable{X:Cx}{e a b o:Expr}
noncomputable def dH:List Int->Int
 |[]=>0
 |i::r=>r.foldl max i
noncomputable def GW:List D->Option (List Int)
 |[]=>some []
 | .int i::ds=>(GW ds).map (i::·)
 |_=>none
theorem Nf{K:PySem.W.Frag}{ι:Nat->Addr}:∀{ds:List D} {vs:List V} {ns:List Int},IsL K ι k H ds vs->GW ds=some ns->vs=ns.map V.int
 |[],_,_,h,e=>by cases e;unfold IsL at h;exact h
 | .int b::ds,_,_,h,e=>by
  unfold IsL at h;obtain⟨v,vs',rfl,h1,h2⟩:=h;unfold GW at e;cases q:GW ds with
  |none=>rw[q] at e;cases e
  |some bs=>
   rw[q] at e;cases e;unfold Is at h1;rw[h1,Nf h2 q];rfl
 | .non::_,_,_,_,e=>by cases e
 | .bl _::_,_,_,_,e=>by cases e
 | .str _::_,_,_,_,e=>by cases e
 | .ty _::_,_,_,_,e=>by cases e
 | .scr _::_,_,_,_,e=>by cases e
 | .tup _::_,_,_,_,e=>by cases e
 | .lst _::_,_,_,_,e=>by cases e
 | .ref _::_,_,_,_,e=>by cases e
theorem HN:∀ns:List Int,GW (ns.map D.int)=some ns
 |[]=>rfl
 |n::r=>by show (GW (r.map D.int)).map (n::·)=_;rw[HN r];rfl
noncomputable def dg:List D->M D
 |[d]=>bnd (Bo d) λds=>λμ=>match GW ds with
  |some (i::r)=>some (.int (dH (i::r)),μ)
  |_=>none
 |_=>BG
theorem Nn:∀{ys:List V} {us:List Value} {j:Nat},Vals ys us->ys.all DU=true->ys.findIdx? (λz=>eqV z y)=some j->∃hj:j<us.length,eqU y us[j]=true/\∀m (hm:m<us.length),m<j->eqU y us[m]=false
 |_,_,j,.nil,_,e=>by simp at e
 |z::ys,u::us,j,.cons r t,f,e=>by
  rw[List.all_cons,Bool.and_eq_true] at f;rw[List.findIdx?_cons] at e;cases hz:eqV z y with
  |true=>
   rw[hz] at e;simp at e;subst e;exact⟨by simp,by show eqU y u=true;rw[MD r f.1,hz],λm hm h=>by omega⟩
  |false=>
   rw[hz] at e;cases q:ys.findIdx? (λz=>eqV z y) with
   |none=>rw[q] at e;simp at e
   |some k=>
    rw[q] at e;simp at e;subst e;obtain⟨hk,h1,h2⟩:=Nn t f.2 q;refine⟨by simp;omega,by simpa using h1,λm hm h=>?_⟩;cases m with
    |zero=>show eqU y u=false;rw[MD r f.1,hz]
    |succ m=>simpa using h2 m (by simpa using hm) (by omega)
noncomputable abbrev dA(Sq:Hp->Addr->List V->Prop):V->List V->Hp->VK->Prop:=λx xs H Q=>∃p ys y j,x=.ref p/\xs=[y]/\Sq H p ys/\DU y=true/\ys.all DU=true/\ys.findIdx? (λz=>eqV z y)=some j/\Q (.int j) H
theorem KI:MtR X "list.index" (dA λH p ys=>SqL X.K H p ys):=by
 intro pins s σ H x xs v us Q I rx rs h;obtain⟨p,ys,y,j,rfl,rfl,hp,fy,fys,hj,q⟩:=h;cases rx;obtain⟨u,rfl,ru⟩:=Ih rs;obtain⟨its,rv,pl,hz⟩:=I.list hp;have hl:=rv.length;obtain⟨⟨cls,dd,data,sl⟩,ho,hc,n,hd⟩:=pl.isList;simp only at hc hd;subst hc hd;obtain⟨hj2,e1,e2⟩:=Nn rv fys hj;have hn:=HG;refine call_meets PySem.F.slot_list_index ⟨_,ho,rfl⟩ PySem.F.entry_list_index (PySem.F.args_list_index_2 _ _) (SeqAt.list_indexAt _ its.toArray n dd sl u (eqU y) j (by rw[List.size_toArray];exact hj2) (by omega) (by simpa using e1) (λm hm h=>by simpa using e2 m (by simpa using hm) h)) ⟨ho,λw hw=>D8 ru fy rv fys w (by simpa using hw),?_⟩;exact⟨.int j,H,I.tok _,⟨_,rfl⟩,q⟩
noncomputable def aV:D->List D->M D
 |d,[y]=>bnd (BU d) λds=>λμ=>match LB y,F7 ds with
  |some y,some xs=>(xs.findIdx? λz=>eqV z y).map λ(j:Nat)=>(D.int (j:Int),μ)
  |_,_=>none
 |_,_=>BG
theorem Rz{d r:D}{μ μ':Mh}{K:PySem.W.Frag}{ι:Nat->Addr}(R:RelH K ι μ H)(ia:Is K ι μ.length H d x)(ib:IsL K ι μ.length H as xs)(e:aV d as μ=some (r,μ')):
  ∃p ys y j,x=.ref p/\xs=[y]/\(SqL K H p ys∨SqT K H p ys)/\DU y=true/\ys.all DU=true/\ys.findIdx? (λz=>eqV z y)=some j/\r=.int j/\μ'=μ:=by
 unfold aV at e;split at e
 ·rename_i y0;obtain⟨ds,μ1,e1,e2⟩:=AI e;obtain⟨hm,p,vs,rfl,h1,h2⟩:=DO R ia e1;subst hm;obtain⟨v,rfl,i1⟩:=HL ib;split at e2
  ·rename_i w ws q1 q2;obtain⟨rfl,f1⟩:=Jp i1 q1;obtain⟨rfl,f2⟩:=HS h2 q2;cases hj:vs.findIdx? (λz=>eqV z v) with
   |none=>rw[hj] at e2;cases e2
   |some j=>rw[hj] at e2;cases e2;exact⟨p,vs,v,j,rfl,rfl,h1,f1,f2,hj,rfl,rfl⟩
  ·cases e2
 ·cases e
noncomputable def K5(d:D)(as:List D):M D:=bnd (Cb d) λ_=>aV d as
theorem NV:MtR X "list.index" (rMM X.K K5):=λpins s σ H x xs v us Q I rx rs h=>by
 obtain⟨ι,μ,a,as,d,μ',R,ia,ib,e,q⟩:=h;obtain⟨u,μ1,e1,e2⟩:=AI e;have hm:=HQ e1;subst hm;obtain⟨ds,μ2,g1,g2⟩:=AI e1;obtain⟨_,p0,vs0,hx,hq,_⟩:=B6 R ia g1;obtain⟨p,ys,y,j,rfl,rfl,h1,f1,f2,hj,rfl,rfl⟩:=Rz R ia ib e2;cases hx;have hs:SqL X.K H p0 ys:=by
  rcases h1 with z|z
  ·exact z
  ·obtain⟨its,_,pl,_⟩:=I.list hq;obtain⟨its2,_,pt,_⟩:=I.tuple z;obtain⟨o,e1,c1,_⟩:=pl.isList;obtain⟨o2,e2,c2,_⟩:=pt;rw[e1] at e2;cases e2;rw[c1] at c2;exact absurd c2 (by decide)
 exact KI pins s σ H _ _ v us Q I rx rs ⟨p0,ys,y,j,rfl,rfl,hs,f1,f2,hj,q ι H R.ext0 R _ (ofI _)⟩
end
end Mi
namespace Mi
open PySem L2
end Mi
local macro_rules | `(tactic| wtm_at "k")=>`(tactic| repeat first|exact Mi.XF|exact Mi.dD|exact Mi.XE|exact Mi.bX|exact Mi.pu_eqB|exact Mi.pu_nil|exact Mi.pu_inst|exact Mi.pu_len|apply Mi.pu_test|apply Mi.bW|apply Mi.pu_cons|apply Mi.pu_disp|apply Mi.pu_or|apply Mi.pu_and|apply Mi.pu_not)
namespace Ht
open PySem PySem.SetTable
abbrev Ris(l:List Nat):Prop:=l.Pairwise (· < ·)
theorem Oa{xs:Array Nat}(r:Ris xs.toList)(hk:k<xs.size)(h:i<k):xs[i]'(Nat.lt_trans h hk)<xs[k]:=by
 have:=List.pairwise_iff_getElem.mp r i k (by simpa using Nat.lt_trans h hk) (by simpa using hk) h;simpa using this
theorem T4{xs:Array Nat}(r:Ris xs.toList)(hk:k<xs.size)(h:i<=k):xs[i]'(AAu h hk)<=xs[k]:=by
 rcases Nat.lt_or_eq_of_le h with z|z
 ·exact Nat.le_of_lt (Oa r hk z)
 ·subst z;exact AAF _
structure Bel(xs:Array Nat)(j b:Nat):Prop where
 le:b<=xs.size
 lo:∀i (h:i<xs.size),i<b->xs[i]<j
 hi:∀i (h:i<xs.size),b<=i->j<=xs[i]
theorem J2{xs:Array Nat}(r:Ris xs.toList):∀Bf lo hi,lo<=hi->hi<=xs.size->hi-lo<=Bf->(∀i (h:i<xs.size),i<lo->xs[i]<j)->(∀i (h:i<xs.size),hi<=i->j<=xs[i])->Bel xs j (below.go xs j Bf lo hi)
 |0,lo,hi,h1,h2,h3,h4,h5=>by
  have:lo=hi:=by omega
  subst this;exact⟨h2,h4,h5⟩
 |Bf+1,lo,hi,h1,h2,h3,h4,h5=>by
  unfold below.go;by_cases z:lo<hi
  ·rw[if_pos z];have hm:(lo+hi) / 2<hi:=by omega
   have hm2:lo<=(lo+hi) / 2:=by omega
   have hs:(lo+hi) / 2<xs.size:=by omega
   have e:xs.getD ((lo+hi) / 2) j=xs[(lo+hi) / 2]:=by simp[Array.getD,hs]
   dsimp only;rw[e];by_cases q:xs[(lo+hi) / 2]<j
   ·rw[if_pos q];exact J2 r Bf _ hi (by omega) h2 (by omega) (λi h hi'=>AAu (T4 r hs (by omega)) q) h5
   ·rw[if_neg q];exact J2 r Bf lo _ hm2 (by omega) (by omega) h4 (λi h hi'=>AAv (Nat.le_of_not_lt q) (T4 r h hi'))
  ·rw[if_neg z];have:lo=hi:=by omega
   subst this;exact⟨h2,h4,h5⟩
theorem Ef(r:Ris xs.toList)(j:Nat):Bel xs j (below xs j):=
 J2 r _ 0 _ (AAm _) (AAF _) (by omega) (λi _ h=>absurd h (by omega)) (λi h h2=>absurd h2 (by omega))
theorem Vj{xs:Array Nat}(r:Ris xs.toList)(hk:k<xs.size):below xs xs[k]=k:=by
 have b:=Ef r xs[k];rcases Nat.lt_trichotomy (below xs xs[k]) k with z|z|z
 ·have h1:=b.hi _ (Nat.lt_trans z hk) (AAF _);have h2:=Oa r hk z;omega
 ·exact z
 ·have:=b.lo k hk z;omega
theorem PD{xs:Array Nat}(r:Ris xs.toList)(hk:k<xs.size):below xs (xs[k]+1)=k+1:=by
 have b:=Ef r (xs[k]+1);rcases Nat.lt_trichotomy (below xs (xs[k]+1)) (k+1) with z|z|z
 ·have h1:=b.hi k hk (by omega);omega
 ·exact z
 ·have h1:=b.lo (k+1) (by have:=b.le;omega) z;have h2:=Oa r (k:=k+1) (i:=k) (by have:=b.le;omega) (by omega);omega
theorem PC(r:Ris xs.toList):below xs 0=0:=by
 have b:=Ef r 0;rcases Nat.eq_zero_or_pos (below xs 0) with z|z
 ·exact z
 ·have:=b.lo 0 (by have:=b.le;omega) z;omega
theorem Tk{t:SetTable}(r:Ris t.place.toList)(h:j∈t.place.toList):∃i,t.slot j=.live i:=by
 obtain⟨k,hk,e⟩:=List.getElem_of_mem h;have hk':k<t.place.size:=by simpa using hk
 have e':t.place[k]=j:=by simpa using e
 refine⟨k,?_⟩;unfold slot;have b:below t.place j=k:=by rw[←e'];exact Vj r hk'
 dsimp only;rw[b,if_pos (by simp[hk',e'])]
theorem EI{t:SetTable}(d:t.dummies=#[])(j:Nat):t.slot j≠.dummy:=by
 unfold slot;dsimp only;split
 ·exact λh=>by cases h
 ·rw[d];have:has (#[]:Array Nat) j=false:=by unfold has;simp
  rw[this];exact λh=>by cases h
theorem RL{t:SetTable}(h:t.slot j=.live i):j∈t.place.toList:=by
 unfold slot at h;dsimp only at h;split at h
 ·rename_i e;have e':t.place[below t.place j]?=some j:=by simpa using e
  obtain⟨hk,e2⟩:=Array.getElem?_eq_some_iff.mp e';rw[←e2];simp
 ·split at h<;>cases h
theorem W1(r:Ris xs.toList)(h:j∉xs.toList):Ris (insertAt xs (below xs j) j).toList:=by
 have b:=Ef r j;rw[toList_insertAt];refine List.pairwise_append.mpr ⟨List.Pairwise.sublist (List.take_sublist _ _) r,AA5.mpr ⟨λy hy=>?_,List.Pairwise.sublist (List.drop_sublist _ _) r⟩,λx hx y hy=>?_⟩
 ·obtain⟨i,hi,e⟩:=List.getElem_of_mem hy;rw[List.getElem_drop] at e;have hs:below xs j+i<xs.size:=by simp at hi;omega
  have:=b.hi _ hs (Nat.le_add_right _ _);have e2:xs[below xs j+i]=y:=by simpa using e
  have hne:y≠j:=λz=>h (by rw[←z];exact List.mem_of_mem_drop hy);omega
 ·have hxj:x<j:=by
   obtain⟨i,hi,e⟩:=List.getElem_of_mem hx;rw[List.getElem_take] at e;have hi2:i<below xs j/\i<xs.size:=by
    have:i<min (below xs j) xs.size:=by simpa using hi
    omega
   have e2:xs[i]'hi2.2=x:=by simpa using e
   have:=b.lo _ hi2.2 hi2.1;omega
  rcases AAJ.mp hy with z|z
  ·rw[z];exact hxj
  ·obtain⟨i,hi,e⟩:=List.getElem_of_mem z;rw[List.getElem_drop] at e;have hs:below xs j+i<xs.size:=by simp at hi;omega
   have:=b.hi _ hs (Nat.le_add_right _ _);have e2:xs[below xs j+i]=y:=by simpa using e
   omega
noncomputable def lp(mask:Nat):Nat->Nat×Nat->Nat×Nat
 |0,x=>x
 |n+1,x=>lp mask n (leap mask x.1 x.2)
theorem Jd(mask:Nat):∀(a b:Nat) (x:Nat×Nat),lp mask (a+b) x=lp mask b (lp mask a x)
 |0,b,x=>by rw[Nat.zero_add];rfl
 |a+1,b,x=>by
  rw[show a+1+b=(a+b)+1 from by omega];exact Jd mask a b _
theorem Ot(mask:Nat):∀(n:Nat) (x:Nat×Nat),(lp mask n x).2=x.2 / 32 ^ n
 |0,x=>by simp[lp]
 |n+1,x=>by
  show (lp mask n (leap mask x.1 x.2)).2=_;rw[Ot mask n];show x.2 / 32 / 32 ^ n=_;rw[Nat.div_div_eq_div_mul,Nat.pow_succ,Nat.mul_comm]
theorem Yi(mask:Nat):∀(n:Nat) (x:Nat×Nat),x.1<mask+1->(lp mask n x).1<mask+1
 |0,x,h=>h
 |n+1,x,h=>Yi mask n _ (Nat.mod_lt _ (by omega))
theorem ZZ:∀i,i<8->∀j,j<8->∃n,n<8/\(lp 7 n (i,0)).1=j:=by decide +kernel
theorem W0:∀i,i<16->∀j,j<16->∃n,n<16/\(lp 15 n (i,0)).1=j:=by decide +kernel
theorem Wz:∀i,i<32->∀j,j<32->∃n,n<32/\(lp 31 n (i,0)).1=j:=by decide +kernel
theorem Uj:∀j,j<128->∃n,n<128/\(lp 127 n (0,0)).1=j:=by decide +kernel
theorem Oj:lp 127 128 (0,0)=(0,0):=by decide +kernel
theorem Tz(i:Nat)(hi:i<128)(j:Nat)(hj:j<128):∃n,n<128/\(lp 127 n (i,0)).1=j:=by
 obtain⟨a,ha,ea⟩:=Uj i hi;obtain⟨b,hb,eb⟩:=Uj j hj;have z:∀n,(lp 127 n (0,0)).2=0:=λn=>by rw[Ot];exact Nat.zero_div _
 have ia:(i,0)=lp 127 a (0,0):=by rw[←ea];exact Prod.ext rfl (z a).symm
 by_cases h:a<=b
 ·refine⟨b-a,by omega,?_⟩;rw[ia,←Jd,show a+(b-a)=b by omega];exact eb
 ·refine⟨b+128-a,by omega,?_⟩;rw[ia,←Jd,show a+(b+128-a)=128+b by omega,Jd,Oj];exact eb
abbrev Sm(mask:Nat):Prop:=mask=7∨mask=15∨mask=31∨mask=127
theorem Yv{mask:Nat}(hm:Sm mask)(hi:i<mask+1)(hp:p<2 ^ 64)(hj:j<mask+1):∃n,n<turns mask/\(lp mask n (i,p)).1=j:=by
 have h0:(lp mask 13 (i,p)).2=0:=by
  rw[Ot];exact Nat.div_eq_of_lt (Nat.lt_trans hp (by decide))
 have h1:=Yi mask 13 (i,p) hi;have e:lp mask 13 (i,p)=((lp mask 13 (i,p)).1,0):=by rw[←h0]
 have:∃n,n<mask+1/\(lp mask n ((lp mask 13 (i,p)).1,0)).1=j:=by
  rcases hm with z|z|z|z<;>subst z
  ·exact ZZ _ h1 j hj
  ·exact W0 _ h1 j hj
  ·exact Wz _ h1 j hj
  ·exact Tz _ h1 j hj
 obtain⟨n,h2,h3⟩:=this;refine⟨13+n,by unfold turns;omega,?_⟩;rw[Jd,e];exact h3
theorem Qy(h:Int):bits h<2 ^ 64:=by
 unfold bits;have h1:=AAZ h (show (2 ^ 64:Int)≠0 by decide);have h2:=AAa h (show (0:Int)<2 ^ 64 by decide);omega
noncomputable abbrev start(t:SetTable)(i pt:Nat):Probe:={ j:=i,more:=runEnd t.mask i-i,i:=i,perturb:=pt,dummy:=none }
theorem Km{t:SetTable}(d:t.dummies=#[])(hf:∀i,f i≠h):∀(Bf:Nat) (p:Probe) (m:Met),p.dummy=none->probe.go t f h Bf p=some m->∃j,m=.empty j none/\t.slot j=.empty
 |0,p,m,hp,e=>by cases e
 |Bf+1,p,m,hp,e=>by
  unfold probe.go at e;have hadv:(t.advance p).dummy=none:=by
   unfold advance;split
   ·exact hp
   ·exact hp
  split at e
  ·rename_i q;cases e;exact⟨p.j,by rw[hp],q⟩
  ·rename_i q;exact absurd q (EI d _)
  ·rename_i i q;rw[if_neg (by simpa using hf i)] at e;exact Km d hf Bf _ m hadv e
theorem M4{t:SetTable}(d:t.dummies=#[])(hf:∀i,f i≠h):∀(more Bf j i pt:Nat),probe.go t f h (Bf+more+1) { j:=j,more:=more,i:=i,perturb:=pt,dummy:=none }=none->
  t.slot j≠.empty/\probe.go t f h Bf (start t (leap t.mask i pt).1 (leap t.mask i pt).2)=none
 |0,Bf,j,i,pt,e=>by
  unfold probe.go at e;split at e
  ·cases e
  ·rename_i q;exact absurd q (EI d _)
  ·rename_i k q;rw[if_neg (by simpa using hf k)] at e;have q':t.slot j=.live k:=q;refine⟨by rw[q'];exact λz=>(by cases z),?_⟩;have:t.advance { j:=j,more:=0,i:=i,perturb:=pt,dummy:=none }=start t (leap t.mask i pt).1 (leap t.mask i pt).2:=rfl;rw[this] at e;exact e
 |more+1,Bf,j,i,pt,e=>by
  rw[show Bf+(more+1)+1=(Bf+more+1)+1 from by omega] at e;unfold probe.go at e;split at e
  ·cases e
  ·rename_i q;exact absurd q (EI d _)
  ·rename_i k q;rw[if_neg (by simpa using hf k)] at e;have q':t.slot j=.live k:=q;refine⟨by rw[q'];exact λz=>(by cases z),?_⟩;have:t.advance { j:=j,more:=more+1,i:=i,perturb:=pt,dummy:=none }={ j:=j+1,more:=more,i:=i,perturb:=pt,dummy:=none }:=by
    unfold advance;rw[if_pos (by simp)];rfl
   rw[this] at e;exact(M4 d hf more Bf (j+1) i pt e).2
theorem Kh(d:t.dummies=#[])(hf:∀i,f i≠h):∀(m Bf i pt:Nat),10 * m<=Bf->probe.go t f h Bf (start t i pt)=none->∀n,n<m->t.slot (lp t.mask n (i,pt)).1≠.empty
 |0,_,_,_,_,_,n,hn=>absurd hn (by omega)
 |m+1,Bf,i,pt,hl,e,n,hn=>by
  have hr:runEnd t.mask i-i<=9:=by unfold runEnd;split<;>omega
  have ef:Bf=(Bf-(runEnd t.mask i-i)-1)+(runEnd t.mask i-i)+1:=by omega
  rw[ef] at e;obtain⟨h1,h2⟩:=M4 d hf _ _ _ _ _ e;cases n with
  |zero=>exact h1
  |succ n=>exact Kh d hf m _ _ _ (by omega) h2 n (by omega)
theorem JS[DecidableEq α]:∀{l r:List α},l.Nodup->(∀x∈l,x∈r)->l.length<=r.length
 |[],_,_,_=>AAm _
 |a::l,r,hn,hs=>by
  obtain⟨h1,h2⟩:=List.nodup_cons.mp hn;have ha:=hs a (AAQ ..);have:=JS (r:=r.erase a) h2 λx hx=>(List.mem_erase_of_ne (λz=>h1 (by rw[←z];exact hx))).mpr (hs x (AAR _ hx));rw[List.length_erase_of_mem ha] at this;have hp:=List.length_pos_of_mem ha;simp only[AAI];omega
theorem YI{t:SetTable}(d:t.dummies=#[])(hm:Sm t.mask)(r:Ris t.place.toList)(hs:t.place.size<=t.mask)(h:Int):∃j,t.freeSlot h=some (j,false)/\t.slot j=.empty:=by
 have hf:∀i:Nat,(λ_:Nat=>h+1) i≠h:=λi=>by show h+1≠h;omega
 unfold freeSlot;cases e:t.probe (λ_=>h+1) h (t.probeStart h) with
 |some m=>
  obtain⟨j,rfl,q⟩:=Km d hf _ _ m rfl e;exact⟨j,rfl,q⟩
 |none=>
  exfalso;have e':probe.go t (λ_=>h+1) h (10 * turns t.mask) (start t (bits h % (t.mask+1)) (bits h))=none:=e;have hv:=Kh d hf (turns t.mask) _ _ _ (AAF _) e';have all:∀j∈List.range (t.mask+1),j∈t.place.toList:=λj hj=>by
   obtain⟨n,h1,h2⟩:=Yv hm (i:=bits h % (t.mask+1)) (p:=bits h) (Nat.mod_lt _ (by omega)) (Qy h) (List.mem_range.mp hj);have h3:=hv n h1;rw[h2] at h3;cases q:t.slot j with
   |empty=>exact absurd q h3
   |dummy=>exact absurd q (EI d _)
   |live i=>exact RL q
  have:=JS List.nodup_range all;simp at this;omega
theorem Jo:∀{l:List α},(∀x∈l,f x=g x)->l.filterMap f=l.filterMap g
 |[],_=>rfl
 |a::l,h=>by
  have h1:=h a (AAQ ..);have h2:=Jo (l:=l) λx hx=>h x (AAR _ hx);cases q:g a with
  |none=>rw[List.filterMap_cons_none (h1.trans q),List.filterMap_cons_none q,h2]
  |some b=>rw[AAx (h1.trans q),AAx q,h2]
theorem VI(hj:f j=none)(hg:g j=some b)(ho:∀i,i≠j->g i=f i):∀{l:List Nat},l.Nodup->j∈l->(l.filterMap g).Perm (b::l.filterMap f)
 |[],_,h=>by cases h
 |a::l,hn,h=>by
  obtain⟨h1,h2⟩:=List.nodup_cons.mp hn;by_cases e:a=j
  ·subst e;have same:l.filterMap g=l.filterMap f:=Jo λi hi=>ho i λz=>h1 (by rw[←z];exact hi);rw[AAx hg,List.filterMap_cons_none hj,same]
  ·have hl:j∈l:=(AAJ.mp h).resolve_left λz=>e z.symm;have ih:=VI hj hg ho h2 hl;cases q:f a with
   |none=>rw[List.filterMap_cons_none ((ho a e).trans q),List.filterMap_cons_none q];exact ih
   |some c=>
    rw[AAx ((ho a e).trans q),AAx q];exact(ih.cons c).trans (List.Perm.swap b c _)
theorem Nm{mask:Nat}:∀(Bf i pt j:Nat),layClean.free mask owner Bf i pt=some j->owner.getD j (some 0)=none
 |0,_,_,_,e=>by cases e
 |Bf+1,i,pt,j,e=>by
  unfold layClean.free at e;split at e
  ·rename_i k q;cases e;have:=List.find?_some q;simpa using this
  ·exact Nm Bf _ _ j e
theorem K7{mask:Nat}:∀(m i pt:Nat),layClean.free mask owner m i pt=none->∀n,n<m->owner.getD (lp mask n (i,pt)).1 (some 0)≠none
 |0,_,_,_,n,hn=>absurd hn (by omega)
 |m+1,i,pt,e,n,hn=>by
  unfold layClean.free at e;split at e
  ·cases e
  ·rename_i q;cases n with
   |zero=>
    have hr:i<=runEnd mask i:=by unfold runEnd;split<;>omega
    have:=List.find?_eq_none.mp q 0 (List.mem_range.mpr (by omega));intro z;apply this;show (owner.getD (i+0) (some 0)).isNone=true;rw[Nat.add_zero];have z':owner.getD i (some 0)=none:=z;rw[z'];rfl
   |succ n=>exact K7 m _ _ e n (by omega)
abbrev own(mask:Nat)(owner:Array (Option Nat)):List Nat:=(List.range (mask+1)).filterMap λj=>owner.getD j none
theorem R9{owner:Array (Option Nat)}(h:owner.getD j (some 0)=none):j<owner.size/\owner.getD j none=none:=by
 unfold Array.getD at h ⊢;split at h
 ·rename_i q;exact⟨q,by rw[dif_pos q];exact h⟩
 ·cases h
theorem SA{owner:Array (Option Nat)}(hj:j<owner.size)(h:owner.getD j (some 0)≠none):∃k,owner.getD j none=some k:=by
 unfold Array.getD at h ⊢;rw[dif_pos hj] at h ⊢;cases e:owner[j] with
 |none=>exact absurd e h
 |some k=>exact⟨k,e⟩
theorem YJ{mask:Nat}(hm:Sm mask)(hs:owner.size=mask+1)(hp:(own mask owner).Perm (List.range k))(hk:k<=mask)(h:Int):
  ∃j,layClean.free mask owner (turns mask) (bits h % (mask+1)) (bits h)=some j:=by
 cases e:layClean.free mask owner (turns mask) (bits h % (mask+1)) (bits h) with
 |some j=>exact⟨j,rfl⟩
 |none=>
  exfalso;have hv:=K7 _ _ _ e;have len:∀l:List Nat,(∀j∈l,j<mask+1)->(l.filterMap λj=>owner.getD j none).length=l.length:=by
   intro l
   induction l with
   |nil=>intro _;rfl
   |cons a l ih=>
    intro ha;obtain⟨n,h1,h2⟩:=Yv hm (i:=bits h % (mask+1)) (p:=bits h) (Nat.mod_lt _ (by omega)) (Qy h) (ha a (AAQ ..));have h3:=hv n h1;rw[h2] at h3;obtain⟨c,hc⟩:=SA (by rw[hs];exact ha a (AAQ ..)) h3;rw[AAx (f:=λj=>owner.getD j none) hc,AAI,ih λj hj=>ha j (AAR _ hj),AAI]
  have h1:=len (List.range (mask+1)) λj hj=>List.mem_range.mp hj;have h2:=hp.length_eq;simp only[List.length_range] at h1 h2;have h3:(own mask owner).length=mask+1:=h1;omega
noncomputable def Vi(mask:Nat)(acc:Option (Array (Option Nat)×Nat))(h:Int):Option (Array (Option Nat)×Nat):=do
 let (owner,k) ←acc
 let j ←layClean.free mask owner (turns mask) (bits h % (mask+1)) (bits h)
 pure (owner.setIfInBounds j (some k),k+1)
theorem N1{mask:Nat}(hm:Sm mask):∀(l:List Int) (owner:Array (Option Nat)) (k:Nat),owner.size=mask+1->(own mask owner).Perm (List.range k)->k+l.length<=mask->
  ∃owner',l.foldl (Vi mask) (some (owner,k))=some (owner',k+l.length)/\owner'.size=mask+1/\(own mask owner').Perm (List.range (k+l.length))
 |[],owner,k,hs,hp,_=>⟨owner,rfl,hs,hp⟩
 |h::l,owner,k,hs,hp,hk=>by
  obtain⟨j,e⟩:=YJ hm hs hp (by omega) h;obtain⟨hj,hn⟩:=R9 (Nm _ _ _ _ e);have st:Vi mask (some (owner,k)) h=some (owner.setIfInBounds j (some k),k+1):=by
   show ((layClean.free mask owner (turns mask) (bits h % (mask+1)) (bits h)).bind λj=>some (owner.setIfInBounds j (some k),k+1))=_;rw[e];rfl
  have hp':(own mask (owner.setIfInBounds j (some k))).Perm (List.range (k+1)):=by
   have:=VI (f:=λj=>owner.getD j none) (g:=λi=>(owner.setIfInBounds j (some k)).getD i none) (b:=k) hn (by simp[Array.getD,hj]) (λi hi=>by
    simp only[Array.getD,Array.size_setIfInBounds];split
    ·rename_i hi2;show (owner.setIfInBounds j (some k))[i]'(by rw[Array.size_setIfInBounds];exact hi2)=owner[i];rw[Array.getElem_setIfInBounds_ne];exact hi.symm
    ·rfl) (List.nodup_range (n:=mask+1)) (List.mem_range.mpr (by omega))
   refine this.trans ((hp.cons k).trans ?_);rw[List.range_succ];exact(List.perm_append_singleton k (List.range k)).symm
  obtain⟨owner',e1,e2,e3⟩:=N1 hm l (owner.setIfInBounds j (some k)) (k+1) (by rw[Array.size_setIfInBounds];exact hs) hp' (by simp at hk;omega);refine⟨owner',?_,e2,?_⟩
  ·rw[List.foldl_cons,st,e1];simp only[AAI];rw[show k+1+l.length=k+(l.length+1) from by omega]
  ·rw[show k+(h::l).length=k+1+l.length from by simp only[AAI];omega];exact e3
theorem Ve{mask:Nat}(hm:Sm mask)(hashes:Array Int)(hk:hashes.size<=mask):∃owner,layClean mask hashes=some owner/\owner.size=mask+1/\(own mask owner).Perm (List.range hashes.size):=by
 have h0:(own mask (Array.replicate (mask+1) none)).Perm (List.range 0):=by
  have:own mask (Array.replicate (mask+1) none)=[]:=by
   unfold own;rw[List.filterMap_eq_nil_iff];intro j hj;have:=List.mem_range.mp hj;simp[Array.getD,this]
  rw[this];exact List.Perm.refl _
 obtain⟨owner,e1,e2,e3⟩:=N1 hm hashes.toList (Array.replicate (mask+1) none) 0 (by simp) h0 (by simpa using hk);simp only[Nat.zero_add,Array.length_toList] at e1 e3;refine⟨owner,?_,e2,e3⟩;have:layClean mask hashes=(hashes.foldl (Vi mask) (some (Array.replicate (mask+1) none,0))).map (·.1):=rfl;rw[this,←Array.foldl_toList,e1];rfl
theorem Xu{mask:Nat}(hm:Sm mask)(hashes:Array Int)(hk:hashes.size<=mask)(finger moves:Nat)(led plain:Bool):
  ∃place order,laid mask finger moves led plain hashes=some ({ mask,place,dummies:=#[],finger,led,moves,plain },order)/\Ris place.toList/\place.size=hashes.size/\order.toList.Perm (List.range hashes.size):=by
 obtain⟨owner,e1,e2,e3⟩:=Ve hm hashes hk;unfold laid;rw[e1];refine⟨_,_,rfl,?_,?_,?_⟩
 ·simp only[];rw[List.map_filterMap];have:(List.range (mask+1)).filterMap (λx=>Option.map (λx=>x.1) (Option.map (λx_1=>(x,x_1)) (owner.getD x none)))=(List.range (mask+1)).filter λx=>(owner.getD x none).isSome:=by
   induction List.range (mask+1) with
   |nil=>rfl
   |cons a l ih=>
    cases q:owner.getD a none with
    |none=>rw[List.filterMap_cons_none (by rw[q];rfl),List.filter_cons_of_neg (by rw[q];simp),ih]
    |some c=>rw[AAx (b:=a) (by rw[q];rfl),List.filter_cons_of_pos (by rw[q];rfl),ih]
  rw[this];exact List.Pairwise.sublist List.filter_sublist List.pairwise_lt_range
 ·have:=e3.length_eq;rw[List.length_range] at this;rw[←this];simp only[List.size_toArray,AAG];unfold own
  induction List.range (mask+1) with
  |nil=>rfl
  |cons a l ih=>
   cases q:owner.getD a none with
   |none=>rw[List.filterMap_cons_none (by rw[q];rfl),List.filterMap_cons_none (f:=λj=>owner.getD j none) q,ih]
   |some c=>rw[AAx (b:=(a,c)) (by rw[q];rfl),AAx (f:=λj=>owner.getD j none) q,AAI,AAI,ih]
 ·simp only[];rw[List.map_filterMap];have:(List.range (mask+1)).filterMap (λx=>Option.map (λx=>x.2) (Option.map (λx_1=>(x,x_1)) (owner.getD x none)))=own mask owner:=by
   unfold own;refine Jo λi _=>?_;cases owner.getD i none<;>rfl
  rw[this];exact e3
structure Tab(t:SetTable)(n:Nat):Prop where
 ris:Ris t.place.toList
 sz:t.place.size=n
 dm:t.dummies=#[]
 mks:(t.mask=7/\n<=4)∨(t.mask=31/\n<=18)∨(t.mask=127/\19<=n/\n<=75)
 pl:t.plain=true
theorem Tab.sm(h:Tab t n):Sm t.mask:=h.mks.elim (λz=>.inl z.1) λz=>z.elim (λz=>.inr (.inr (.inl z.1))) λz=>.inr (.inr (.inr z.1))
theorem KW(led:Bool):Tab (.fresh 0 0 led) 0:=⟨List.Pairwise.nil,rfl,rfl,.inl ⟨rfl,by omega⟩,rfl⟩
theorem Tab.fits(h:Tab t n):t.fits n=true:=by
 unfold SetTable.fits fill;rw[h.sz,h.dm];rcases h.mks with ⟨a,b⟩|⟨a,b⟩|⟨a,b⟩<;>simp[a]<;>omega
theorem aI(T:Tab t es.size)(hn:es.size+1<=75)(h:Int)(x:Value):
  ∃t1 es1,layNew t es h x=(es1,t1,false,false)/\Ris t1.place.toList/\t1.place.size=es.size+1/\t1.dummies=#[]/\t1.mask=t.mask/\t1.plain=true/\t1.led=t.led/\t1.moves=t.moves/\t1.finger=t.finger/\es1.toList.Perm (es.toList++[(h,x)]):=by
 have hsz:=T.sz;obtain⟨j,e,q⟩:=YI T.dm T.sm T.ris (by rcases T.mks with ⟨a,b⟩|⟨a,b⟩|⟨a,b⟩<;>omega) h;have hj:j∉t.place.toList:=λz=>by
  obtain⟨i,hi⟩:=Tk T.ris z;rw[q] at hi;cases hi
 have hperm:=layNew_perm t es h x;have hz:(insertAt t.place (below t.place j) j).size=es.size+1:=by
  have:=(insertAt_perm t.place (below t.place j) j).length_eq;simp at this;omega
 have hd:(if has t.dummies j=true then eraseAt t.dummies (below t.dummies j) else t.dummies)=#[]:=by
  rw[T.dm];have:has (#[]:Array Nat) j=false:=by unfold has;simp
  rw[this];rfl
 have hes:(insertAt es (below t.place j) (h,x)).size=es.size+1:=by
  have:=(insertAt_perm es (below t.place j) (h,x)).length_eq;simpa using this
 have hfit:(t.put j).1.fits (es.size+1)=true:=by
  unfold SetTable.fits fill put;simp only[hd,hz];rcases T.mks with ⟨a,b⟩|⟨a,b⟩|⟨a,b⟩<;>simp[a]<;>omega
 have hl:layNew t es h x=(insertAt es (below t.place j) (h,x),(t.put j).1,false,false):=by
  unfold layNew;rw[e];show (insertAt es (below t.place j) (h,x),(t.put j).1.orStandIn (insertAt es (below t.place j) (h,x)).size,false,!(t.put j).1.fits (insertAt es (below t.place j) (h,x)).size)=_;rw[hes,hfit];unfold orStandIn;rw[hfit];rfl
 rw[hl] at hperm;refine⟨_,_,hl,W1 T.ris hj,hz,hd,rfl,T.pl,rfl,rfl,rfl,?_⟩;rw[Array.toList_push] at hperm;exact hperm
theorem UD{M:Nat}{t:SetTable}(hM:Sm M)(hw:sizeAbove wanted=M+1)(hn:es.size<=M)(hk:(M=7/\es.size<=4)∨(M=31/\es.size<=18)∨(M=127/\19<=es.size/\es.size<=75))(hp:t.plain=true):
  ∃t1 es1,relayAll t es wanted=(es1,t1,false)/\Tab t1 es1.size/\t1.led=t.led/\es1.toList.Perm es.toList:=by
 have hperm:=relayAll_perm t es wanted;obtain⟨place,order,e,r,hs,ho⟩:=Xu (mask:=M) hM (es.map (·.1)) (by simp;omega) t.finger (t.movedTo M) t.led t.plain;simp only[Array.size_map] at hs ho;have hsz:(order.filterMap (es[·]?)).size=es.size:=by
  have h1:((order.filterMap (es[·]?)).toList).Perm es.toList:=by
   rw[Array.toList_filterMap];exact(ho.filterMap _).trans (by rw[filterMap_getElem?_range])
  have:=h1.length_eq
  rwa [Array.length_toList,Array.length_toList] at this
 have hl:relayAll t es wanted=(order.filterMap (es[·]?),{ mask:=M,place,dummies:=#[],finger:=t.finger,led:=t.led,moves:=t.movedTo M,plain:=t.plain },false):=by
  unfold relayAll relaid;rw[hw,Nat.add_sub_cancel];rw[e];simp only[];have c1:coversAll order es.size=true:=by
   unfold coversAll;exact List.isPerm_iff.mpr ho
  have c2:SetTable.fits { mask:=M,place,dummies:=#[],finger:=t.finger,led:=t.led,moves:=t.movedTo M,plain:=t.plain } (order.filterMap (es[·]?)).size=true:=by
   unfold SetTable.fits fill;rw[hsz];simp[hs];omega
  rw[c1,c2];rfl
 rw[hl] at hperm;exact⟨_,_,hl,⟨r,by rw[hsz];exact hs,rfl,by rw[hsz];exact hk,hp⟩,rfl,hperm⟩
theorem UC(hw:sizeAbove wanted=32)(hn:es.size<=18)(hp:t.plain=true):
  ∃t1 es1,relayAll t es wanted=(es1,t1,false)/\Tab t1 es1.size/\t1.led=t.led/\es1.toList.Perm es.toList:=UD (M:=31) (.inr (.inr (.inl rfl))) hw (by omega) (.inr (.inl ⟨rfl,hn⟩)) hp
noncomputable def BX(xs:List Int):List Int:=xs.foldl (λys x=>if x∈ys then ys else ys++[x]) []
theorem HC(xs:List Int)(x:Int):BX (xs++[x])=if x∈BX xs then BX xs else BX xs++[x]:=by
 unfold BX;rw[List.foldl_append];rfl
theorem QQ:∀(xs ys:List Int),∃zs,xs.foldl (λys x=>if x∈ys then ys else ys++[x]) ys=ys++zs
 |[],ys=>⟨[],by simp⟩
 |x::xs,ys=>by
  rw[List.foldl_cons];obtain⟨zs,e⟩:=QQ xs (if x∈ys then ys else ys++[x]);rw[e];split
  ·exact⟨zs,rfl⟩
  ·exact⟨x::zs,by simp⟩
theorem Up(xs ys:List Int):∃zs,BX (xs++ys)=BX xs++zs:=by
 unfold BX;rw[List.foldl_append];exact QQ _ _
theorem Rn(xs:List Int)(i:Nat):(BX (xs.take i)).length<=(BX xs).length:=by
 obtain⟨zs,e⟩:=Up (xs.take i) (xs.drop i);rw[List.take_append_drop] at e;rw[e,AAH];omega
theorem Mu{p:List Int->Prop}(h0:p [])(h1:∀xs x,p xs->p (xs++[x]))(xs:List Int):p xs:=by
 rw[←List.reverse_reverse xs]
 induction xs.reverse with
 |nil=>exact h0
 |cons a l ih=>rw[List.reverse_cons];exact h1 _ _ ih
theorem NN(xs:List Int)(k:Int):k∈BX xs↔k∈xs:=by
 refine Mu (p:=λxs=>k∈BX xs↔k∈xs) (by simp[BX]) (λxs x ih=>?_) xs;rw[HC];split
 ·rename_i h;simp only[AAK,AAL,←ih];exact⟨.inl,λz=>z.elim id λe=>e ▸ h⟩
 ·simp only[AAK,AAL,ih]
theorem JR(xs:List Int):(BX xs).Nodup:=by
 refine Mu (p:=λxs=>(BX xs).Nodup) (by simp[BX]) (λxs x ih=>?_) xs;rw[HC];split
 ·exact ih
 ·rename_i h;rw[List.nodup_append];refine⟨ih,by simp,λa ha b hb=>?_⟩;simp at hb;subst hb;exact λe=>h (e ▸ ha)
open PyProof.Rows
abbrev EN(l:List (Int×Value))(ks:List Int):Prop:=IntsAre (l.map (·.2)) ks
theorem HM:∀{vs ws:List Value} (_:vs.Perm ws) {ks:List Int},IntsAre ws ks->∃ms,IntsAre vs ms/\ms.Perm ks:=by
 intro vs ws p
 induction p with
 |nil=>intro ks h;cases h;exact⟨[],.nil,.refl _⟩
 |cons x _ ih=>
  intro ks h;cases h with
  |cons n t h=>
   obtain⟨ms,h1,h2⟩:=ih h;exact⟨n::ms,.cons n t h1,h2.cons n⟩
 |swap x y l=>
  intro ks h;cases h with
  |cons n t h=>
   cases h with
   |cons m u h=>exact⟨m::n::_,.cons m u (.cons n t h),.swap n m _⟩
 |trans _ _ ih1 ih2=>
  intro ks h;obtain⟨ms,h1,h2⟩:=ih2 h;obtain⟨ls,h3,h4⟩:=ih1 h1;exact⟨ls,h3,h4.trans h2⟩
theorem VS:∀{l:List (Int×Value)} {ks:List Int},EN l ks->∀(k:Int),(∃e∈l,Value.isInt k e.2=true)↔k∈ks
 |[],_,h,k=>by
  have h:IntsAre [] _:=h;cases h;simp
 |e::l,_,h,k=>by
  obtain⟨a,v⟩:=e;have h:IntsAre (v::l.map (·.2)) _:=h;cases h with
  |cons n t h1=>
   have ih:=VS (l:=l) h1 k;constructor
   ·rintro⟨e,he,q⟩;rcases AAJ.mp he with rfl|he
    ·have:Value.isInt k (.int n t)=true:=q;simp[Value.isInt] at this;subst this;exact AAQ ..
    ·exact AAR _ (ih.mp ⟨e,he,q⟩)
   ·intro hk;rcases AAJ.mp hk with rfl|hk
    ·exact⟨_,AAQ ..,by simp[Value.isInt]⟩
    ·obtain⟨e,he,q⟩:=ih.mpr hk;exact⟨e,AAR _ he,q⟩
def SetI(prog:Program)(w:World)(h:Heap)(a:Addr)(ks:List Int):Prop:=
 ∃o es ep t,h.get? a=some o/\o.ExactSet/\o.data=.set es ep t/\ElemsOf (intKind prog w) es.toList/\(∃ns,EN es.toList ns/\ns.Perm ks)/\Tab t es.size/\t.led=!(w.params.followText "set-order")
theorem SetI.at(z:SetI prog w h a ks)(k:∀o,h.get? a=some o->h'.get? a=some o):SetI prog w h' a ks:=by
 obtain⟨o,es,ep,t,e,rest⟩:=z;exact⟨o,es,ep,t,k o e,rest⟩
theorem ME{l:Array (Int×Value)}(h:EN l.toList ns)(p:ns.Perm ks):l.size=ks.length:=by
 have h1:=congrArg List.length h.nums;rw[AAG,AAG,Array.length_toList] at h1;rw[h1,p.length_eq]
section
variable{prog:Program}{w:World}{A:Around}{E:Value->Shared->Prop}{s:Shared}
theorem IV{h:Heap}{a:Addr}{o:Obj}(ho:h.get? a=some o)(hd:o.data=.set es ep t)(es':Array (Int×Value))(t':SetTable):
  (h.update a (Obj.putSet es' t')).get? a=some { o with data:=.set es' (ep+1) t' }:=by
 have:=Heap.get?_update_self (Obj.putSet es' t') ho (by rw[putSet_of es' t' hd];rfl);rw[putSet_of es' t' hd] at this;exact this
theorem Tq{a:Addr}{ks:List Int}(hS:SetI prog w s.heap a ks)(room:(if n∈ks then ks else ks++[n]).length<=18)
  (q:∀b h' tk,Heap.SameBut a s.heap h'->SetI prog w h' a (if n∈ks then ks else ks++[n])->Q b { s with heap:=h',toks:=tk }) :
  wpAny (model prog w) A (setAdd a (.int n tk)) Q E s:=by
 obtain⟨o,es,ep,t,ho,hex,hd,hel,⟨ns,hen,hp⟩,T,hled⟩:=hS;have hsz:=ME hen hp;have hb:es.size<scanBound:=by rcases T.mks with ⟨_,b⟩|⟨_,b⟩|⟨_,b⟩<;>(unfold scanBound;omega)
 unfold setAdd;refine AAr (AAA ((intKind prog w).pyHash (intKind_is prog w n tk) ?_));unfold setAddHashed setAddHashedIn;refine AAr (AAA (AAk (s:={ s with toks:=s.toks+1 }) ho hd T.fits ?_));dsimp only;rw[byScan_of (knd:=intKind prog w) rfl hb hel];simp only[↓reduceIte];unfold setAddByScan;refine AAA ?_;refine AAA (wpAny_rule ?_);refine AAA (wpAny_setScan_of (knd:=intKind prog w) (s:={ s with toks:=s.toks+1 }) (intKind_is prog w n tk) ho hd T.fits hel ?_);have mem:=VS hen n;rw[hp.mem_iff] at mem;cases hr:List.findIdx? (λe=>(intKind prog w).is n e.2) es.toList with
 |some j=>
  dsimp only;obtain⟨hj,hpj,_⟩:=List.findIdx?_eq_some_iff_getElem.mp hr;have hm:n∈ks:=mem.mp ⟨es.toList[j],List.getElem_mem hj,hpj⟩;refine AAB (AAB ?_);rw[if_pos hm] at q;exact q _ s.heap _ (Heap.SameBut.refl a s.heap) ⟨o,es,ep,t,ho,hex,hd,hel,⟨ns,hen,hp⟩,T,hled⟩
 |none=>
  dsimp only;have hm:n∉ks:=λz=>by
   obtain⟨e,he,hq⟩:=mem.mpr z;have:=List.findIdx?_eq_none_iff.mp hr e he;have hq':(intKind prog w).is n e.2=true:=hq;rw[hq'] at this;exact Bool.noConfusion this
  rw[if_neg hm,AAH,List.length_singleton] at room;rw[if_neg hm] at q;obtain⟨t1,es1,e1,r1,z1,d1,m1,p1,l1,_,_,q1⟩:=aI T (by omega) ((intKind prog w).hash n) (.int n tk);rw[e1];dsimp only;have s1:es1.size=es.size+1:=by
   have:=q1.length_eq;simpa using this
  have hel1:ElemsOf (intKind prog w) es1.toList:=(hel.push (intKind_is prog w n tk) rfl).perm q1;have hen0:EN (es.toList++[((intKind prog w).hash n,Value.int n tk)]) (ns++[n]):=by
   unfold EN;rw[AAY];exact IntsAre.append hen (.cons n tk .nil)
  obtain⟨ms,hen1,hp1⟩:=HM (q1.map (·.2)) hen0;have hp2:ms.Perm (ks++[n]):=hp1.trans (hp.append_right [n]);refine AAA (AAB ?_);rw[p1];simp only[↓reduceIte];refine AAA ?_;rw[hashByValue_scannable 8 (x:=.int n tk) rfl];refine AAB ?_;simp only[plainKind,↓reduceIte];refine AAA (wpAny_storeSet_of (s:={ s with toks:=s.toks+1 }) ho hd ?_ (by rw[sizeLine_eq];omega));have ho1:=IV ho hd es1 t1;have sb1:=Heap.SameBut.update s.heap a (Obj.putSet es1 t1);simp only[Bool.not_false,Bool.true_and];by_cases hf:t1.tooFull=true
  ·rw[if_pos hf];have small:es1.size=5:=by
    unfold SetTable.tooFull SetTable.fill at hf;rw[z1,d1,m1] at hf;simp at hf;rcases T.mks with ⟨a,b⟩|⟨a,b⟩|⟨a,b⟩<;>rw[a] at hf<;>omega
   obtain⟨t2,es2,e2,T2,l2,q2⟩:=UC (t:=t1) (es:=es1) (wanted:=grown es1.size) (by rw[small];decide +kernel) (by omega) p1;rw[e2];dsimp only;refine AAA (AAB ?_);have s2:es2.size=es1.size:=by
    have:=q2.length_eq;simpa using this
   refine AAA (wpAny_storeSet_of (s:={ s with heap:=s.heap.update a (Obj.putSet es1 t1),toks:=s.toks+1 }) ho1 rfl ?_ (by rw[sizeLine_eq];omega));obtain⟨ls,hen2,hp3⟩:=HM (q2.map (·.2)) hen1;refine AAB (AAB (q _ _ _ (sb1.trans (Heap.SameBut.update _ a _)) ?_));exact⟨_,es2,_,t2,IV ho1 rfl es2 t2,hex,rfl,hel1.perm q2,⟨ls,hen2,hp3.trans hp2⟩,T2,by rw[l2,l1];exact hled⟩
  ·rw[if_neg hf];refine AAB (AAB (q _ _ _ sb1 ⟨_,es1,_,t1,ho1,hex,rfl,hel1,⟨ms,hen1,hp2⟩,⟨r1,by omega,d1,?_,p1⟩,by rw[l1];exact hled⟩));rw[m1];unfold SetTable.tooFull SetTable.fill at hf;rw[z1,d1,m1] at hf;simp at hf;rcases T.mks with ⟨a,b⟩|⟨a,b⟩|⟨a,b⟩
   ·rw[a] at hf;exact .inl ⟨a,by omega⟩
   ·exact .inr (.inl ⟨a,by omega⟩)
   ·exact .inr (.inr ⟨a,by omega,by omega⟩)
end
end Ht
namespace Ht
open PySem PySem.Spec PyProof.Rows Sem L2
section
variable{prog:Program}{w:World}{A:Around}{E:Value->Shared->Prop}{s:Shared}
theorem RQ{I S:Addr}{ns:List Int}{P:Nat->Value->Prop}{St:Nat->Heap->Prop}(W:Walks prog w A.in1 I fp [I] ns.length P St)(hP:∀i v,P i v->∃t,v=.int (ns.getD i 0) t)
  (hSI:S≠I) (hSf:S∉fp) (room:(BX ns).length<=18) {R:Result->Shared->Prop} :
  ∀(m i:Nat) (s:Shared),ns.length-i=m->i<=ns.length->St i s.heap->SetI prog w s.heap S (BX (ns.take i))->
   (∀h' tk,(∀c o,c≠S->c≠I->s.heap.get? c=some o->h'.get? c=some o)->SetI prog w h' S (BX ns)->R (.ok (.ret .none)) { s with heap:=h',toks:=tk })->
   codeAny (model prog w) A (.builtin "set.update.loop" ⟨[.ref S,.ref I],[]⟩) R s:=by
 intro m
 induction m with
 |zero=>
  intro i s hm hi hst hS q;have ei:i=ns.length:=by omega
  subst ei;refine codeAny_builtin PyProof.Rows.F.entry_set_update_loop ?_;rw[Around.under_plainId PyProof.Rows.F.plain_set_update_loop _];refine AAA (m:=pyNext (.ref I)) (W.done s _ _ hst λh' tk kp=>AAB ?_);rw[List.take_length] at hS;exact q h' tk (λc o _ c2 e=>kp c o (by simpa using c2) e) (hS.at λo e=>kp S o (by simpa using hSI) e)
 |succ m ih=>
  intro i s hm hi hst hS q;have lt:i<ns.length:=by omega
  refine codeAny_builtin PyProof.Rows.F.entry_set_update_loop ?_;rw[Around.under_plainId PyProof.Rows.F.plain_set_update_loop _];refine AAA (m:=pyNext (.ref I)) (W.item i s _ _ lt hst λv h' tk hv st kp=>?_);obtain⟨t,rfl⟩:=hP i v hv;have eg:ns.getD i 0=ns[i]:=by simp[lt]
  rw[eg];have tk1:ns.take i++[ns[i]]=ns.take (i+1):=by rw[List.take_succ,AAw lt];rfl
  have nb:(if ns[i]∈BX (ns.take i) then BX (ns.take i) else BX (ns.take i)++[ns[i]])=BX (ns.take (i+1)):=by rw[←tk1,HC]
  have hS1:SetI prog w h' S (BX (ns.take i)):=hS.at λo e=>kp S o (by simpa using hSI) e;refine AAA (AAr (Tq (s:={ s with heap:=h',toks:=tk }) hS1 (by rw[nb];exact AAv (Rn _ _) room) λb h2 t2 sb hS2=>?_));rw[nb] at hS2;have k2:∀c o,c≠S->h'.get? c=some o->h2.get? c=some o:=λc o hc e=>(sb.2 c hc).trans e;refine AAB ⟨plainId_quiet PyProof.Rows.F.plain_set_update_loop _,ih (i+1) _ (by omega) lt (W.frame _ _ _ st λb hb o e=>k2 b o (λz=>hSf (z ▸ hb)) e) hS2 λh3 t3 kp3 hS3=>?_⟩;exact q h3 t3 (λc o c1 c2 e=>kp3 c o c1 c2 (k2 c o c1 (kp c o (by simpa using c2) e))) hS3
theorem P0(a:Value)(h:Q (.ref s.heap.objs.size) { s with heap:=s.heap.push (Ay !(w.params.followText "set-order")) }):
  codeAny (model prog w) A (.call (.builtin "set.__new__") ⟨[.type "set",a],[]⟩) (wants Q E) s:=by
 refine codeAny_call_builtin (b:=Builtin.«set.__new__») PySem.F.plain_set_new PySem.F.entry_set_new (AAy (PySem.F.newCall_set_1 a) ?_);unfold Builtin.«set.__new__» Builtin.Frozenset.newClass;have z:=sub_set_self
 wp_walk
 refine wpAny_askSetting (AAB ?_);have e:∀{Q:Value->Shared->Prop} {E:Value->Shared->Prop} (t:SetTable),Q (.ref s.heap.objs.size) { s with heap:=s.heap.push { cls:=.type "set",data:=.set #[] 0 t } }->wpAny (model prog w) A.in1 (newObj (.type "set") (.set #[] 0 t)) Q E s:=λt z=>by
  unfold newObj
  wp_walk
  first|exact z|exact AAA (wpAny_alloc (AAB z))|trace_state
 exact e _ (AAB h)
set_option maxHeartbeats 2000000 in
theorem LG{T:String}{l:Addr}{ns:List Int}{Q:Value->Shared->Prop}{fp:Addr->List Addr}{St:Addr->Nat->Heap->Prop}{itO:Obj}
  (c1:isSubtype (.type T) (.type "set")=Pure.pure false) (c2:isSubtype (.type T) (.type "frozenset")=Pure.pure false) (c3:(Value.type T==Value.type "dict")=false)
  (tyl:∀{s':Shared},(∀o,s.heap.get? l=some o->s'.heap.get? l=some o)->s'.TypeIs (.ref l) T)
  (walk:∀{s':Shared} {A':Around} {E' Q':Value->Shared->Prop},(∀o,s.heap.get? l=some o->s'.heap.get? l=some o)->Q' (.ref s'.heap.objs.size) { s' with heap:=s'.heap.push itO }->wpAny (model prog w) A' (pyIter (.ref l)) Q' E' s')
  (W:∀I,l≠I->Walks prog w A.in1.in1.in1 I (fp I) [I] ns.length P (St I)) (hP:∀i v,P i v->∃t,v=.int (ns.getD i 0) t) (hfp:∀I,∀b∈fp I,b=I∨b=l) (hl:∃o,s.heap.get? l=some o)
  (hfr:itO.isFreed=false) (st0:∀{h:Heap} (I:Addr),h.get? I=some itO->(∀o,s.heap.get? l=some o->h.get? l=some o)->St I 0 h) (room:(BX ns).length<=18)
  (q:∀h' tk,(∀c o,s.heap.get? c=some o->h'.get? c=some o)->SetI prog w h' s.heap.objs.size (BX ns)->Q (.ref s.heap.objs.size) { s with heap:=h',toks:=tk }) :
  wpAny (model prog w) A (call (.type "set") [.ref l]) Q E s:=by
 refine QY PySem.F.called_set (PySem.F.typeCall_set_1 _) (P0 (.ref l) (Q:=λx s₁=>x=.ref s.heap.objs.size/\s₁={ s with heap:=s.heap.push (Ay !(w.params.followText "set-order")) }) ⟨rfl,rfl⟩) ?_;rintro x s₁ ⟨rfl,rfl⟩;generalize hled:(!(w.params.followText "set-order"))=led;have at_S:(s.heap.push (Ay led)).get? s.heap.objs.size=some (Ay led):=AAD _ rfl;have ty:Shared.TypeIs { s with heap:=s.heap.push (Ay led) } (.ref s.heap.objs.size) "set" := ⟨_,at_S,rfl⟩;have lt:l<s.heap.objs.size:=by obtain⟨o,e⟩:=hl;exact Heap.lt_size e
 have kl:∀o,s.heap.get? l=some o->(s.heap.push (Ay led)).get? l=some o:=λo e=>AAC _ e;have tyl:=tyl (s':={ s with heap:=s.heap.push (Ay led) }) kl;refine⟨ty,codeAny_call_builtin PySem.F.called_set.init.plain PySem.F.entry_set_init (check_set_init_1 ty ?_)⟩;unfold Builtin.«set.__init__» noKeywords Builtin.Frozenset.updateFrom;have walk':∀(A:Around) (E:Value->Shared->Prop) (Q:Value->Shared->Prop),Q (.ref (s.heap.push (Ay led)).objs.size) { s with heap:=(s.heap.push (Ay led)).push itO }->wpAny (model prog w) A (pyIter (.ref l)) Q E { s with heap:=s.heap.push (Ay led) }:=λA E Q z=>walk (s':={ s with heap:=s.heap.push (Ay led) }) kl z
 wp_walk using walk'
 have sz:(s.heap.push (Ay led)).objs.size=s.heap.objs.size+1:=Heap.size_push ..;have ne1:l≠(s.heap.push (Ay led)).objs.size:=by rw[sz];exact AAf (AAj lt)
 have ne2:s.heap.objs.size≠(s.heap.push (Ay led)).objs.size:=by rw[sz];exact AAf (Nat.lt_succ_self _)
 have hSf:s.heap.objs.size∉fp (s.heap.push (Ay led)).objs.size:=λz=>(hfp _ _ z).elim ne2 (Nat.ne_of_gt lt);refine RQ (A:=A.in1.in1) (W _ ne1) hP ne2 hSf room ns.length 0 _ (Nat.sub_zero _) (AAm _) (st0 _ (AAD _ hfr) λo e=>AAC _ (kl o e)) ?start λh' tk kp hS=>?fin
 case start=>
  refine⟨_,#[],0,_,AAC _ at_S,⟨rfl,rfl,rfl⟩,rfl,?_,⟨[],.nil,.refl _⟩,KW led,hled.symm⟩;intro e he;cases he
 case fin=>
  have ltS:∀{c:Addr} {o:Obj},s.heap.get? c=some o->c<s.heap.objs.size:=λe=>Heap.lt_size e;exact AAB (AAB ⟨rfl,q h' tk (λc o e=>kp c o (AAf (ltS e)) (by rw[sz];exact AAf (AAj (ltS e))) (AAC _ (AAC _ e))) hS⟩)
theorem Mo:isSubtype (.type "tuple") (.type "set")=Pure.pure false:=by rw[isSubtype_type];kernel_rfl
theorem Mp:isSubtype (.type "tuple") (.type "frozenset")=Pure.pure false:=by rw[isSubtype_type];kernel_rfl
theorem OX{l:Addr}{its:List Value}{ns:List Int}{Q:Value->Shared->Prop}(hh:A.handled=none)(hl:s.heap.IsList l its.toArray)(rv:IntsAre its ns)(room:(BX ns).length<=18)
  (q:∀h' tk,(∀c o,s.heap.get? c=some o->h'.get? c=some o)->SetI prog w h' s.heap.objs.size (BX ns)->Q (.ref s.heap.objs.size) { s with heap:=h',toks:=tk }) :
  wpAny (model prog w) A (call (.type "set") [.ref l]) Q E s:=by
 have len:its.toArray.size=ns.length:=by have:=congrArg List.length rv.nums;rw[AAG] at this;simpa using this
 refine LG (T := "list") (l:=l) (ns:=ns) (fp:=λI=>[I,l]) (P:=λi v=>its.toArray[i]?=some v) (St:=λI i h=>h.IsListIter I l i/\h.IsList l its.toArray) (itO:={ cls:=.type "list_iterator",data:=.fields #[.ref l,.int 0 0] }) PySem.F.sub_list_set PySem.F.sub_list_frozenset (by decide +kernel) (λk=>(hl.at k).typeIs) (λk z=>wpAny_pyIter_list (hl.at k) z) (λI hI=>len ▸ Walks.list (by simp[hh]) I l hI its.toArray) (λi v e=>?_) (λI b hb=>by simpa using hb) (by obtain⟨o,e,_⟩:=hl;exact⟨o,e⟩) rfl (λI e k=>⟨⟨_,e,rfl,rfl⟩,hl.at k⟩) room q;have e':its[i]?=some v:=by simpa using e
 exact rv.int_at i v e'
theorem RM{l:Addr}{its:List Value}{ns:List Int}{Q:Value->Shared->Prop}(hh:A.handled=none)(hl:s.heap.IsTuple l its.toArray)(rv:IntsAre its ns)(room:(BX ns).length<=18)
  (q:∀h' tk,(∀c o,s.heap.get? c=some o->h'.get? c=some o)->SetI prog w h' s.heap.objs.size (BX ns)->Q (.ref s.heap.objs.size) { s with heap:=h',toks:=tk }) :
  wpAny (model prog w) A (call (.type "set") [.ref l]) Q E s:=by
 have len:its.toArray.size=ns.length:=by have:=congrArg List.length rv.nums;rw[AAG] at this;simpa using this
 refine LG (T := "tuple") (l:=l) (ns:=ns) (fp:=λI=>[I,l]) (P:=λi v=>its.toArray[i]?=some v) (St:=λI i h=>h.IsTupleIter I l i/\h.IsTuple l its.toArray) (itO:={ cls:=.type "tuple_iterator",data:=.fields #[.ref l,.int 0 0] }) Mo Mp (by decide +kernel) (λk=>(hl.at k).typeIs) (λk z=>wpAny_pyIter_tuple (hl.at k) z) (λI hI=>len ▸ Walks.tuple (by simp[hh]) I l hI its.toArray) (λi v e=>?_) (λI b hb=>by simpa using hb) (by obtain⟨o,e,_⟩:=hl;exact⟨o,e⟩) rfl (λI e k=>⟨⟨_,e,rfl,rfl⟩,hl.at k⟩) room q;have e':its[i]?=some v:=by simpa using e
 exact rv.int_at i v e'
end
end Ht
namespace Ht
open PySem PySem.Spec PyProof.Rows Sem L2 PySem.SetTable
theorem F8:∀(l:List α) (i:Nat) (x:α),l[i]?=some x->(x::l.eraseIdx i).Perm l
 |[],_,_,e=>by cases e
 |a::l,0,x,e=>by
  simp at e;subst e;exact .refl _
 |a::l,i+1,x,e=>by
  have e':l[i]?=some x:=by simpa using e
  exact(List.Perm.swap a x _).trans ((F8 l i x e').cons a)
theorem QI(f:Nat->Nat):∀(Bf k:Nat) (left:List α) (out:Array α),left.length<=Bf->(pickOrder.go f Bf k left out).toList.Perm (out.toList++left)
 |0,k,left,out,h=>by
  have:left=[]:=List.length_eq_zero_iff.mp (by omega);subst this;unfold pickOrder.go;rw[AAb]
 |Bf+1,k,left,out,h=>by
  unfold pickOrder.go;cases e:left[f k % left.length]? with
  |none=>
   simp only[];have:left=[]:=by
    cases left with
    |nil=>rfl
    |cons a l=>
     exfalso;have:=List.getElem?_eq_none_iff.mp e;have:=Nat.mod_lt (f k) (show 0<(a::l).length by simp);omega
   rw[this,AAb]
  |some x=>
   simp only[];have hp:=F8 left _ x e;have hl:=hp.length_eq;rw[AAI] at hl;refine(QI f Bf (k+1) _ (out.push x) (by omega)).trans ?_;rw[Array.toList_push,AAo];exact hp.append_left _
theorem Rg(f:Nat->Nat)(xs:Array α):(pickOrder f xs).toList.Perm xs.toList:=by
 have:=QI f xs.size 0 xs.toList #[] (by simp);simpa[pickOrder] using this
noncomputable def wv(w:World)(S:Addr)(ep:Nat)(es:Array (Int×Value)):Array (Int×Value):=if w.params.followText "set-order" = true then pickOrder (w.params.setOrder S ep) es else es
theorem LO(w:World)(S:Addr)(ep:Nat)(es:Array (Int×Value)):(wv w S ep es).toList.Perm es.toList:=by
 unfold wv;split
 ·exact Rg _ _
 ·exact .refl _
theorem GD(w:World)(S:Addr)(ep:Nat)(es:Array (Int×Value)):(wv w S ep es).size=es.size:=by
 have:=(LO w S ep es).length_eq;simpa using this
structure Wt(w:World)(t:SetTable)(n:Nat):Prop where
 fits:t.fits n=true
 nd:w.params.followText "set-order" = false->Ris t.place.toList/\(!t.plain&&decide (n > 1))=false
theorem Wt.sz(T:Wt w t n):t.place.size=n:=by
 have:=T.fits;unfold SetTable.fits at this;simp only[Bool.and_eq_true,beq_iff_eq] at this;exact this.1
theorem Tab.wt(T:Tab t n):Wt w t n:=⟨T.fits,λ_=>⟨T.ris,by rw[T.pl];rfl⟩⟩
section
variable{prog:Program}{w:World}{A:Around}{E:Value->Shared->Prop}{s:Shared}
theorem Mw(ho:s.heap.get? S=some o)(hd:o.data=.set es ep t)(T:Wt w t es.size)(hled:t.led=!(w.params.followText "set-order"))
  (hsl:w.params.followText "set-order" = false->below t.place sl=i)
  (h1:∀e sl',(wv w S ep es)[i]?=some e->(w.params.followText "set-order" = false->below t.place sl'=i+1)->Q (some (e.2,sl')) s)
  (h2:(wv w S ep es)[i]?=none->Q none s):wpAny (model prog w) A (setNext S sl i ep) Q E s:=by
 unfold setNext;refine AAA (AAk ho hd T.fits ?_);dsimp only;unfold setsByText;refine AAA (AAA (wpAny_askSetting (AAB ?_)));dsimp only[model];by_cases hb:w.params.followText "set-order" = true
 ·rw[if_pos hb];have e0:(ep != ep)=false:=by simp
  rw[e0,if_neg AAi];unfold setWalk setsByText;refine AAA (AAA (AAk ho hd T.fits ?_));dsimp only;refine AAA (AAA (wpAny_askSetting (AAB ?_)));dsimp only[model];rw[if_pos hb];refine AAA (wpAny_askSetting (AAB (AAB ?_)));dsimp only;have ew:wv w S ep es=pickOrder (w.params.setOrder S ep) es:=by unfold wv;rw[if_pos hb]
  rw[ew] at h1 h2;cases q:(pickOrder (w.params.setOrder S ep) es)[i]? with
  |none=>exact h2 q
  |some e=>exact h1 e sl q λz=>by rw[hb] at z;cases z
 ·have hb':w.params.followText "set-order" = false:=by simpa using hb
  rw[if_neg hb];have hl:t.led=true:=by rw[hled,hb'];rfl
  have ew:wv w S ep es=es:=by unfold wv;rw[if_neg hb]
  rw[ew] at h1 h2;have hs:=hsl hb';split
  ·rename_i z;have z':(!t.plain&&decide (es.size > 1))=true:=z;rw[(T.nd hb').2] at z';cases z'
  ·refine AAA ?_;show wpAny _ _ (if (!t.led&&!es.isEmpty)=true then PySem.unsupported "set:maker-not-led" else Pure.pure ()) _ _ _;rw[hl];rw[if_neg (by simp)];refine AAB ?_;refine AAB ?_;rw[hs];have hsz:=T.sz;by_cases hi:i<es.size
   ·have e1:es[i]?=some es[i]:=by simp[hi]
    have e2:t.place[i]?=some (t.place[i]'(by omega)):=by simp[hsz,hi]
    rw[e1,e2];exact h1 es[i] _ e1 λ_=>PD (T.nd hb').1 (by omega)
   ·have e1:es[i]?=none:=by simp;omega
    rw[e1];exact h2 e1
end
theorem si_next:Slot "set_iterator" "__next__" "set_iterator.__next__" :=
 Slot.of (owner := "set_iterator") (n := "__next__") (by rw[typeLookup_type,builtinLookup_eq_fast];kernel_rfl) (by decide +kernel) (by decide +kernel) (by decide +kernel) (.inl (by decide +kernel)) (by rw[isSubtype_type];kernel_rfl)
theorem IP:Slot "set_iterator" "__iter__" "set_iterator.__iter__" :=
 Slot.of (owner := "set_iterator") (n := "__iter__") (by rw[typeLookup_type,builtinLookup_eq_fast];kernel_rfl) (by decide +kernel) (by decide +kernel) (by decide +kernel) (.inl (by decide +kernel)) (by rw[isSubtype_type];kernel_rfl)
theorem Gb:entryFor table "set_iterator.__next__" = some Builtin.«set_iterator.__next__»:=entryFor_of_tree (by kernel_rfl)
theorem Nr:entryFor table "set_iterator.__iter__" = some Builtin.«dict_keyiterator.__iter__»:=entryFor_alias (id' := "dict_keyiterator.__iter__") (by kernel_rfl) rfl (by decide +kernel) (by kernel_rfl)
theorem Nt:entryFor table "set.__iter__" = some Builtin.«frozenset.__iter__»:=entryFor_alias (id' := "frozenset.__iter__") (by kernel_rfl) rfl (by decide +kernel) (by kernel_rfl)
theorem Gk(a:Value):argsOk "set_iterator.__next__" ⟨[a],[]⟩:=by unfold argsOk;kernel_rfl
theorem OD(a:Value):argsOk "set_iterator.__iter__" ⟨[a],[]⟩:=by unfold argsOk;kernel_rfl
noncomputable def itO(S:Addr)(sl i n ep:Nat):Obj:={ cls:=.type "set_iterator",data:=.fields #[.int sl 0,.int i 0,.ref S,.int n 0,.int ep 0] }
section
variable{prog:Program}{w:World}{A:Around}{E:Value->Shared->Prop}{s:Shared}
theorem JN(hh:A.handled=none)(h:∀a h',(∀b o,s.heap.get? b=some o->h'.get? b=some o)->Shared.TypeIs { s with heap:=h' } (.ref a) "StopIteration" -> E (.ref a) { s with heap:=h' }):
  wpAny (model prog w) A (newExc (.type "StopIteration") [] >>= λe=>(raiseNew e:Sem α)) Q E s:=by
 unfold newExc newTuple;refine AAA (AAA (AAt ?_ (by size_fits)));refine AAA (m:=firstArgMember _ _) (AAy (a:=Value.none) (by kernel_rfl) ?_);refine AAt ?_ (by size_fits);unfold raiseNew;refine AAA (wpAny_handled ?_);rw[hh];refine AAA (AAB (wpAny_throw (h _ _ (λb o e=>AAC _ (AAC _ e)) ⟨_,AAD _ rfl,rfl⟩)))
theorem YB(hne:S≠I)(hI:s.heap.get? I=some (itO S sl i es.size ep))(ho:s.heap.get? S=some o)(hd:o.data=.set es ep t)(T:Wt w t es.size)(hled:t.led=!(w.params.followText "set-order"))
  (hsl:w.params.followText "set-order" = false->below t.place sl=i) (hx:(wv w S ep es)[i]?=some x)
  (q:∀h' sl',h'.get? I=some (itO S sl' (i+1) es.size ep)->(w.params.followText "set-order" = false->below t.place sl'=i+1)->Heap.SameBut I s.heap h'->Q (some x.2) { s with heap:=h' }) :
  wpAny (model prog w) A (pyNext (.ref I)) Q E s:=by
 have hT:s.TypeIs (.ref I) "set_iterator" := ⟨_,hI,rfl⟩;unfold pyNext;refine AAA (AA1 (wpAny_callSpecial?_slot (name:=Str.ofString "__next__") hT si_next (AAe si_next hT Gb ?_ (Gk _))));unfold Builtin.«set_iterator.__next__»;refine AAA (AAy (a:=(Value.ref I,[])) rfl ?_);refine AAA (wpAny_fieldsOf hI rfl ?_);dsimp only;unfold setEntries;refine AAA (AAA (AAk ho hd T.fits (AAB ?_)));dsimp only;have e0:((es.size:Int) != (es.size:Int))=false:=by simp
 rw[e0,if_neg AAi];simp only[Int.toNat_natCast];refine AAA (Mw ho hd T hled hsl (λe sl' h1 h2=>?_) λz=>by rw[hx] at z;cases z);rw[hx] at h1;cases h1;dsimp only;refine AAA (AAs hI (by simp) λh1 g1 s1=>?_);refine AAA (AAs g1 (by simp) λh2' g2 s2=>?_);refine AAB ⟨_,rfl,AAB (q h2' sl' ?_ h2 (s1.trans s2))⟩;rw[g2];simp[itO,rawInt]
theorem aT(hh:A.handled=none)(hI:s.heap.get? I=some (itO S sl i es.size ep))(ho:s.heap.get? S=some o)(hd:o.data=.set es ep t)(T:Wt w t es.size)(hled:t.led=!(w.params.followText "set-order"))
  (hsl:w.params.followText "set-order" = false->below t.place sl=i) (hx:(wv w S ep es)[i]?=none)
  (q:∀h',(∀b o,b≠I->s.heap.get? b=some o->h'.get? b=some o)->Q none { s with heap:=h' }) :
  wpAny (model prog w) A (pyNext (.ref I)) Q E s:=by
 have hT:s.TypeIs (.ref I) "set_iterator" := ⟨_,hI,rfl⟩;unfold pyNext;refine AAA (AA1 (wpAny_callSpecial?_slot (name:=Str.ofString "__next__") hT si_next (AAe si_next hT Gb ?_ (Gk _))));unfold Builtin.«set_iterator.__next__»;refine AAA (AAy (a:=(Value.ref I,[])) rfl ?_);refine AAA (wpAny_fieldsOf hI rfl ?_);dsimp only;unfold setEntries;refine AAA (AAA (AAk ho hd T.fits (AAB ?_)));dsimp only;have e0:((es.size:Int) != (es.size:Int))=false:=by simp
 rw[e0,if_neg AAi];simp only[Int.toNat_natCast];refine AAA (Mw ho hd T hled hsl (λe sl' h1 h2=>by rw[hx] at h1;cases h1) λ_=>?_);dsimp only;refine AAA (AAs hI (by simp) λh1 g1 s1=>?_);refine JN (A:=A.in1) (s:={ s with heap:=h1 }) hh λa h' k ty=>?_;refine AAA (AA2 (T := "StopIteration") (b:=true) ty isSubtype_stop ?_);exact AAB (q h' λb o hb e=>k b o (s1.extBut b o hb e))
theorem YA(hI:s.heap.get? I=some (itO S sl i n ep))(h:Q (.ref I) s):wpAny (model prog w) A (pyIter (.ref I)) Q E s:=by
 have hT:s.TypeIs (.ref I) "set_iterator" := ⟨_,hI,rfl⟩;refine wpAny_pyIter_slot hT IP (AAe IP hT Nr ?_ (OD _));exact AAB ⟨_,rfl, "set_iterator",_,hT,si_next.lookup,h⟩
theorem aS(ho:s.heap.get? S=some o)(hex:o.ExactSet)(hd:o.data=.set es ep t)(T:Wt w t es.size)
  (h:Q (.ref s.heap.objs.size) { s with heap:=s.heap.push (itO S 0 0 es.size ep) }):wpAny (model prog w) A (pyIter (.ref S)) Q E s:=by
 have hT:s.TypeIs (.ref S) "set" := ⟨_,ho,hex.1⟩;refine wpAny_pyIter_slot hT PySem.F.slot_set_iter (AAe PySem.F.slot_set_iter hT Nt ?_ (PySem.F.args_set_iter_1 _));unfold Builtin.«frozenset.__iter__» Builtin.Frozenset.slot0 Builtin.Frozenset.sizeOf setEntries setDrawn setsByText;refine AAA (AAA (AAy (a:=(Value.ref S,[])) rfl (AAB ?_)));refine AAA (AAA (AAA (AAk ho hd T.fits (AAB (AAB ?_)))));refine AAA (AAA (AAk ho hd T.fits ?_));dsimp only;refine AAA (AAA (wpAny_askSetting (AAB (AAB ?_))));dsimp only;have e0:(!(w.params.followText "set-order")&&(!t.plain&&decide (es.size > 1)))=false:=by
  cases b:w.params.followText "set-order" with
  |true=>rfl
  |false=>rw[(T.nd b).2];rfl
 split
 ·rename_i z;have z':=e0.symm.trans z;cases z'
 ·refine AAA (AAB ?_);refine AAA (wpAny_setEpoch_of ho hd T.fits ?_);unfold newFields;exact AAA (AAt (AAB ⟨_,rfl, "set_iterator",_,⟨_,AAD _ rfl,rfl⟩,si_next.lookup,h⟩))
end
section
variable{prog:Program}{w:World}{A:Around}{E:Value->Shared->Prop}{s:Shared}
theorem ZT:splitId "set.__len__" = some ("set", "__len__"):=by decide +kernel
theorem Mx(hT:s.TypeIs (.ref S) "set")(h:Q false s):wpAny (model prog w) A (Builtin.List.listLengthHint (.ref S)) Q E s:=by
 obtain⟨id,hid⟩:∃id,id = "set.__len__" := ⟨_,rfl⟩;have l:=PySem.F.slot_set_len.lookup;have z:=sub_set_self;have sp:=ZT;rw[←hid] at l sp;unfold Builtin.List.listLengthHint
 wp_walk
 rw[sp]
 wp_walk
 split
 ·wp_walk
  exact h
 ·rename_i no;exact absurd (by rw[hid];decide +kernel) no
theorem RD(hh:A.handled=none)(hne:S≠I)(hd:o.data=.set es ep t)(T:Wt w t es.size)(hled:t.led=!(w.params.followText "set-order")):
  Walks prog w A I [I,S] [I] es.size (λi v=>∃e,(wv w S ep es)[i]?=some e/\v=e.2)
   (λi h=>(∃sl:Nat,h.get? I=some (itO S sl i es.size ep)/\(w.params.followText "set-order" = false->below t.place sl=i))/\h.get? S=some o) where
 sub:=λb hb=>by simp at hb;simp[hb]
 frame:=λi h h' st k=>by
  obtain⟨⟨sl,h1,h2⟩,h3⟩:=st;exact⟨⟨sl,k I (by simp) _ h1,h2⟩,k S (by simp) _ h3⟩
 item:=λi s Q E hi st q=>by
  obtain⟨⟨sl,h1,h2⟩,h3⟩:=st;obtain⟨x,hx⟩:∃x,(wv w S ep es)[i]?=some x:=⟨(wv w S ep es)[i]'(by rw[GD];exact hi),by simp[GD,hi]⟩;refine YB hne h1 h3 hd T hled h2 hx λh' sl' g1 g2 sb=>?_;exact q x.2 h' s.toks ⟨x,hx,rfl⟩ ⟨⟨sl',g1,g2⟩,(sb.2 S hne).trans h3⟩ λb o hb e=>(sb.2 b (by simpa using hb)).trans e
 done:=λs Q E st q=>by
  obtain⟨⟨sl,h1,h2⟩,h3⟩:=st;refine aT hh h1 h3 hd T hled h2 (by simp[GD]) λh' k=>?_;exact q h' s.toks λb o hb e=>k b o (by simpa using hb) e
 self:=λi s Q E st h=>by
  obtain⟨⟨sl,h1,h2⟩,h3⟩:=st;exact YA h1 h
theorem Px(hex:o.ExactSet)(hd:o.data=.set es ep t)(T:Wt w t es.size)(hled:t.led=!(w.params.followText "set-order")):
  PySem.W.KdlSrc prog w "set" S S es.size (λi v=>∃e,(wv w S ep es)[i]?=some e/\v=e.2) (λh=>h.get? S=some o) where
 type:=λs h=>⟨_,h,hex.1⟩
 there:=λh e=>⟨Heap.lt_size e,Heap.lt_size e⟩
 keep:=λh h' e k=>k S (.inl rfl) _ e
 notList:=by decide
 notTuple:=by decide
 hint:=λA E s Q e h=>Mx ⟨_,e,hex.1⟩ h
 iter:=λA s hh e=>⟨itO S 0 0 es.size ep,_,λE Q h=>aS e hex hd T h,RD hh (AAf (Heap.lt_size e)) hd T hled,⟨0,AAD _ rfl,λb=>PC (T.nd b).1⟩,AAC _ e⟩
theorem Mt(hh:A.handled=none)(h64:ks.length<64)(hS:SetI prog w s.heap S ks)
  (q:∀(h1 h':Heap) tk c (out:Array Value) ms,(∀b o,s.heap.get? b=some o->h1.get? b=some o)->(∀b o,h1.get? b=some o->h'.get? b=some o)->h'.get? h1.objs.size=some (seqObj "list" out c)->IntsAre out.toList ms->ms.Perm ks->ms.Pairwise (·<=·)->Q (.ref h1.objs.size) { s with heap:=h',toks:=tk }) :
  wpAny (model prog w) A (call (.builtin "sorted") [.ref S]) Q E s:=by
 obtain⟨o,es,ep,t,ho,hex,hd,hel,⟨ns,hen,hp⟩,T,hled⟩:=hS;have small:es.size<64:=by rw[ME hen hp];exact h64
 refine Calls.call_function_entry kind_sorted plain_sorted entry_sorted (args_sorted1 _) ?_;unfold Builtin.«sorted»;refine AAA (AAy (a:=()) rfl ?_);refine AAA (PySem.W.kdu_collect (A:=A.in1) (Px (S:=S) hex hd T.wt hled) hh ho (by rw[sizeLine_eq];omega) λh1 t1 acc k1 it=>?_);have hacc:acc.toList=(wv w S ep es).toList.map (·.2):=by
  refine List.ext_getElem? λi=>?_;by_cases hi:i<acc.size
  ·obtain⟨e,h1,h2⟩:=it.2 i acc[i] (by simp[hi]);have:acc.toList[i]?=some acc[i]:=by simp[hi]
   rw[this,h2,AAW,Array.getElem?_toList,h1];rfl
  ·have h1:=it.1;have h2:=GD w S ep es;rw[List.getElem?_eq_none (by simp;omega),List.getElem?_eq_none (by simp;omega)]
 obtain⟨ls,hls,hpl⟩:=HM ((LO w S ep es).map (·.2)) hen;rw[←hacc] at hls;have hlen:acc.toList.length=es.size:=by rw[Array.length_toList];exact it.1
 refine AAA (wpAny_newList ?_ (by rw[sizeLine_eq];omega));have hL:(h1.push (seqObj "list" acc.toList.toArray 0)).get? h1.objs.size=some (seqObj "list" acc.toList.toArray 0):=AAD _ rfl;have kL:∀b o,h1.get? b=some o->(h1.push (seqObj "list" acc.toList.toArray 0)).get? b=some o:=λb o e=>AAC _ e;refine AAA (AAr (AAe slot_list_sort ⟨_,hL,rfl⟩ entry_list_sort (list_sort_tree hL hls (by omega) λout ms a1 a2 a3=>⟨_,rfl,?_⟩) (args_list_sort _)));obtain⟨c,hc⟩:=sortedHeap_at (out:=out) hL;exact AAB ⟨_,rfl,q h1 _ _ c out ms k1 (λb o e=>by rw[sortedHeap_old (AAf (Heap.lt_size e)) (Heap.lt_size (kL b o e))];exact kL b o e) hc a1 ((a2.trans hpl).trans hp) a3⟩
end
end Ht
namespace Ht
def HP(x:Int):List Int->List Int
 |[]=>[x]
 |y::ys=>if x<y then x::y::ys else if x=y then y::ys else y::HP x ys
def srt(xs:List Int):List Int:=xs.foldr HP []
theorem Jk(x k:Int):∀ys:List Int,k∈HP x ys↔k=x∨k∈ys
 |[]=>by simp[HP]
 |y::ys=>by
  unfold HP;split
  ·simp
  ·split
   ·rename_i e;subst e;simp
   ·rw[AAJ,Jk x k ys,AAJ];constructor<;>(intro z;rcases z with z|z|z<;>simp[z])
theorem K3(x:Int):∀{ys:List Int},ys.Pairwise (· < ·)->(HP x ys).Pairwise (· < ·)
 |[],_=>by simp[HP]
 |y::ys,h=>by
  obtain⟨h1,h2⟩:=AA5.mp h;unfold HP;split
  ·rename_i hx;exact AA5.mpr ⟨λz hz=>(AAJ.mp hz).elim (λe=>e ▸ hx) λm=>Int.lt_trans hx (h1 z m),h⟩
  ·split
   ·exact h
   ·refine AA5.mpr ⟨λz hz=>?_,K3 x h2⟩;rcases(Jk x z ys).mp hz with rfl|m
    ·omega
    ·exact h1 z m
theorem GI(xs:List Int)(k:Int):k∈srt xs↔k∈xs:=by
 unfold srt
 induction xs with
 |nil=>simp
 |cons x xs ih=>rw[List.foldr_cons,Jk,ih,AAJ]
theorem Iu(xs:List Int):(srt xs).Pairwise (· < ·):=by
 unfold srt
 induction xs with
 |nil=>exact .nil
 |cons x xs ih=>exact K3 x ih
theorem Lm:∀{xs ys:List Int},xs.Pairwise (· < ·)->ys.Pairwise (· < ·)->(∀k,k∈xs↔k∈ys)->xs=ys
 |[],[],_,_,_=>rfl
 |[],y::ys,_,_,h=>by have:=(h y).mpr (AAQ ..);cases this
 |x::xs,[],_,_,h=>by have:=(h x).mp (AAQ ..);cases this
 |x::xs,y::ys,a,b,h=>by
  obtain⟨a1,a2⟩:=AA5.mp a;obtain⟨b1,b2⟩:=AA5.mp b;have e:x=y:=by
   rcases AAJ.mp ((h x).mp (AAQ ..)) with z|z
   ·exact z
   ·rcases AAJ.mp ((h y).mpr (AAQ ..)) with z2|z2
    ·exact z2.symm
    ·have:=a1 y z2;have:=b1 x z;omega
  subst e;rw[Lm a2 b2 λk=>?_];constructor
  ·intro hk;rcases AAJ.mp ((h k).mp (AAR _ hk)) with z|z
   ·have:=a1 k hk;omega
   ·exact z
  ·intro hk;rcases AAJ.mp ((h k).mpr (AAR _ hk)) with z|z
   ·have:=b1 k hk;omega
   ·exact z
theorem ZS(p:ms.Perm (BX ns))(h:ms.Pairwise (·<=·)):ms=srt ns:=by
 have nd:ms.Nodup:=p.nodup_iff.mpr (JR ns);have lt:ms.Pairwise (· < ·):=(List.pairwise_and_iff.mpr ⟨h,nd⟩).imp λz=>by
  have:=z.1;have:=z.2;omega
 exact Lm lt (Iu ns) λk=>by rw[p.mem_iff,NN,GI]
end Ht
namespace L2
open PySem PySem.Spec PyProof.Rows Sem Ht
noncomputable def Wu(P:Program)(w:World)(p:Addr)(ks:List Int):HO:=.ext λh=>SetI P w h p ks
section
variable{X:Cx}
theorem SI(hc:X.calm=true):CT X (.type "set") (λxs H Q=>∃a ns,xs=[.ref a]/\(SqL X.K H a (ns.map V.int)∨SqT X.K H a (ns.map V.int))/\(BX ns).length<=18/\∀p,H p=none->Q (.ref p) (upd H p (Wu X.prog X.w p (BX ns)))):=by
 intro pins s σ H xs us Q I r h;obtain⟨a,ns,rfl,ha,room,q⟩:=h;obtain⟨u,rfl,ru⟩:=Vals.one r;cases ru;have fin:∀h' tk,(∀c o,s.heap.get? c=some o->h'.get? c=some o)->SetI X.prog X.w h' s.heap.objs.size (BX ns)->EP X pins σ Q (.ref s.heap.objs.size) { s with heap:=h',toks:=tk }:=λh' tk kp hS=>by
  refine⟨.ref s.heap.objs.size,_,I.laid (o:=Wu X.prog X.w s.heap.objs.size (BX ns)) kp (AAF _) ?_,rfl,q _ (I.hok.fresh (AAF _))⟩;obtain⟨o,es,ep,t,e,rest⟩:=id hS;exact⟨hS,⟨o,e⟩,λh1 h2 z k=>z.at k⟩
 rcases ha with ha|ha
 ·obtain⟨its,rv,pl,hz⟩:=I.list ha;exact OX (I.ok.hd hc) pl.isList (Ji rv) room fin
 ·obtain⟨its,rv,pl,hz⟩:=I.tuple ha;exact RM (I.ok.hd hc) pl (Ji rv) room fin
theorem O8(hc:X.calm=true):CT X (.builtin "sorted") (λxs H Q=>∃p ns,xs=[.ref p]/\H p=some (Wu X.prog X.w p (BX ns))/\(BX ns).length<64/\∀l,H l=none->Q (.ref l) (upd H l (.lst ((srt ns).map V.int)))):=by
 intro pins s σ H xs us Q I r h;obtain⟨p,ns,rfl,hp,h64,q⟩:=h;obtain⟨u,rfl,ru⟩:=Vals.one r;cases ru;obtain⟨hS,_⟩:=I.hok p _ hp;refine Mt (I.ok.hd hc) h64 hS λh1 h' tk c out ms k1 k2 e1 im pm sm=>?_;have em:=ZS pm sm;subst em;have I1:=I.kept (t':=tk) k1;have rv:=Dz im;refine⟨.ref h1.objs.size,_,I1.laid (t':=tk) (o:=.lst ((srt ns).map V.int)) k2 (AAF _) ⟨?_,out.toList,c,rv,e1⟩,rfl,q _ (I1.hok.fresh (AAF _))⟩;obtain⟨o,es,ep,t,_,_,_,_,⟨ns',hen,hp'⟩,T,_⟩:=hS;have hsz:=ME hen (hp'.trans pm.symm);rw[AAG,sizeLine_eq];rcases T.mks with ⟨_,b⟩|⟨_,b⟩|⟨_,b⟩<;>omega
end
end L2
namespace Mi
open PySem L2 Ht
noncomputable def CV(d:D):M D:=bnd (BU d) λds=>λμ=>match GW ds with
 |some ns=>if (BX ns).length<=18 then some (.lst ((srt ns).map D.int),μ) else none
 |none=>none
theorem Jg:∀ns:List Int,IsL K ι k H (ns.map D.int) (ns.map V.int)
 |[]=>IsL.nil
 |n::r=>by
  rw[AAX,AAX];unfold IsL;exact⟨_,_,rfl,ofI _,Jg r⟩
section
variable{X:Cx}{e:Expr}{pos p p2 pos2:Pos}
theorem JM(yl:X.mg "sorted" = none)(ys:X.mg "set" = none)(he:RE X e m)(hc:X.calm=true:=by rfl)(hgl:Gl X "sorted" := by rfl)(hgs:Gl X "set" := by rfl)(hst:EU e=false:=by rfl):
  RE X (.Call (.Name "sorted" p) [.Call (.Name "set" p2) [e] [] pos2] [] pos) (mUn CV m):=by
 have hs:PE X (.Call (.Name "set" p2) [e] [] pos2) _:=D7 (SI hc) hgs ys Mi.N8 (EQ he.pe F3 (Ak hst)) (by decide) (by decide) (Ak hst) rfl;refine RE.wk (JQ (O8 hc) hgl yl PyProof.Rows.boot_sorted (EQ hs F3 (Ak rfl)) (by decide) (by decide) (Ak rfl) rfl) λσ H Q h=>?_;obtain⟨ι,μ,τ,d,μ',R,S,ev,q⟩:=h;obtain⟨x,μ1,e1,e2⟩:=AI ev;obtain⟨ds,μ2,e3,e4⟩:=AI e2;refine⟨ι,μ,τ,x,μ1,R,S,e1,λι1 H1 E1 R1 v1 i1=>?_⟩;obtain⟨hm,a,vs,rfl,h1,h2⟩:=DO R1 i1 e3;subst hm;cases hx:GW ds with
 |none=>rw[hx] at e4;cases e4
 |some ns=>
  rw[hx] at e4;have e5:(if (BX ns).length<=18 then some (D.lst ((srt ns).map D.int),μ2) else none)=some (d,μ'):=e4;split at e5
  ·rename_i room;cases e5;have ev:=Nf h2 hx;subst ev;refine⟨a,ns,rfl,h1,room,λp hp=>?_⟩;obtain⟨E2,R2⟩:=R1.laid (Wu X.prog X.w p (BX ns)) hp;exact⟨p,ns,rfl,BK,by omega,λl hl=>Qd R2 (Jg _) (λι' H' E' R'=>q ι' H' ((E1.trans E2).trans E') R') l hl⟩
  ·cases e5
end
end Mi
namespace L2
open PySem PySem.Spec PyProof.Rows Sem Ht
section
variable{prog:Program}{w:World}{A:Around}{E:Value->Shared->Prop}{s:Shared}
theorem Mv{n:Nat}:Builtin.Range.rangeSize 0 n 1=(n:Int):=by rw[rangeSize_one];split<;>omega
theorem KZ{n:Nat}(h:n<=1000):Builtin.Range.small 0 n 1=true:=small_one (by omega) (by omega) (by omega) (by omega)
theorem N0{r:Addr}{n:Nat}(hh:A.handled=none)(hr:IsRange s.heap r 0 n 1 t u v)(hn:n<=1000)
  (q:∀h' tk (acc:List Value),(∀b o,s.heap.get? b=some o->h'.get? b=some o)->IntsAre acc ((List.range n).map Int.ofNat)->Q acc { s with heap:=h',toks:=tk }) :
  wpAny (model prog w) A (collect (.ref r)) Q E s:=by
 unfold collect;refine AAA (wpAny_runValue (codeAny_builtin entry_proto_collect' ?_));rw[Around.under_plainId PySem.F.plain_proto_collect _];unfold Builtin.«proto.collect»;refine AAA (wpAny_newList ?_);refine AAB ⟨plainId_quiet PySem.F.plain_list_iadd _,codeAny_builtin entry_list_iadd' ?_⟩;rw[Around.under_plainId PySem.F.plain_list_iadd _];have got:∀(acc:Array Value) (c:Nat) (h':Heap) (tk:Nat),(∀b o,s.heap.get? b=some o->h'.get? b=some o)->h'.get? s.heap.objs.size=some { cls:=.type "list",dict:=none,data:=.seq acc c,slots:=#[] }->ItemsOf (λi v=>∃t,v=.int (0+(i:Int) * 1) t) acc n->
   wpAny (model prog w) A (load s.heap.objs.size >>= λo=>match o.data with | .seq xs _=>Pure.pure xs.toList|_=>PySem.unsupported "internal:collect") Q E { s with heap:=h',toks:=tk }:=λacc c h' tk k e it=>by
  refine AAA (wpAny_load e (AAB (q h' tk acc.toList k ?_)));have im:=intsAre_map acc.toList λv hv=>by
   obtain⟨i,hi,rfl⟩:=List.getElem_of_mem hv;obtain⟨t,e⟩:=it.2 i _ (Array.getElem?_eq_getElem (by simpa using hi));exact⟨_,t,by simpa using e⟩
  have en:acc.toList.map numOf=(List.range n).map Int.ofNat:=by
   refine List.ext_getElem? λi=>?_;rw[AAW,AAW];by_cases hi:i<n
   ·have hi':i<acc.size:=by rw[it.1];exact hi
    obtain⟨t,e⟩:=it.2 i _ (Array.getElem?_eq_getElem hi');rw[Array.getElem?_toList,Array.getElem?_eq_getElem hi',e,List.getElem?_range hi];simp[numOf]
   ·rw[List.getElem?_eq_none (by rw[Array.length_toList,it.1];omega),List.getElem?_eq_none (by simp;omega)];rfl
  rwa [en] at im
 have key:=wpAny_extend_range (prog:=prog) (w:=w) (A:=A) (s:={ s with heap:=s.heap.push { cls:=.type "list",data:=.seq ([]:List Value).toArray } })
  (R:=λ(z:Result) (s':Shared)=>∃(h':Heap) (tk:Nat) (acc:Array Value) (c:Nat),z=.ok (.ret (.ref s.heap.objs.size))/\s'={ s with heap:=h',toks:=tk } /\
   (∀b o,s.heap.get? b=some o->h'.get? b=some o)/\h'.get? s.heap.objs.size=some { cls:=.type "list",dict:=none,data:=.seq acc c,slots:=#[] }/\ItemsOf (λi v=>∃t,v=.int (0+(i:Int) * 1) t) acc n)
  (n:=n) hh (AAC _ hr) (KZ hn) Mv (by omega) s.heap.objs.size (.ref s.heap.objs.size) 0 (AAD _ rfl)
  (λh' tk acc c k e it=>⟨h',tk,acc,c,rfl,rfl,λb o z=>k b o (AAf (Heap.lt_size z)) (AAC _ z),e,it⟩)
 refine AAl key (λfin s' z=>?_) λe s' z=>by obtain⟨_,_,_,_,y,_⟩:=z;cases y
 cases fin with
 |done f=>
  obtain⟨h',tk,acc,c,y,rfl,k,e,it⟩:=z;cases y;exact got acc c h' tk k e it
 |again c=>
  refine⟨z.1,codeAny_mono z.2 λf s2 y=>?_⟩;obtain⟨h',tk,acc,c,rfl,rfl,k,e,it⟩:=y;exact got acc c h' tk k e it
end
section
variable{X:Cx}
theorem SJ:CT X (.type "range") (λxs H Q=>∃n:Nat,xs=[.int n]/\∀p,H p=none->Q (.ref p) (upd H p (.rng 0 n))):=by
 intro pins s σ H xs us Q I r h;obtain⟨n,rfl,q⟩:=h;obtain⟨u,rfl,t,rfl⟩:=Vals.one r;refine call_range_1 ⟨.ref s.heap.objs.size,_,I.laid (o:=.rng 0 n) (λb o e=>AAC _ e) (AAF _) ⟨_,_,_,AAD _ rfl⟩,rfl,q _ (I.hok.fresh (AAF _))⟩
noncomputable abbrev Kq(n:Nat):List V:=((List.range n).map Int.ofNat).map V.int
theorem Kp(n:Nat):(Kq n).length=n:=by simp
theorem MF(hc:X.calm=true):CT X (.type "list") (λxs H Q=>∃p n,xs=[.ref p]/\H p=some (.rng 0 (n:Nat))/\n<=1000/\∀l,H l=none->Q (.ref l) (upd H l (.lst (Kq n)))):=by
 intro pins s σ H xs us Q I r h;obtain⟨p,n,rfl,hp,hn,q⟩:=h;obtain⟨u,rfl,ru⟩:=Vals.one r;cases ru;obtain⟨t,u,v,e⟩:=I.hok p _ hp;refine call_list_range (I.ok.hd hc) e (KZ hn) Mv (by omega) λh' tk acc c k e it=>?_;have im:=intsAre_map acc.toList λv hv=>by
  obtain⟨i,hi,rfl⟩:=List.getElem_of_mem hv;obtain⟨t,e⟩:=it.2 i _ (Array.getElem?_eq_getElem (by simpa using hi));exact⟨_,t,by simpa using e⟩
 have en:acc.toList.map numOf=(List.range n).map Int.ofNat:=by
  refine List.ext_getElem? λi=>?_;rw[AAW,AAW];by_cases hi:i<n
  ·have hi':i<acc.size:=by rw[it.1];exact hi
   obtain⟨t,e⟩:=it.2 i _ (Array.getElem?_eq_getElem hi');rw[Array.getElem?_toList,Array.getElem?_eq_getElem hi',e,List.getElem?_range hi];simp[numOf]
  ·rw[List.getElem?_eq_none (by rw[Array.length_toList,it.1];omega),List.getElem?_eq_none (by simp;omega)];rfl
 rw[en] at im;exact⟨.ref s.heap.objs.size,_,I.laid (t':=tk) (o:=.lst (Kq n)) k (AAF _) ⟨by rw[Kp,sizeLine_eq];omega,acc.toList,c,Dz im,e⟩,rfl,q _ (I.hok.fresh (AAF _))⟩
theorem N5(hc:X.calm=true):CT X (.type "tuple") (λxs H Q=>∃p n,xs=[.ref p]/\H p=some (.rng 0 (n:Nat))/\n<=1000/\∀l,H l=none->Q (.ref l) (upd H l (.tup (Kq n)))):=by
 intro pins s σ H xs us Q I r h;obtain⟨p,n,rfl,hp,hn,q⟩:=h;obtain⟨u,rfl,ru⟩:=Vals.one r;cases ru;obtain⟨t,u,v,e⟩:=I.hok p _ hp;refine callType_codes PySem.F.called_tuple (PySem.F.typeCall_tuple_1 (.ref p)) PySem.F.entry_object_init (Q₁:=λx s₁=>s₁.TypeIs x "tuple" /\ EP X pins σ Q x s₁) ?_ (λx s₁ z=>And.intro z.1 (And.intro (PySem.F.args_object_init_2 x (.ref p)) ?_))
 ·refine codeAny_call_builtin PySem.F.plain_tuple_new PySem.F.entry_tuple_new (AAy (PySem.F.newCall_tuple_1 _) ?_);have a1:=sub_tuple_self;have a2:=init_tuple_lookup;have a3:=madeHere_tuple;have a4:s.TypeIs (.ref p) "range" := ⟨_,e,rfl⟩;unfold Builtin.«tuple.__new__»;have go:∀(A:Around) (Q:List Value->Shared->Prop) (E:Value->Shared->Prop),A.handled=none->(∀h' tk (acc:List Value),(∀b o,s.heap.get? b=some o->h'.get? b=some o)->IntsAre acc ((List.range n).map Int.ofNat)->Q acc { s with heap:=h',toks:=tk })->wpAny (model X.prog X.w) A (collect (.ref p)) Q E s:=λA Q E hh z=>N0 hh e hn z
  wp_walk using go
  ·exact I.ok.hd hc
  ·intro h' tk acc k im;have hl:acc.length=n:=by
    have:=congrArg List.length im.nums;simpa using this
   refine AAA (AAB ?_);unfold Builtin.Tuple.tupleExact;refine AAA (AAt ?_ (by show acc.toArray.size<=sizeLine;rw[sizeLine_eq];simp;omega));have I1:=I.kept (t':=tk) k;refine AAB ⟨⟨_,AAD _ rfl,rfl⟩,.ref h'.objs.size,_,I1.laid (t':=tk) (o:=.tup (Kq n)) (λb o z=>AAC _ z) (AAF _) ⟨by rw[Kp,sizeLine_eq];omega,acc,Dz im,IsTup.new _ _⟩,rfl,q _ (I1.hok.fresh (AAF _))⟩
 ·exact object_init_meets PySem.F.called_tuple.init.lookup PySem.F.called_tuple.made (by decide) X.prog X.w X.A.in1 (wants (λr s₂=>r=.none/\EP X pins σ Q x s₂) X.xe) s₁ (And.intro z.1 (And.intro rfl z.2))
end
end L2
namespace Mi
open PySem L2 Ht
noncomputable def QW(n:Nat):List D:=((List.range n).map Int.ofNat).map D.int
noncomputable def JI(how:List D->D)(d:D):M D:=match d with
 | .int j=>λμ=>if 0<=j/\j<=1000 then some (how (QW j.toNat),μ) else none
 |_=>BG
section
variable{X:Cx}{e:Expr}{pos p p2 pos2:Pos}
theorem QE{T:String}{f:List D->D}{how:List V->HO}{m:Sl->M D}(call:X.calm=true->CT X (.type T) (λxs H Q=>∃p n,xs=[.ref p]/\H p=some (.rng 0 (n:Nat))/\n<=1000/\∀l,H l=none->Q (.ref l) (upd H l (how (Kq n)))))
  (fin:∀{ι:Nat->Addr} {μ:Mh} {H:Hp} {Q:VK} {ds:List D} {vs:List V},RelH X.K ι μ H->IsL X.K ι μ.length H ds vs->(Aft X.K ι μ H μ λι' H'=>∀v,Is X.K ι' μ.length H' (f ds) v->Q v H')->∀l,H l=none->Q (.ref l) (upd H l (how vs)))
  (yl:X.mg T=none) (ys:X.mg "range" = none) (bt:bootBuiltins T=some (.type T)) (he:RE X e m) (hc:X.calm=true:=by rfl) (hgl:Gl X T:=by rfl) (hgs:Gl X "range" := by rfl) (hst:EU e=false:=by rfl) (n1:(T:Str) ≠ "__name__" := by decide) (n2:((T:Str)==("__debug__" : Str))=false:=by decide) :
  RE X (.Call (.Name T p) [.Call (.Name "range" p2) [e] [] pos2] [] pos) (mUn (JI f) m):=by
 have hs:PE X (.Call (.Name "range" p2) [e] [] pos2) _:=D7 SJ hgs ys PyProof.Rows.boot_range (EQ he.pe F3 (Ak hst)) (by decide) (by decide) (Ak hst) rfl;refine RE.wk (D7 (call hc) hgl yl bt (EQ hs F3 (Ak rfl)) n1 n2 (Ak rfl) rfl) λσ H Q h=>?_;obtain⟨ι,μ,τ,d,μ',R,S,ev,q⟩:=h;obtain⟨x,μ1,e1,e2⟩:=AI ev;refine⟨ι,μ,τ,x,μ1,R,S,e1,λι1 H1 E1 R1 v1 i1=>?_⟩;cases x with
 |int j=>
  have e3:(if 0<=j/\j<=1000 then some (f (QW j.toNat),μ1) else none)=some (d,μ'):=e2;split at e3
  ·rename_i hj;cases e3;have z:=Bw i1;subst z;have ej:j=((j.toNat:Nat):Int):=by omega
   refine⟨j.toNat,by rw[←ej],λp hp=>?_⟩;obtain⟨E2,R2⟩:=R1.laid (.rng 0 (j.toNat:Nat)) hp;exact⟨p,j.toNat,rfl,BK,by omega,λl hl=>fin R2 (Jg _) (λι' H' E' R'=>q ι' H' ((E1.trans E2).trans E') R') l hl⟩
  ·cases e3
 |_=>cases e2
theorem Ki(yl:X.mg "tuple" = none)(ys:X.mg "range" = none)(he:RE X e m)(hc:X.calm=true:=by rfl)(hgl:Gl X "tuple" := by rfl)(hgs:Gl X "range" := by rfl)(hst:EU e=false:=by rfl):
  RE X (.Call (.Name "tuple" p) [.Call (.Name "range" p2) [e] [] pos2] [] pos) (mUn (JI D.tup) m):=QE (T := "tuple") (how:=HO.tup) N5 NY yl ys Mi.Bj he hc hgl hgs hst
theorem Oc(yl:X.mg "list" = none)(ys:X.mg "range" = none)(he:RE X e m)(hc:X.calm=true:=by rfl)(hgl:Gl X "list" := by rfl)(hgs:Gl X "range" := by rfl)(hst:EU e=false:=by rfl):
  RE X (.Call (.Name "list" p) [.Call (.Name "range" p2) [e] [] pos2] [] pos) (mUn (JI D.lst) m):=QE (T := "list") (how:=HO.lst) MF Qd yl ys Mi.SM he hc hgl hgs hst
end
end Mi
namespace L2
open PySem PySem.Spec PyProof.Rows Sem Ht
theorem Pm:fillsNumberSlot (.type "tuple") "mul" = Pure.pure false:=PySem.fillsNumberSlot_seq (id := "tuple.__mul__") (r:=some (.builtin "tuple.__rmul__")) PySem.F.slot_tuple_mul.lookup (by decide +kernel) PySem.F.slot_tuple_rmul.lookup (by decide +kernel)
theorem TY:seqRepeat? (.type "tuple")=Pure.pure (some (.builtin "tuple.__mul__")):=by
 unfold seqRepeat?;rw[PySem.seqSlot_of (T := "tuple") (name := "__mul__") PySem.F.slot_tuple_mul.lookup (by decide +kernel),PySem.seqSlot_of (T := "tuple") (name := "__rmul__") PySem.F.slot_tuple_rmul.lookup (by decide +kernel)];rfl
section
variable{w:World}{A:Around}{s:Shared}
theorem TZ(a:Int)(t:Tok)(l:Addr)(items:Array Value):Meets (Builtin.«int.__rmul__» ⟨[.int a t,.ref l],[]⟩) (λ_ R s=>IsTup s.heap l items/\R (.ok (.ret Value.notImplemented)) s):=
 .of_wp λprog w A R s h=>by
  obtain⟨⟨o,ho,hc,n,hd⟩,h⟩:=h;have hT:s.TypeIs (.ref l) "tuple" := ⟨o,ho,hc⟩;have z:=PySem.F.sub_tuple_int
  wp_walk
  rw[hd]
  wp_walk
  exact⟨_,rfl,h⟩
theorem ZO(l:Addr)(items:Array Value)(k:Int)(t:Tok)(h0:items.isEmpty=false)(h1:1<=k)(h2:k<=1000)(h3:items.size<=1000):
  Meets (Builtin.«tuple.__mul__» ⟨[.ref l,.int k t],[]⟩) (λ_ R s=>IsTup s.heap l items/\(k=1->R (.ok (.ret (.ref l))) s)/\(k≠1->R (.ok (.ret (.ref s.heap.objs.size))) { s with heap:=s.heap.push { cls:=.type "tuple",data:=.seq ((List.replicate k.toNat items).foldl (·++·) #[]) } })):=
 .of_wp λprog w A R s h=>by
  obtain⟨⟨o,ho,hc,n,hd⟩,q1,q2⟩:=h;have hT:s.TypeIs (.ref l) "tuple" := ⟨o,ho,hc⟩;have b1:(items.size:Int) * k<=1000000:=by
   have:=Int.mul_le_mul (show (items.size:Int)<=1000 by omega) h2 (by omega) (by omega);omega
  have c1:(decide (k < -2 ^ 63)||decide (k ≥ 2 ^ 63))=false:=by simp;omega
  have c3:(decide (k<=0)||items.isEmpty)=false:=by rw[h0];simp;omega
  have c5:Builtin.Tuple.tupleTooMany ((items.size:Int) * k)=false:=by
   unfold Builtin.Tuple.tupleTooMany;simp[sizeLine_eq];omega
  unfold Builtin.«tuple.__mul__»
  wp_walk
  rw[c1,if_neg AAi];refine AAA ?_;unfold Builtin.Tuple.tupleItemsOf;refine AAA (AA0 ho hd (AAB ?_));rw[h0];by_cases hk:k=1
  ·have c2:(false||k==1)=true:=by simp[hk]
   rw[c2];simp only[↓reduceIte]
   wp_walk
   exact⟨_,rfl,q1 hk⟩
  ·have c2:(false||k==1)=false:=by simp[hk]
   rw[c2];simp only[Bool.false_eq_true,↓reduceIte];rw[Bool.or_false,AAO (show ¬k<=0 by omega)];simp only[Bool.false_eq_true,↓reduceIte];rw[if_neg (show ¬(items.size:Int) * k > (2 ^ 63-1) / 8 by omega),c5];simp only[Bool.false_eq_true,↓reduceIte];unfold Builtin.Tuple.tupleExact;refine AAA (AAt (AAB ⟨_,rfl,q2 hk⟩) ?_);show ((List.replicate k.toNat items).foldl (·++·) #[]).size<=sizeLine;have sz:∀(m:Nat) (z:Array Value),((List.replicate m items).foldl (·++·) z).size=z.size+m * items.size:=by
    intro m
    induction m with
    |zero=>intro z;simp
    |succ m ih=>intro z;rw[AAn,List.foldl_cons,ih,Array.size_append,Nat.succ_mul];omega
   rw[sz,sizeLine_eq];have:((k.toNat * items.size:Nat):Int)=(items.size:Int) * k:=by
    rw[Int.natCast_mul,Int.toNat_of_nonneg (by omega),Int.mul_comm]
   simp;omega
end
theorem Jm(its:List Value):∀(m:Nat) (z:List Value),(List.replicate m its.toArray).foldl (·++·) z.toArray=(z++(List.replicate m its).flatten).toArray
 |0,z=>by simp
 |m+1,z=>by
  rw[AAn,List.foldl_cons,List.append_toArray,Jm its m,AAn,List.flatten_cons,AAo]
theorem Vals.reps(r:Vals vs us):∀m:Nat,Vals (List.replicate m vs).flatten (List.replicate m us).flatten
 |0=>.nil
 |m+1=>by
  rw[AAn,List.flatten_cons,AAn,List.flatten_cons];exact r.append (Vals.reps r m)
section
variable{X:Cx}
theorem Xd:OpR X (binaryOp .Mult) (λx y H Q=>∃l k xs,x=.ref l/\y=.int k/\SqT X.K H l xs/\xs≠[]/\xs.length<=1000/\1<=k/\k<=1000/\(k=1->Q (.ref l) H)/\(k≠1->∀p,H p=none->Q (.ref p) (upd H p (.tup (List.replicate k.toNat xs).flatten)))):=by
 intro pins s σ H x y v u Q I rx ry h;obtain⟨l,k,xs,rfl,rfl,ha,hx,hz,k1,k2,q1,q2⟩:=h;cases rx;obtain⟨t,rfl⟩:=ry;obtain⟨its,r,p,_⟩:=I.tuple ha;have hlen:=r.length;have hT:s.TypeIs (.ref l) "tuple" := by obtain⟨o,e,c,_⟩:=p;exact⟨o,e,c⟩
 have he:its.toArray.isEmpty=false:=by
  cases its with
  |nil=>exact absurd (List.length_eq_zero_iff.mp (by simpa using hlen)) hx
  |cons a b=>rfl
 refine wpAny_binaryOp_repeat_ref (T := "tuple") (U := "int") (by decide) hT (λs'=>typeIs_int s' k t) Pm PySem.F.fills_int_mul PySem.F.slot_int_rmul TY PySem.F.slot_int_index.lookup ?_;refine call_meets PySem.F.slot_int_rmul (typeIs_int s k t) PySem.F.entry_int_rmul (PySem.F.args_int_rmul_2 _ _) (TZ k t l its.toArray) ⟨p,rfl,hT,?_⟩;refine call_meets PySem.F.slot_tuple_mul hT PySem.F.entry_tuple_mul (PySem.F.args_tuple_mul_2 _ _) (ZO l its.toArray k t he k1 k2 (by rw[List.size_toArray];omega)) ⟨p,λz=>⟨.ref l,H,I,rfl,q1 z⟩,λz=>?_⟩;have ef:=Jm its k.toNat [];rw[List.nil_append] at ef;rw[ef];refine⟨.ref s.heap.objs.size,_,I.laid (t':=s.toks) (o:=.tup (List.replicate k.toNat xs).flatten) (λb ob q=>AAC _ q) (AAF _) ⟨?_,_,r.reps _,IsTup.new _ _⟩,rfl,q2 z _ (I.hok.fresh (AAF _))⟩;rw[Qc,sizeLine_eq];have:k.toNat * xs.length<=1000 * 1000:=Nat.mul_le_mul (by omega) hz;omega
end
end L2
namespace Mi
open PySem L2 Ht
noncomputable def Of(a b:D):M D:=match a,b with
 | .tup ds,.int k=>λμ=>if ds≠[]/\ds.length<=1000/\1<=k/\k<=1000 then some (.tup (List.replicate k.toNat ds).flatten,μ) else none
 |a,b=>GP a b
section
variable{X:Cx}
theorem aB:OpR X (binaryOp .Mult) (rM X.K Of):=λpins s σ H x y v u Q I rx ry h=>by
 obtain⟨ι,μ,a,b,d,μ',R,ia,ib,e,q⟩:=h;unfold Of at e;split at e
 ·rename_i ds k;split at e
  ·rename_i hc;obtain⟨c1,c2,c3,c4⟩:=hc;cases e;have zb:=Bw ib;subst zb;unfold Is at ia;obtain⟨p,vs,rfl,h1,h2⟩:=ia;have hl:=h2.length;refine Xd pins s σ H _ _ v u Q I rx ry ⟨p,k,vs,rfl,rfl,h1,λz=>c1 (List.length_eq_zero_iff.mp (by rw[←hl,z];rfl)),by omega,c3,c4,λz=>?_,λz=>?_⟩
   ·subst z;refine q ι H R.ext0 R _ ?_;unfold Is;exact⟨p,vs,rfl,h1,by simpa using h2⟩
   ·exact NY R (h2.rep _) q
  ·cases e
 ·exact NM pins s σ H _ _ v u Q I rx ry ⟨ι,μ,a,b,d,μ',R,ia,ib,e,q⟩
end
section
variable{X:Cx}{e:Expr}
noncomputable def Vg(as:List D)(n:Nat):M D:=λμ=>match μ[n]? with
 |some (.lst b)=>BM (as++b) μ
 |_=>none
noncomputable def Lp(a b:D):M D:=match a,b with
 | .lst as,.ref n=>Vg as n
 |a,b=>A5 a b
theorem aD:OpR X (binaryOp .Add) (rM X.K Lp):=λpins s σ H x y v u Q I rx ry h=>by
 obtain⟨ι,μ,a,b,d,μ',R,ia,ib,e,q⟩:=h;unfold Lp at e;split at e
 ·rename_i as n;unfold Vg at e;split at e
  ·rename_i bs hn;obtain⟨w,hu,o⟩:=R.obj n _ hn;obtain⟨vs,rfl,iv⟩:=o;unfold Is at ia ib;obtain⟨hk,rfl⟩:=ib;obtain⟨p',vs',rfl,h1',hn',h2'⟩:=ia;obtain⟨hl,w⟩:=Ca R (h2'.append iv) e q;exact Um pins s σ H _ _ v u Q I rx ry ⟨p',_,vs',vs,rfl,rfl,h1',hu,by rw[←AAH];exact hl,w⟩
  ·cases e
 ·exact BW pins s σ H _ _ v u Q I rx ry ⟨ι,μ,a,b,d,μ',R,ia,ib,e,q⟩
end
end Mi
namespace L2
open PySem PySem.Spec PyProof.Rows
section
variable{X:Cx}{scope:Scope}{tgs:List Str}{ix:List Nat}
def Ml(P:Program)(w:World)(A:Around):Option Expr->Env->(Bool->Shared->Prop)->(Value->Shared->Prop)->Shared->Prop
 |none,_,Q,_,s=>Q true s
 |some c,env,Q,E,s=>wpAny (model P w) A (isTrue c env (eval c env)) Q E s
theorem TX:∀{co:Option Expr},Ml P w A co env Q (λ_ _=>False) s->(∀b s,Q b s->Q' b s)->Ml P w A co env Q' E s
 |none,h,k=>k _ _ h
 |some _,h,k=>HY h k
def ZM(P:Program)(w:World)(A:Around)(tg elt:Expr)(co:Option Expr)(it acc:Value)(env:Env)(R:Result->Shared->Prop)(G:Shared->Prop)(r:Option Value)(s1:Shared):Prop:=match r with
 |none=>R (.ok .next) s1
 |some v=>wpAny (model P w) A (letOwnedTupleGo tg it v) (λ_ s0=>wpAny (model P w) A (assign tg env v) (λ_ s2=>
   Ml P w A co env (λok s3=>if ok=true then wpAny (model P w) A (eval elt env) (λx s4=>wpAny (model P w) A (call (.builtin "list.append") [acc,x]) (λ_ s5=>G s5) (notedBy (model P w) A env λe s'=>R (.error e) s') s4) (notedBy (model P w) A env λe s'=>R (.error e) s') s3 else G s3)
    (notedBy (model P w) A env λe s'=>R (.error e) s') s2) (notedBy (model P w) A env λe s'=>R (.error e) s') s0) (notedBy (model P w) A env λe s'=>R (.error e) s') s1
theorem Ux(I:Nat->Shared->Prop):∀(co:Option Expr),
  (∀n s,I n s->wpAny (model P w) A (pyNext it) (ZM P w A tg elt co it acc env R λs5=>∃m,m<n/\I m s5) (notedBy (model P w) A env λe s'=>R (.error e) s') s)->∀n,I n s->
  codeAny (model P w) A (.compLoop (.ListComp elt [⟨tg,iter,co.toList,0⟩] scope pos) 0 it acc env) R s
 |none,turn,n,h=>PySem.W.kcp_loop I (λn s hI=>AAl (turn n s hI) (λr s1 q=>match r,q with
   |none,q=>q
   |some v,q=>AAl q (λ_ _ q=>AAl q (λ_ _ q=>by
     have q':=q;dsimp only[Ml] at q';rw[if_pos rfl] at q';exact q') λ_ _ x=>x) λ_ _ x=>x) λ_ _ x=>x) n h
 |some c,turn,n,h=>PySem.W.kct_loop I (λn s hI=>AAl (turn n s hI) (λr s1 q=>match r,q with
   |none,q=>q
   |some v,q=>q) λ_ _ x=>x) n h
def PK(X:Cx)(co:Option Expr)(tc:TT):Prop:=
 ∀(pins:List (Addr×Obj)) (s:Shared) (σ:St) (H:Hp) (Q:Bool->Hp->Prop),Inv X pins σ H s->tc σ H Q->Ml X.prog X.w X.A co X.env (TP X pins σ Q) X.xe s
theorem Nl:∀{is:List Nat},(∀i∈is,i<n)->∀vs σ H (Q:St->Hp->Prop),Mi.EV is vs σ H Q->Mi.EV is vs σ H λσ2 H2=>Q σ2 H2/\σ2.length=σ.length/\σ2.drop n=σ.drop n
 |[],_,vs,σ,H,Q,h=>⟨h.1,h.2,rfl,rfl⟩
 |i::is,hi,vs,σ,H,Q,h=>by
  obtain⟨v,vr,rfl,h⟩:=h;refine⟨v,vr,rfl,?_⟩;have z:=Nl (is:=is) (λj hj=>hi j (AAR _ hj)) vr _ H Q h;have e1:(σ.set i (some v)).length=σ.length:=by simp
  have e2:(σ.set i (some v)).drop n=σ.drop n:=by rw[List.drop_set_of_lt (hi i (by simp))]
  rw[e1,e2] at z;exact z
theorem VG{n k:Nat}{K:PySem.W.Frag}(h:∀i∈is,i<n):GK n (aX K k (Mi.EV is)):=λx σ H Q q=>by
 obtain⟨a,xs,e,h1,h2,h3⟩:=q;exact⟨a,xs,e,h1,h2,Nl h _ _ _ _ h3⟩
theorem Hz{elt tg iter:Expr}{co:Option Expr}{pos:Pos}{g:TG}{tc:TT}{te:TE}{pins:List (Addr×Obj)}{fp:List Addr}{tn:Nat->Heap->Prop}{J:It}{Q:VK}
  (S:BScope X scope tgs ix) (hc:X.calm=true) (hg:∀fp C s H,PG (cxB X scope tgs fp C s H) tg g) (hgk:GK tgs.length g) (hi:∀fp C s H,PK (cxB X scope tgs fp C s H) co tc) (he:∀fp C s H,PE (cxB X scope tgs fp C s H) elt te)
  (I2:Inv X pins σ H2 s2) (T:ML X.prog X.w X.K tg J fp it tn) (t0:tn 0 s2.heap) (hf:∀b∈fp,Ew X pins H2 b)
  (W:Nat->Nat->List V->Hp->Prop) (w0:∃m,W 0 m [] H2)
  (turn:∀i m ys H,W i m ys H->(J.stop i H/\ys.length<=sizeLine/\∀p,H p=none->Q (.ref p) (upd H p (.lst ys))) ∨
   (J.go i H/\ys.length<sizeLine/\∃N:List V->Hp->Prop,(∀ys' H',N ys' H'->∃m',m'<m/\W (i+1) m' ys' H')/\∀x H',J.yld i H x H'->g x (CK tgs ix σ) H' λσ2 H2=>tc σ2 H2 λb H3=>
    if b=true then te σ2 H3 λv H4=>N (ys++[v]) H4 else N ys H3))
  {RR:Value->Addr->Result->Shared->Prop}
  (fin:∀(D C:Addr) (s':Shared) (H':Hp) (m:Str->Option Value),Inv X pins σ H' s'->Q (.ref D) H'->s'.heap.Ns C m->Ew X pins H' C->RR (.ref D) C (.ok .next) s') :
  wpAny (model X.prog X.w) X.A (newList []) (λacc s₃=>wpAny (model X.prog X.w) X.A (newFunctionEnv scope X.env.globals (Ds X.env scope.names []) [] X.env.qual none .none (some X.env)) (λcenv s₄=>
   codeAny (model X.prog X.w) X.A (.compStart (.ListComp elt [⟨tg,iter,co.toList,0⟩] scope pos) 0 (.ref it) acc { cenv with scope:=relabel scope X.env }) (RR acc cenv.locals) s₄) X.xe s₃) X.xe s2:=by
 refine AAt (wpAny_newFunctionEnv S.nocell (by intro y hy;simp at hy) (λh₁ hns₁ hsb₁=>?_) S.kind);dsimp only at hns₁ hsb₁ ⊢;generalize hH2:s2.heap.push { cls:=.type "list",dict:=none,data:=.seq ([]:List Value).toArray }=G2 at hns₁ hsb₁ ⊢;have hC:G2.objs.size=s2.heap.objs.size+1:=by rw[←hH2,Heap.size_push]
 have hCle:s2.heap.objs.size<=G2.objs.size:=by rw[hC];exact Nat.le_succ _
 have hDC:s2.heap.objs.size≠G2.objs.size:=by rw[hC];exact AAf (Nat.lt_succ_self _)
 have below:∀b,b<s2.heap.objs.size->b≠G2.objs.size/\b≠s2.heap.objs.size:=λb hb=>⟨by rw[hC];exact AAf (AAj hb),AAf hb⟩;have old:∀b o,s2.heap.get? b=some o->h₁.get? b=some o:=λb o e=>hsb₁.extBut b o (below b (Heap.lt_size e)).1 (AAC _ (hH2 ▸ AAC _ e));have hacc:h₁.get? s2.heap.objs.size=some (Ev [] 0):=hsb₁.extBut _ _ hDC (AAC _ (hH2 ▸ AAD _ rfl));have hfo:∀b∈fp,b<s2.heap.objs.size:=λb hb=>let ⟨o,e,_⟩:=T.obj 0 _ t0 b hb;Heap.lt_size e
 have ok:=O4 (tgs:=tgs) (ix:=ix) (C:=G2.objs.size) S I2 hf hfo hCle;have sub:∀x c,(Ds X.env scope.names []).lookup x=some c->X.env.cells.lookup x=some c:=EE scope.names [] (λ_ _ z=>by simp at z);have nDfs:s2.heap.objs.size∉frs X.stack:=λhz=>by
  rcases AAJ.mp (I2.stkSub _ hz) with z|z
  ·exact absurd I2.lt (by rw[←z];exact AA4 _)
  ·exact I2.nofs (AAF _) z
 have nDcell:∀x c,(Ds X.env scope.names []).lookup x=some c->c≠s2.heap.objs.size:=λx c e=>AAf (I2.cellLt (sub x c e));have ncell:∀(its:List Value) (k:Nat) (v:Option Value),(Ev its k).data≠.cell v:=λits k v z=>by cases z
 have stat:∀{Hx:Hp} {o:Obj},(∀b∈fp,Hx b=none)->∀b∈fp,Ew (cxB X scope tgs fp G2.objs.size s2 H2) [(s2.heap.objs.size,o)] Hx b:=λ{Hx o} hn b hb=>
  ⟨hn b hb,(ok.exf b hb).1,ok.exfs b hb,.inl hb,(ok.exf b hb).2,λp hp z=>by
   have e:p=(s2.heap.objs.size,o):=by simpa[cxB] using hp
   subst e;exact absurd (hfo b hb) (by rw[←z];exact AA4 _)⟩
 have loop:∀s₃:Shared,s₃={ s2 with heap:=h₁,toks:=s2.toks+([]:List (Str×Value)).length }->
   codeAny (model X.prog X.w) X.A (.compLoop (.ListComp elt [⟨tg,iter,co.toList,0⟩] scope pos) 0 (.ref it) (.ref s2.heap.objs.size) (compEnvC scope (Ds X.env scope.names []) G2.objs.size X.env)) (RR (.ref s2.heap.objs.size) G2.objs.size) s₃:=by
  rintro s₃ rfl;obtain⟨m0,w0⟩:=w0;refine Ux (λn s=>∃i ys its k H,Inv (cxB X scope tgs fp G2.objs.size s2 H2) [(s2.heap.objs.size,Ev its k)] (CK tgs ix σ) H s/\tn i s.heap/\(∀b∈fp,H b=none)/\Vals ys its/\W i n ys H) co ?_ m0
   ⟨0,[],[],0,H2,Jh S I2 hf hfo hCle (AAF _) hDC hns₁ old rfl rfl hacc (ncell _ _),T.keep 0 _ _ t0 λb _ o e=>old b o e,λb hb=>(hf b hb).1,.nil,w0⟩
  rintro n s ⟨i,ys,its,k,H,I,st,fr,rv,w⟩;rcases turn i n ys H w with ⟨stop,hz,q⟩|⟨go,hz8,N,hN,step⟩
  ·refine thn (T.done (cxB X scope tgs fp G2.objs.size s2 H2) rfl rfl rfl hc i _ s _ H _ I (stat fr) st stop) λr s1 ⟨hr,I1⟩=>?_;subst hr;obtain⟨pe,pn,_⟩:=I1.pin (s2.heap.objs.size,Ev its k) (AAc _ (by simp));have J0:Inv X pins σ H s1:=I2.call' I1.os I1.base I1.hok I1.bare λb hb=>⟨(hf b hb).2.2.2.1,(hf b hb).2.1,(hf b hb).2.2.2.2.1,(hf b hb).2.2.2.2.2⟩;have J1:Inv X pins σ (upd H s2.heap.objs.size (.lst ys)) s1:=J0.track (I2.fpOk (AAF _) pn) ⟨hz,its,k,rv,pe⟩;obtain⟨m,hn,_⟩:=I1.loc;exact fin _ _ s1 _ m J1 (q _ pn) hn (I2.fpOk hCle (by rw[A9 (Ne.symm hDC)];exact I1.free))
  ·refine thn (T.item (cxB X scope tgs fp G2.objs.size s2 H2) rfl rfl rfl hc i _ s _ H _ I (stat fr) st go) λr s1 ⟨u,hr,h1⟩=>?_;subst hr;refine thn h1 λ_ s5 zz=>?_;obtain⟨x,H5,I5,r5,y5,st5,fr5⟩:=zz;have I5':=I5.pinned (stat fr5) (T.obj _ _ st5);refine HY (hg fp G2.objs.size s2 H2 _ s5 _ H5 x u _ I5' r5 (hgk _ _ _ _ (step x H5 y5))) λ_ s6 zz=>?_;obtain⟨σ6,H6,I6,q6,l6,d6⟩:=zz;refine TX (hi fp G2.objs.size s2 H2 _ s6 σ6 H6 _ I6 q6) λokb s7 ⟨H7,I7,q7⟩=>?_;cases okb with
   |false=>
    rw[if_neg AAi] at q7 ⊢;obtain⟨m',hm,w7⟩:=hN _ _ q7;refine⟨m',hm,i+1,ys,its,k,H7,Pi I7.unpinned l6 d6,T.keep _ _ _ st5 λb hb o e=>(I7.pin (b,o) (AAc _ (AAc _ (Bb hb e)))).1,λb hb=>?_,rv,w7⟩;obtain⟨o,e,_⟩:=T.obj _ _ st5 b hb;exact(I7.pin (b,o) (AAc _ (AAc _ (Bb hb e)))).2.1
   |true=>
    rw[if_pos rfl] at q7 ⊢;refine HY (he fp G2.objs.size s2 H2 _ s7 σ6 H7 _ I7 q7) λxv s8 ⟨v,H8,I8,rv8,q8⟩=>?_;obtain⟨m',hm,w8⟩:=hN _ _ q8;obtain⟨pe,pn,_⟩:=I8.pin (s2.heap.objs.size,Ev its k) (AAc _ (AAd _ (by simp)));have hlen:=rv.length;refine call_meets PySem.F.slot_list_append ⟨_,pe,rfl⟩ PySem.F.entry_list_append (PySem.F.args_list_append_2 _ _) (PySem.list_append s2.heap.objs.size its.toArray k xv (by rw[List.size_toArray];omega)) ⟨pe,?_⟩;have hp:its.toArray.push xv=(its++[xv]).toArray:=by simp
    have q':∃k',(s8.heap.update s2.heap.objs.size (Obj.mapSeq (λa=>a.push xv))).get? s2.heap.objs.size=some (Ev (its++[xv]) k'):=⟨_,by
     unfold Ev;rw[←hp];exact PySem.IsL.update pe (λa=>a.push xv)⟩
    obtain⟨k',q'⟩:=q';have I9:Inv (cxB X scope tgs fp G2.objs.size s2 H2) [] σ6 H8 { s8 with heap:=s8.heap.update s2.heap.objs.size (Obj.mapSeq (λa=>a.push xv)) }:=
     (I8.pins_of (pins':=[]) (λp hp=>absurd hp (by simp))).turned (t':=s8.toks) (λb o hb e=>(Heap.get?_update_other s8.heap (Obj.mapSeq (λa=>a.push xv)) (Ne.symm hb)).trans e) pn hDC (.inr (AAF _)) nDcell (λp hp=>absurd hp (by simp[cxB]))
    have I10:Inv (cxB X scope tgs fp G2.objs.size s2 H2) [(s2.heap.objs.size,Ev (its++[xv]) k')] σ6 H8 { s8 with heap:=s8.heap.update s2.heap.objs.size (Obj.mapSeq (λa=>a.push xv)) }:=
     I9.pins_of λp hp=>by
      have e:p=(s2.heap.objs.size,Ev (its++[xv]) k'):=by simpa using hp
      subst e;exact⟨q',pn,hDC,nDfs,ncell _ _⟩
    refine⟨m',hm,i+1,ys++[v],its++[xv],k',H8,Pi I10 l6 d6,T.keep _ _ _ st5 λb hb o e=>?_,λb hb=>?_,rv.append (.cons rv8 .nil),w8⟩
    ·exact(Heap.get?_update_other s8.heap (Obj.mapSeq (λa=>a.push xv)) (Ne.symm (below b (hfo b hb)).2)).trans (I8.pin (b,o) (AAc _ (AAc _ (Bb hb e)))).1
    ·obtain⟨o,e,_⟩:=T.obj _ _ st5 b hb;exact(I8.pin (b,o) (AAc _ (AAc _ (Bb hb e)))).2.1
 exact codeAny_compStart_list (loop _ rfl) (T.self _ 0 _ _ _ (T.keep 0 _ _ t0 λb _ o e=>old b o e) (loop _ rfl))
theorem Uf{elt tg iter:Expr}(co:Option Expr){pos:Pos}{wi:TI}{tc:TT}{te:TE}(S:BScope X scope tgs ix)(hc:X.calm=true)(hi:PI X tg iter wi)(hg:∀fp C s H,PG (cxB X scope tgs fp C s H) tg g)(hgk:GK tgs.length g)
  (hif:∀fp C s H,PK (cxB X scope tgs fp C s H) co tc) (he:∀fp C s H,PE (cxB X scope tgs fp C s H) elt te) (hs:∀x,foldedSetIterable iter X.env x=pure x:=by intro _;rfl) :
  PE X (.ListComp elt [⟨tg,iter,co.toList,0⟩] scope pos) (Iq tgs ix wi g tc te):=by
 intro pins s σ H Q I h;rw[eval_ListComp];refine wpAny_comprehension_free (use:=none) rfl hs (B5 (S.cells I.ok)) S.kind S.loc ?_;show wpAny _ _ (eval iter X.env) _ _ s;refine thn (hi pins s σ H _ I h) λv s1 h1=>thn h1 λitv s2 h2=>?_;obtain⟨it,fp,tn,J,H2,e,I2,T,t0,f2,W,w0,turn⟩:=h2;subst e;refine Hz (RR:=λacc C=>compPost (model X.prog X.w) X.A X.xe none (EP X pins σ Q) acc C) S hc hg hgk hif he I2 T t0 f2 W w0 turn ?_;intro D C s' H' m J1 q hn fC;obtain⟨f0,f1,f2,f3,f4,f5⟩:=fC;exact⟨m,hn,λh' sb=>⟨.ref D,H',J1.turned (t':=s'.toks) (λb o hb e=>(sb.2 b hb).trans e) f0 f1 f3 f4 f5,rfl,q⟩⟩
end
end L2
namespace Mi
open PySem L2
section
variable{X:Cx}{scope:Scope}{tgs:List Str}{ix:List Nat}{elt iter:Expr}{pos:Pos}
theorem Kl:PK X none (tT K C3):=λpins s σ H Q I h=>by
 obtain⟨ι,μ,τ,b,μ',R,S,e,q⟩:=h;cases e;exact⟨H,I,q ι H R.ext0 R⟩
theorem UM(h:RT X c mc):PK X (some c) (tT X.K mc):=λpins s σ H Q I hq=>h.pe pins s σ H Q I hq
theorem Mn(hn:tgs.length=n)(hg:∀v σ H Q,tG K bf v σ H Q->g v σ H Q)(hf:∀ι μ μ' H ds vs d (Q:VK),RelH K ι μ H->IsL K ι μ.length H ds vs->fin ds μ=some (d,μ')->(Aft K ι μ H μ' λι' H'=>∀v,Is K ι' μ'.length H' d v->Q v H')->
   vs.length<=sizeLine/\∀p,H p=none->Q (.ref p) (upd H p (.lst vs)))
  (h:tE K (Bp n ix src bf mc me fin) σ H Q):Iq tgs ix (tI K src) g (tT K mc) (tE K me) σ H Q:=by
 subst hn;obtain⟨ι,μ,τ,d,μ',R,S,e,q⟩:=h;obtain⟨ds,μ1,e1,e5⟩:=AI e;obtain⟨u,μ2,e2,e6⟩:=AI e5;obtain⟨zs,μ3,e3,e7⟩:=AI e6;obtain⟨hl,e4⟩:=C4 e2;clear e e5 e6;subst e4;refine⟨ι,μ,τ,ds,_,R,S,e1,λι1 H1 E1 R1 J it=>?_⟩;refine⟨λi' m ys H=>m=ds.length-i'/\i'<=ds.length/\ys.length<=i'/\∃(ι:Nat->Addr) (μ:Mh) (as:List D),RelH K ι μ H/\RelS K ι μ.length H τ σ/\ItM K J ds ι μ H/\IsL K ι μ.length H as ys/\CB bf mc me (CU tgs.length ix τ) (ds.drop i') as μ=some (zs,μ3) /\
  Aft K ι μ H μ' λι' H'=>∀v,Is K ι' μ'.length H' d v->Q v H',⟨ds.length,by simp,AAm _,AAF _,ι1,_,[],R1,S.ext E1,it,.nil,e3,λι2 H2 E2 R2=>q ι2 H2 (E1.trans E2) R2⟩,?_⟩
 rintro i' m ys H ⟨hm,hil,hyl,ι,μ,as,R,S,it,ia,e3,q⟩;obtain⟨go,stop,yl⟩:=it ι μ H R.ext0 R;by_cases hlt:i'<ds.length
 ·refine .inr ⟨go i' hlt,by omega,λys' H'=>ys'.length<=i'+1/\∃(ι:Nat->Addr) (μ:Mh) (as:List D),RelH K ι μ H'/\RelS K ι μ.length H' τ σ/\ItM K J ds ι μ H'/\IsL K ι μ.length H' as ys'/\CB bf mc me (CU tgs.length ix τ) (ds.drop (i'+1)) as μ=some (zs,μ3) /\
   Aft K ι μ H' μ' λι' H'=>∀v,Is K ι' μ'.length H' d v->Q v H',λys' H' z=>⟨_,(by omega:ds.length-(i'+1)<m),rfl,hlt,z⟩,λx H2 y=>?_⟩
  have hd:ds[i']?=some ds[i']:=by simp[hlt]
  obtain⟨E2,R2,ix2⟩:=yl i' x H2 _ hd y;rw[List.drop_eq_getElem_cons hlt] at e3;obtain⟨τ1,μ1,e1,e5⟩:=AI e3;clear e3;obtain⟨cc,μ2,e2,e6⟩:=AI e5;clear e5;have S2:=(S.ext E2).block (tgs:=tgs) (ix:=ix);refine hg _ _ _ _ ⟨ι,_,_,_,τ1,μ1,R2,S2,ix2,e1,λι0 H0 E0 R0 σ0 S0=>?_⟩;have E20:=E2.trans E0;refine⟨ι0,_,_,cc,μ2,R0,S0,e2,λι3 H3 E3 R3=>?_⟩;have E13:=E20.trans E3;cases cc with
  |false=>
   exact⟨by omega,ι3,μ2,as,R3,S.ext E13,it.ext E13,ia.ext E13,e6,λι5 H5 E5 R5=>q ι5 H5 (E13.trans E5) R5⟩
  |true=>
   obtain⟨y',μ4,e4,e8⟩:=AI e6;refine⟨ι3,μ2,_,y',μ4,R3,S0.ext E3,e4,λι4 H4 E4 R4 v iv=>?_⟩;have E14:=E13.trans E4;exact⟨by simp;omega,ι4,μ4,as++[y'],R4,S.ext E14,it.ext E14,(ia.ext E14).append (.one iv),e8,λι5 H5 E5 R5=>q ι5 H5 (E14.trans E5) R5⟩
 ·have hi':i'=ds.length:=by omega
  subst hi';rw[List.drop_length] at e3;cases e3;obtain⟨z1,z2⟩:=hf ι _ μ' H _ ys d Q R ia e7 q;exact .inl ⟨stop,z1,z2⟩
theorem Td(h:tG K (Eg is) v σ H Q):aX K is.length (EV is) v σ H Q:=by
 obtain⟨ι,μ,τ,d,τ',μ',R,S,i1,e,q⟩:=h;cases d with
 |tup ds=>
  unfold Is at i1;obtain⟨p,vs,rfl,h1,h2⟩:=i1;have e':(if ds.length=is.length then J3 is ds τ else BG) μ=some (τ',μ'):=e;by_cases hl:ds.length=is.length
  ·rw[if_pos hl] at e';refine⟨p,vs,rfl,h1,by rw[h2.length,hl],HR R S h2 e' λz σ' S'=>?_⟩;subst z;exact q ι H R.ext0 R σ' S'
  ·rw[if_neg hl] at e';cases e'
 |_=>cases e
theorem NB(co:Option Expr)(S:BScope X scope tgs ix)(hc:X.calm=true)(hi:RI X (.Tuple es kk tp) iter src)(hg:∀fp C s H,PGs (cxB X scope tgs fp C s H) es (EV is))(hif:∀fp C s H,PK (cxB X scope tgs fp C s H) co (tT X.K mc))(he:∀fp C s H,RE (cxB X scope tgs fp C s H) elt me)
  (hlen:∀fp C s H,(assignEach es (cxB X scope tgs fp C s H).env).length=is.length:=by intro _ _ _ _;rfl) (hst:∀fp C s H,(assignEach es (cxB X scope tgs fp C s H).env).findIdx? (·.1)=none:=by intro _ _ _ _;rfl)
  (hin:∀i∈is,i<tgs.length:=by decide) (hn:tgs.length=n:=by rfl) (hs:∀x,foldedSetIterable iter X.env x=pure x:=by intro _;rfl):RE X (.ListComp elt [⟨.Tuple es kk tp,iter,co.toList,0⟩] scope pos) (Bp n ix src (Eg is) mc me BM):=
 RE.wk (Uf co (te:=tE X.K me) S hc hi.pe (λfp C s H=>Oi (X:=cxB X scope tgs fp C s H) hc (hg fp C s H) (hlen fp C s H) (hst fp C s H)) (VG hin) hif (λfp C s H=>(he fp C s H).pe) hs) λ_ _ _ h=>Mn hn (λ_ _ _ _ h=>Td h) (λ_ _ _ _ _ _ _ _ R i e q=>Ca R i e q) h
end
end Mi
namespace L2
open PySem PySem.Spec PyProof.Rows
end L2
namespace Mi
open PySem L2 Ht
section
variable{X:Cx}{e tg iter:Expr}{body:List Stmt}{pos:Pos}
def tPk(K:PySem.W.Frag)(ks:List Key)(m:Sl->M (List D))(σ:St)(H:Hp)(Q:List (V×V)->Hp->Prop):Prop:=∃ι μ τ ds μ',RelH K ι μ H/\RelS K ι μ.length H τ σ/\m τ μ=some (ds,μ') /\
 Aft K ι μ H μ' λι' H'=>∀vs,IsL K ι' μ'.length H' ds vs->Q ((ks.map kV).zip vs) H'
structure RP(X:Cx)(pos:Pos)(keys:List (Option Expr))(values:List Expr)(ks:List Key)(m:Sl->M (List D)):Prop where
 pe:∃trs,PPs X pos keys values trs/\∀σ H Q,tPk X.K ks m σ H Q->Ld trs σ H Q
theorem ZX:RP X pos [] [] [] AN:=⟨[],XN,λσ H Q h=>by
 obtain⟨ι,μ,τ,ds,μ',R,S,e,q⟩:=h;cases e;exact q ι H R.ext0 R [] .nil⟩
theorem QA(h:RE X v mv)(r:RP X pos keys values ks m):RP X pos (some (.Constant (.str k) n p)::keys) (v::values) (.inr k::ks) (AD mv m):=by
 obtain⟨trs,pp,hh⟩:=r.pe;refine⟨(tC (.str k),tE X.K mv)::trs,UR UZ h.pe pp,λσ H Q h=>?_⟩;obtain⟨ι,μ,τ,ds,μ',R,S,e,q⟩:=h;obtain⟨x,μ1,e1,e2⟩:=AI e;obtain⟨xs,μ2,e3,e4⟩:=AI e2;cases e4;refine⟨ι,μ,τ,x,μ1,R,S,e1,λι1 H1 E1 R1 v1 i1=>hh _ _ _ ⟨ι1,μ1,τ,xs,_,R1,S.ext E1,e3,λι2 H2 E2 R2 vs i2=>?_⟩⟩;exact q ι2 H2 (E1.trans E2) R2 (v1::vs) (.cons (i1.ext E2) i2)
noncomputable def Jc(ks:List Key)(m:Sl->M (List D)):Sl->M D:=λτ μ=>match m τ (μ++[.dK []]) with
 |some (ds,μ1)=>match μ1[μ.length]? with
  |some (.dK [])=>if ds.length=ks.length then some (.ref μ.length,μ1.set μ.length (.dK (ks.zip ds))) else none
  |_=>none
 |none=>none
theorem Qf:∀{ks:List Key} {ds:List D} {vs:List V},IsL K ι k H ds vs->ds.length=ks.length->KVs K ι k H (ks.zip ds) (ks.zip vs)
 |[],[],_,i,_=>by unfold IsL at i;subst i;rfl
 |[],_::_,_,_,h=>by simp at h
 |_::_,[],_,_,h=>by simp at h
 |_::ks,_::ds,_,i,h=>by
  unfold IsL at i;obtain⟨v,vs',rfl,i1,i2⟩:=i;exact⟨v,_,rfl,i1,Qf i2 (by simpa using h)⟩
theorem XD{kvs:List (Key×V)}(h:∀p∈kvs,p.1≠k):Da kvs k v=kvs++[(k,v)]:=by
 unfold Da;rw[if_neg];intro z;obtain⟨p,hp,e⟩:=List.any_eq_true.mp z;exact h p hp (of_decide_eq_true e)
theorem NT:∀{more kvs:List (Key×V)},((kvs++more).map (·.1)).Nodup->DT kvs more=kvs++more
 |[],kvs,_=>by simp[DT]
 |(k,v)::r,kvs,h=>by
  have hp:∀p∈kvs,p.1≠k:=λp hp z=>by
   rw[AAY,List.nodup_append] at h;exact h.2.2 p.1 (AAM.mpr ⟨p,hp,rfl⟩) k (by simp) z
  show DT (Da kvs k v) r=_;rw[XD hp,NT (by simpa using h)];simp
theorem IY:∀{ks:List Key} {vs:List V},(ks.map kV).zip vs=(ks.zip vs).map λkv=>(kV kv.1,kv.2)
 |[],_=>rfl
 |_::_,[]=>rfl
 |k::ks,v::vs=>by simp[IY (ks:=ks) (vs:=vs)]
theorem UG(h:RP X pos keys values ks m)(nd:ks.Nodup:=by decide +kernel)(hall:keys.all (·.isSome)=true:=by rfl)(hl:keys.length=values.length:=by rfl)(h0:keys≠[]:=by simp)(h15:keys.length<=15:=by simp)(hks:ks.length<=15:=by simp):RE X (.Dict keys values pos) (Jc ks m):=by
 obtain⟨trs,pp,hh⟩:=h.pe;refine RE.wk (XY pp hall hl h0 h15) λσ H Q h=>?_;obtain⟨ι,μ,τ,d,μ',R,S,e,q⟩:=h;intro p hp;obtain⟨ι0,E0,R0,e0⟩:=R.grown (m:=.dK []) (o:=.dK []) hp ⟨[],rfl,rfl⟩;unfold Jc at e;split at e
 ·rename_i ds μ1 em;split at e
  ·rename_i en;split at e
   ·rename_i hlen;cases e;refine hh _ _ _ ⟨ι0,μ++[.dK []],τ,ds,μ1,R0,S.ext E0,em,λι1 H1 E1 R1 vs iv=>?_⟩;have hn:μ.length<μ1.length:=(AAU.mp en).1;obtain⟨u,hu,r,rfl,hr⟩:=R1.obj μ.length _ en;have hr':r=[]:=hr;subst hr';have ei:ι1 μ.length=p:=by rw[E1.agree μ.length (by simp),e0]
    rw[ei] at hu;have hvl:=iv.length;have hnd:((ks.zip vs).map (·.1)).Nodup:=by
     rw[List.map_fst_zip (by omega)];exact nd
    refine⟨hu,ks.zip vs,IY,by rw[List.length_zip];omega,?_⟩;rw[NT (kvs:=[]) (by simpa using hnd),List.nil_append];obtain⟨E2,R2⟩:=R1.changed (n:=μ.length) (o:=.dK (ks.zip vs)) (m:=.dK (ks.zip ds)) hn ⟨_,rfl,Qf iv hlen⟩;rw[ei] at E2 R2;have E01:Ext ι μ.length H ι1 (μ1.set μ.length (.dK (ks.zip ds))).length (upd H1 p (.dK (ks.zip vs))):=(E0.trans E1).trans E2;refine q ι1 _ E01 R2 _ ?_;unfold Is;exact⟨by simpa using hn,by rw[ei]⟩
   ·cases e
  ·cases e
 ·cases e
noncomputable def IG(n:Nat)(bf:D->Sl->M Sl)(mb:Sl->M (Fl×Sl)):Nat->Nat->Sl->M (Fl×Sl)
 |0,_,_=>BG
 |f+1,i,τ=>λμ=>match μ[n]? with
  |some (.lst ds)=>match ds[i]? with
   |some x=>(bnd (bf x τ) λτ1=>bnd (mb τ1) λr=>match r.1 with
    | .next=>IG n bf mb f (i+1) r.2
    | .cont=>IG n bf mb f (i+1) r.2
    | .brk=>ret (.next,r.2)
    | .rt d=>ret (.rt d,r.2)) μ
   |none=>some ((.next,τ),μ)
  |_=>none
noncomputable def Tu(Bf:Nat)(m:Sl->M D)(bf:D->Sl->M Sl)(mb:Sl->M (Fl×Sl)):Sl->M (Fl×Sl):=λτ=>bnd (m τ) λx=>match x with
 | .ref n=>IG n bf mb Bf 0 τ
 |_=>BG
theorem Ww(Bf:Nat)(hp:PassesOwn (model X.prog X.w) X.A X.env X.xe)(hc:X.calm=true)(hi:RE X iter m)(hg:RG X tg bf)(hb:RSs X body mb)
  (hs:∀x,foldedSetIterable iter X.env x=pure x:=by intro _;rfl):RS X (.For tg iter body [] pos) (Tu Bf m bf mb):=RS.wk (UQ hp hc (Ls hi.pe) hg.pe hb.pe hs) λDn σ H h=>by
 obtain⟨ι,μ,τ,f,τ',μ',R,S,e,q⟩:=h;obtain⟨x,μ1,e1,e2⟩:=AI e;refine⟨ι,μ,τ,x,μ1,R,S,e1,λι1 H1 E1 R1 v i1=>?_⟩;cases x with
 |ref n=>
  unfold Is at i1;obtain⟨hk,rfl⟩:=i1;have hn0:∃ds,μ1[n]?=some (.lst ds):=by
   cases Bf with
   |zero=>cases e2
   |succ f=>
    have e3:IG n bf mb (f+1) 0 τ μ1=some ((_,τ'),μ'):=e2;unfold IG at e3;split at e3
    ·rename_i ds hd;exact⟨ds,hd⟩
    ·cases e3
  obtain⟨ds0,hn0⟩:=hn0;obtain⟨u,hu,o⟩:=R1.obj n _ hn0;obtain⟨vs0,rfl,iv0⟩:=o;refine⟨_,rfl,⟨vs0,SqL.of hu⟩,?_⟩
  let W:Nat->Nat->St->Hp->Prop:=λi m σ H=>∃ι μ τ f τ' μ',RelH X.K ι μ H/\RelS X.K ι μ.length H τ σ/\n<μ.length/\ι n=ι1 n/\IG n bf mb m i τ μ=some ((f,τ'),μ') /\
   Aft X.K ι μ H μ' λι' H'=>∀σ',RelS X.K ι' μ'.length H' τ' σ'->FlP X.K Dn ι' μ'.length H' τ' σ' f
  refine⟨W,⟨Bf,ι1,μ1,τ,f,τ',μ',R1,S.ext E1,hk,rfl,e2,λι2 H2 E2 R2=>q ι2 H2 (E1.trans E2) R2⟩,?_⟩;rintro i m σ H ⟨ι,μ,τ,f,τ',μ',R,S,hn,en,e,q⟩;cases m with
  |zero=>cases e
  |succ m=>
   unfold IG at e;split at e
   ·rename_i ds hd;obtain⟨u,hu,o⟩:=R.obj n _ hd;obtain⟨vs,rfl,iv⟩:=o;rw[en] at hu;have hl:=iv.length;split at e
    ·rename_i x hx;obtain⟨xv,hxv,ixv⟩:=iv.get hx;refine .inr ⟨⟨vs,xv,SqL.of hu,hxv⟩,λσ' H'=>W (i+1) m σ' H',λσ' H' z=>⟨_,Nat.lt_succ_self _,z⟩,λy H2 yl=>?_⟩;obtain⟨z,yl⟩:=yl;subst z;have:=yl vs (SqL.of hu);rw[hxv] at this;cases this;obtain⟨τ1,μ2,e1,ea⟩:=AI e;obtain⟨⟨f2,τ2⟩,μ3,e2,eb⟩:=AI ea;refine⟨ι,μ,τ,_,τ1,μ2,R,S,ixv,e1,λι3 H3 E3 R3 σ3 S3=>?_⟩;refine⟨ι3,μ2,τ1,f2,τ2,μ3,R3,S3,e2,λι4 H4 E4 R4 σ4 S4=>?_⟩;have E14:=E3.trans E4;have hn4:n<μ3.length:=AAN hn E14.le;have en4:ι4 n=ι1 n:=(E14.agree n hn).trans en;cases f2 with
     |next=>exact⟨ι4,μ3,τ2,f,τ',μ',R4,S4,hn4,en4,eb,λι5 H5 E5 R5=>q ι5 H5 (E14.trans E5) R5⟩
     |cont=>exact⟨ι4,μ3,τ2,f,τ',μ',R4,S4,hn4,en4,eb,λι5 H5 E5 R5=>q ι5 H5 (E14.trans E5) R5⟩
     |brk=>cases eb;exact q ι4 H4 E14 R4 σ4 S4
     |rt d=>cases eb;exact q ι4 H4 E14 R4 σ4 S4
    ·rename_i hx;cases e;have hle:ds.length<=i:=by simpa using hx
     exact .inl ⟨⟨vs,SqL.of hu,by omega⟩,q ι H R.ext0 R σ S⟩
   ·cases e
 |_=>cases e2
end
end Mi
namespace Sq
open PySem PySem.W PyProof.Rows
end Sq
namespace Nk
open PySem PySem.Spec PyProof.Rows HT
end Nk
namespace Hs
open PySem PySem.SetTable
end Hs
namespace Hs
open PySem PySem.SetTable Ht
end Hs
set_option maxHeartbeats 4000000
namespace Hs
open PySem PySem.Spec PyProof.Rows Nk
end Hs
set_option maxHeartbeats 4000000
namespace Hs
open PySem PySem.Spec PyProof.Rows Nk PySem.SetTable Ht
end Hs
set_option maxHeartbeats 4000000
namespace Hs
open PySem PySem.Spec PyProof.Rows Nk PySem.SetTable Ht
end Hs
set_option maxHeartbeats 4000000
namespace Hs
open PySem PySem.Spec PyProof.Rows Nk PySem.SetTable Ht
end Hs
set_option maxHeartbeats 4000000
namespace Hs
open PySem PySem.Spec PyProof.Rows Nk PySem.SetTable Ht
end Hs
set_option maxHeartbeats 4000000
namespace Hs
open PySem PySem.Spec PyProof.Rows Nk PySem.SetTable Ht
end Hs
set_option maxHeartbeats 4000000
namespace Hs
open PySem PySem.Spec PyProof.Rows Sem L2 Nk PySem.SetTable Ht
section
variable{α:Type}[DecidableEq α]
end
end Hs
namespace Hs
open PySem PySem.Spec PyProof.Rows Sem L2 Nk Ht
end Hs
set_option maxHeartbeats 4000000
namespace Nk
open PySem PySem.Spec PyProof.Rows Ht
end Nk
namespace Nk
open PySem PySem.Spec PyProof.Rows L2 Mi
end Nk
namespace Mi
open PySem L2 Ht Nk
end Mi
namespace Hs
open PySem PySem.Spec PyProof.Rows Sem L2 Nk Ht
end Hs
namespace Nk
open PySem PySem.Spec PyProof.Rows PySem.SeqAt
end Nk
set_option maxHeartbeats 4000000
namespace Hs
open PySem PySem.Spec PyProof.Rows PySem.SeqAt Nk Ht
end Hs
set_option maxHeartbeats 4000000
namespace Hs
open PySem PySem.Spec PyProof.Rows Nk PySem.SetTable Ht L2
end Hs
set_option maxHeartbeats 4000000
namespace Hs
open PySem PySem.Spec PyProof.Rows Nk PySem.SetTable Ht L2
end Hs
set_option maxHeartbeats 4000000
namespace Hs
open PySem PySem.Spec PyProof.Rows Nk PySem.SetTable Ht L2
end Hs
namespace Mi
open PySem L2 Ht Nk
section
variable{X:Cx}{e:Expr}
noncomputable def Lq:D->List D->M D
 | .ref n,[]=>Gy n λds=>(ds[ds.length-1]?).map λd=>(d,ds.dropLast)
 |_,_=>BG
theorem IsL.dropLast(h:IsL K ι k H ds vs):IsL K ι k H ds.dropLast vs.dropLast:=by
 rw[List.dropLast_eq_take,List.dropLast_eq_take,h.length];exact h.take _
theorem Uv:MtR X "list.pop" (rMM X.K Lq):=λpins s σ H x xs v us Q I rx rs h=>by
 obtain⟨ι,μ,a,as,d,μ',R,ia,ib,e,q⟩:=h;unfold Lq at e;split at e
 ·rename_i n;obtain⟨ds,es,h1,h2,rfl⟩:=Gx e;cases hd:ds[ds.length-1]? with
  |none=>rw[hd] at h2;cases h2
  |some d0=>
   rw[hd] at h2;cases h2;unfold IsL at ib;subst ib;unfold Is at ia;obtain⟨_,rfl⟩:=ia;obtain⟨u,g1,vs,rfl,g2⟩:=R.obj n _ h1;obtain⟨w,ew,iw⟩:=g2.get hd;refine aG pins s σ H _ _ v us Q I rx rs ⟨_,vs,w,rfl,rfl,g1,by rw[g2.length];exact ew,?_⟩;exact LZ R h1 g2.dropLast iw q
 ·cases e
end
end Mi
namespace Mi
open PySem L2 Ht Nk PySem.SeqAt
section
variable{X:Cx}{e st:Expr}{pos p2:Pos}
noncomputable def UB(d k:D):M D:=match k with
 | .int i=>if i=-1 then bnd (Bo d) λds=>GS ds.reverse else BG
 |_=>BG
theorem Ze(he:RE X e m)(hst:RE X st ms):RE X (.Subscript e (.Slice none none (some st) p2) pos) (mOp UB m ms):=RE.wk (Zu he.pe hst.pe) λσ H Q h=>by
 obtain⟨ι,μ,τ,d,μ',R,S,ev,q⟩:=h;obtain⟨x,μ1,e1,e2⟩:=AI ev;obtain⟨y,μ2,e3,e4⟩:=AI e2;refine⟨ι,μ,τ,x,μ1,R,S,e1,λι1 H1 E1 R1 v1 i1=>⟨ι1,μ1,τ,y,μ2,R1,S.ext E1,e3,λι2 H2 E2 R2 v2 i2=>?_⟩⟩;unfold UB at e4;split at e4
 ·rename_i i;split at e4
  ·rename_i hi;subst hi;obtain⟨ds,μ3,e5,e6⟩:=AI e4;obtain⟨hm,a,vs,rfl,h1,h2⟩:=B6 R2 (i1.ext E2) e5;subst hm;unfold Is at i2;subst i2;exact⟨rfl,a,vs,rfl,h1,(QV R2 h2.reverse e6 λι3 H3 E3 R3 v3 i3=>q ι3 H3 ((E1.trans E2).trans E3) R3 v3 i3).2⟩
  ·cases e4
 ·cases e4
end
end Mi
set_option maxHeartbeats 2000000
namespace Mi
open PySem PySem.Spec PyProof.Rows L2 Ht Nk Hs
end Mi
set_option maxHeartbeats 2000000
namespace Mi
open PySem PySem.Spec PyProof.Rows L2 Ht Nk Hs
end Mi
namespace L2
open PySem PySem.Spec PyProof.Rows
section
variable{X:Cx}{scope:Scope}{tgs:List Str}{ix:List Nat}
theorem NG(co:Option Expr)(hN:X.N.Nodup)(hiN:X.N[i]?=some y)(hy:X.env.scope.names.lookup y=some .local)
  (S:BScope X scope tgs ix) (hc:X.calm=true) (hi:PI X tg iter wi) (hg:∀fp C s H,PG (cxB X scope tgs fp C s H) tg g) (hgk:GK tgs.length g)
  (hif:∀fp C s H,PK (cxB X scope tgs fp C s H) co tc) (he:∀fp C s H,PE (cxB X scope tgs fp C s H) elt te)
  (hsw:swapsWith (.ListComp elt [⟨tg,iter,co.toList,0⟩] scope pos) (some (.Name y py)) spos.line X.env=pure true:=by rfl) (hs:∀x,foldedSetIterable iter X.env x=pure x:=by intro _;rfl) :
  PS X (.Assign [.Name y py] (.ListComp elt [⟨tg,iter,co.toList,0⟩] scope pos) spos) (Ti (Iq tgs ix wi g tc te) (Dh i)):=by
 intro pins s σ H D0 I h;rw[exec_Assign_Name_used _ _ _ _ hsw];refine AAA (wpAny_standAt (AAA ?_));show wpAny _ X.A (do let _ ←comprehension (.ListComp elt [⟨tg,iter,co.toList,0⟩] scope pos) scope X.env _ (newList []) false (eval iter X.env) (some (assign (.Name y py) X.env))) _ _ s;refine AAA (AAl (wpAny_comprehension_free (use:=some (assign (.Name y py) X.env)) (Q:=λ_ s'=>SP X pins D0 .next s') rfl hs (B5 (S.cells I.ok)) S.kind S.loc ?_) (λ_ s' hq=>AAB (AAB hq)) λ_ _ e=>e);refine thn (hi pins s σ H _ I h) λv s1 h1=>thn h1 λitv s2 h2=>?_;obtain⟨it,fp,tn,J,H2,e,I2,T,t0,f2,W,w0,turn⟩:=h2;subst e;refine Hz (Q:=λx H1=>Dh i x σ H1 D0.nx) (RR:=λacc C=>compPost (model X.prog X.w) X.A X.xe (some (assign (.Name y py) X.env)) (λ_ s'=>SP X pins D0 .next s') acc C) S hc hg hgk hif he I2 T t0 f2 W w0 turn ?_;intro D C s' H' m J1 q hn fC;obtain⟨f0,f1,f2,f3,f4,f5⟩:=fC;show wpAny _ X.A (assign (.Name y py) X.env (.ref D)) _ _ _;refine wpAny_assign_Name (G1 (v:=.ref D) J1 hN hiN (.inl hy) rfl (λs'' I'' hsb=>?_) (.inr hy));obtain⟨a,sb,ha⟩:=hsb;have hCa:C≠a:=by
  rcases ha with z|z
  ·rw[z];exact f1
  ·exact Ne.symm (f4 y a z)
 exact⟨m,hn.sameBut sb hCa,λh' sb'=>⟨_,H',I''.turned (t':=s''.toks) (λb o hb e=>(sb'.2 b hb).trans e) f0 f1 f3 f4 f5,q⟩⟩
end
end L2
namespace Mi
open PySem L2
section
variable{X:Cx}{scope:Scope}{tgs:List Str}{ix:List Nat}{elt iter:Expr}{pos:Pos}
theorem M5(co:Option Expr)(k:Nat)(hN:X.N.Nodup)(S:BScope X scope tgs ix)(hc:X.calm=true)(hi:RI X (.Tuple es kk tp) iter src)(hg:∀fp C s H,PGs (cxB X scope tgs fp C s H) es (EV is))(hif:∀fp C s H,PK (cxB X scope tgs fp C s H) co (tT X.K mc))(he:∀fp C s H,RE (cxB X scope tgs fp C s H) elt me)
  (hfin:∀ι μ μ' H ds vs d (Q:VK),RelH X.K ι μ H->IsL X.K ι μ.length H ds vs->fin ds μ=some (d,μ')->(Aft X.K ι μ H μ' λι' H'=>∀v,Is X.K ι' μ'.length H' d v->Q v H')->vs.length<=sizeLine/\∀p,H p=none->Q (.ref p) (upd H p (.lst vs)))
  (hlen:∀fp C s H,(assignEach es (cxB X scope tgs fp C s H).env).length=is.length:=by intro _ _ _ _;rfl) (hst:∀fp C s H,(assignEach es (cxB X scope tgs fp C s H).env).findIdx? (·.1)=none:=by intro _ _ _ _;rfl)
  (hiN:X.N[k]?=some y:=by rfl) (hy:X.env.scope.names.lookup y=some .local:=by rfl) (hin:∀i∈is,i<tgs.length:=by decide) (hn:tgs.length=n:=by rfl)
  (hsw:swapsWith (.ListComp elt [⟨.Tuple es kk tp,iter,co.toList,0⟩] scope pos) (some (.Name y py)) spos.line X.env=pure true:=by rfl) (hs:∀x,foldedSetIterable iter X.env x=pure x:=by intro _;rfl) :
  RS X (.Assign [.Name y py] (.ListComp elt [⟨.Tuple es kk tp,iter,co.toList,0⟩] scope pos) spos) (Ai (Bp n ix src (Eg is) mc me fin) (AR k)):=
 RS.wk (NG co (te:=tE X.K me) hN hiN hy S hc hi.pe (λfp C s H=>Oi (X:=cxB X scope tgs fp C s H) hc (hg fp C s H) (hlen fp C s H) (hst fp C s H)) (VG hin) hif (λfp C s H=>(he fp C s H).pe) hsw hs) λDn σ H h=>by
  obtain⟨ι,μ,τ,f,τ',μ',R,S,e,q⟩:=h;obtain⟨x,μ1,e1,e⟩:=AI e;obtain⟨τ1,μ2,e2,e⟩:=AI e;cases e2;cases e;refine Mn hn (λ_ _ _ _ h=>Td h) hfin ⟨ι,μ,τ,x,_,R,S,e1,λι1 H1 E1 R1 v i1=>?_⟩;exact q ι1 H1 E1 R1 _ ((S.ext E1).set k i1)
end
section
variable{K:PySem.W.Frag}{ι:Nat->Addr}{k:Nat}{H:Hp}
theorem ClsAt.eq(a:ClsAt K c C)(b:ClsAt K c C'):C=C':=by
 unfold ClsAt at a b;rw[a] at b;cases b;rfl
theorem FVs.lookup:∀{l:List (Str×D)} {r:List (Str×V)} {d:D},FVs K ι k H l r->l.lookup f=some d->∃v,r.lookup f=some v/\Is K ι k H d v
 |[],_,_,_,e=>by cases e
 |(y,d0)::l,_,d,h,e=>by
  obtain⟨v,r',rfl,h1,h2⟩:=h;rw[List.lookup_cons] at e ⊢;cases q:f==y with
  |true=>rw[q] at e;cases e;exact⟨v,rfl,h1⟩
  |false=>rw[q] at e;exact FVs.lookup h2 e
theorem FVs.none:∀{l:List (Str×D)} {r:List (Str×V)},FVs K ι k H l r->l.lookup f=none->r.lookup f=none
 |[],_,h,_=>by cases h;rfl
 |(y,d0)::l,_,h,e=>by
  obtain⟨v,r',rfl,h1,h2⟩:=h;rw[List.lookup_cons] at e ⊢;cases q:f==y with
  |true=>rw[q] at e;cases e
  |false=>rw[q] at e;exact FVs.none h2 e
theorem FVs.len:∀{l:List (Str×D)} {r:List (Str×V)},FVs K ι k H l r->r.length=l.length
 |[],_,h=>by cases h;rfl
 |(y,d0)::l,_,h=>by
  obtain⟨v,r',rfl,h1,h2⟩:=h;simp[FVs.len h2]
noncomputable def C2(f:Str)(d:D):List (Str×D)->List (Str×D)
 |[]=>[(f,d)]
 |(y,x)::l=>if y=f then (y,d)::l else (y,x)::C2 f d l
theorem FVs.put(i:Is K ι k H d v):∀{l:List (Str×D)} {r:List (Str×V)},FVs K ι k H l r->FVs K ι k H (C2 f d l) (EO f v r)
 |[],_,h=>by cases h;exact⟨v,[],rfl,i,rfl⟩
 |(y,d0)::l,_,h=>by
  obtain⟨w,r',rfl,h1,h2⟩:=h;unfold C2 EO;by_cases e:y=f
  ·rw[if_pos e,if_pos e];exact⟨v,r',rfl,i,h2⟩
  ·rw[if_neg e,if_neg e];exact⟨w,_,rfl,h1,FVs.put i h2⟩
end
noncomputable def H9(c:Str):D->M (Nat×List (Str×D))
 | .ref n=>λμ=>match μ[n]? with
  |some (.ins c' l)=>if c'=c then some ((n,l),μ) else none
  |_=>none
 |_=>BG
theorem GB(R:RelH K ι μ H)(i:Is K ι μ.length H d v)(e:H9 c d μ=some (r,μ')):
  μ'=μ/\d=.ref r.1/\μ[r.1]?=some (.ins c r.2)/\v=.ref (ι r.1)/\∃C dx fs,H (ι r.1)=some (.ins C dx fs)/\ClsAt K c C/\H dx=some (.own (ι r.1))/\FVs K ι μ.length H r.2 fs:=by
 cases d with
 |ref n=>
  have e1:(match μ[n]? with|some (.ins c' l)=>if c'=c then some ((n,l),μ) else none|_=>none)=some (r,μ'):=e;clear e;split at e1
  ·rename_i c' l hq;split at e1
   ·rename_i hc;cases e1;rw[hc] at hq;unfold Is at i;obtain⟨u,h1,C,dx,fs,rfl,h2,h3,h4⟩:=R.obj n _ hq;exact⟨rfl,rfl,hq,i.2,C,dx,fs,h1,h2,h3,h4⟩
   ·cases e1
  ·cases e1
 |_=>cases e
structure CA(K:PySem.W.Frag)(c:Str)(C:Addr):Prop where
 at_:ClsAt K c C
 cl:Cls K C
noncomputable def By(c f:Str)(d:D):M D:=bnd (H9 c d) λr=>λμ=>(r.2.lookup f).map λx=>(x,μ)
noncomputable def Fi(c f:Str)(mo mv:Sl->M D):Sl->M (Fl×Sl):=λτ=>bnd (mv τ) λy=>bnd (mo τ) λx=>bnd (H9 c x) λr=>λμ=>if r.2.length<1000 then some ((.next,τ),μ.set r.1 (.ins c (C2 f y r.2))) else none
noncomputable def Hl(c:Str)(φ:List D->M D):List D->M D:=λds μ=>match φ (.ref μ.length::ds) (μ++[.ins c []]) with
 |some (.non,μ')=>some (.ref μ.length,μ')
 |_=>none
noncomputable def CN(c m:Str)(φ:List D->M D)(mo:Sl->M D)(ma:Sl->M (List D)):Sl->M D:=λτ=>bnd (mo τ) λx=>bnd (H9 c x) λr=>if r.2.lookup m=none then bnd (ma τ) λds=>φ (x::ds) else BG
structure Ini(P:Program)(w:World)(K:PySem.W.Frag)(mg:Str->Option Value)(base:Heap)(c:Str)(ps:List Str)(k:Nat)(φ:List D->M D):Prop where
 len:∀ds μ r,φ ds μ=some r->ds.length=ps.length
 ex:∃C f fd,ClsAt K c C/\mg c=some (.ref C)/\Mk K C f/\FnOk P w K mg base CX0 k f fd ps (spM K ps.length φ)/\Binds K fd ps []
structure Mth(P:Program)(w:World)(K:PySem.W.Frag)(mg:Str->Option Value)(base:Heap)(c m:Str)(ps:List Str)(k:Nat)(φ:List D->M D):Prop where
 len:∀ds μ r,φ ds μ=some r->ds.length=ps.length
 ex:∃C f fd,CA K c C/\YT K C m f/\FnOk P w K mg base CX0 k f fd ps (spM K ps.length φ)/\Binds K fd ps []
section
variable{X:Cx}{e o value:Expr}{es:List Expr}{pos p pos' apos:Pos}{c f:Str}{C:Addr}
theorem BD(ca:CA X.K c C)(na:NoAttr X.K C f)(he:RE X e m)(hb:attributeBase e f X.env (eval e X.env)=eval e X.env:=by rfl):RE X (.Attribute e f pos) (mUn (By c f) m):=RE.wk (Zz he.pe hb) λσ H Q h=>by
 obtain⟨ι,μ,τ,d,μ',R,S,ev,q⟩:=h;obtain⟨x,μ1,e1,e2⟩:=AI ev;obtain⟨r,μ2,e3,e4⟩:=AI e2;refine⟨ι,μ,τ,x,μ1,R,S,e1,λι1 H1 E1 R1 v1 i1=>?_⟩;obtain⟨hm,_,g1,rfl,C',dx,fs,g2,g3,g4,g5⟩:=GB R1 i1 e3;subst hm;cases ca.at_.eq g3;cases hl:r.2.lookup f with
 |none=>rw[hl] at e4;cases e4
 |some x0=>
  rw[hl] at e4;cases e4;obtain⟨v,hv,iv⟩:=g5.lookup hl;exact⟨_,C,dx,fs,v,rfl,g2,ca.cl,na,hv,q ι1 H1 E1 R1 v iv⟩
theorem G8(ca:CA X.K c C)(na:NoAttr X.K C f)(ho:RE X o mo)(hv:RE X value mv)(hs:swapsWith value (some (.Attribute o f pos')) pos.line X.env=pure false:=by rfl):RS X (.Assign [.Attribute o f pos'] value pos) (Fi c f mo mv):=RS.wk (Zm ho.pe hv.pe hs) λDn σ H h=>by
 obtain⟨ι,μ,τ,fl,τ',μ',R,S,ev,q⟩:=h;obtain⟨y,μ1,e1,ee1⟩:=AI ev;obtain⟨x,μ2,e2,ee2⟩:=AI ee1;obtain⟨r,μ3,e3,ee3⟩:=AI ee2;refine⟨ι,μ,τ,y,μ1,R,S,e1,λι1 H1 E1 R1 v1 i1=>⟨ι1,μ1,τ,x,μ2,R1,S.ext E1,e2,λι2 H2 E2 R2 v2 i2=>?_⟩⟩;obtain⟨hm,_,g1,rfl,C',dx,fs,g2,g3,g4,g5⟩:=GB R2 i2 e3;subst hm;cases ca.at_.eq g3;have ee3:(if r.2.length<1000 then some ((Fl.next,τ),List.set μ3 r.1 (MO.ins c (C2 f y r.2))) else none)=some ((fl,τ'),μ'):=ee3;split at ee3
 ·rename_i hl;cases ee3;have hlt:r.1<List.length μ3:=(AAU.mp g1).1;obtain⟨E4,R4⟩:=R2.changed (m:=.ins c (C2 f y r.2)) (o:=.ins C dx (EO f v1 fs)) hlt ⟨C,dx,_,rfl,ca.at_,g4,FVs.put (i1.ext E2) g5⟩;exact⟨_,C,dx,fs,rfl,g2,ca.cl,na,by rw[g5.len];exact hl,q ι2 _ ((E1.trans E2).trans E4) R4 σ (S.ext ((E1.trans E2).trans E4))⟩
 ·cases ee3
theorem Ln(F:Ini X.prog X.w X.K X.mg X.base c ps k φ)(hr:Room j X.A)(ha:RA X (e::es) m)(hkj:k+1<=j:=by decide)(hg:Gl X c:=by rfl)(hdb:(c==("__debug__" : Str))=false:=by decide)
  (he:starEach (e::es) X.env=(false,eval e X.env)::starEach es X.env:=by exact Ak rfl) (hpl:(backTo pos (starEach es X.env)).any (·.1)=false:=by exact BS rfl):RE X (.Call (.Name c p) (e::es) [] pos) (AJ (Hl c φ) m):=by
 obtain⟨len,C,f,fd,hc,hm,M,F,hb⟩:=F;refine RE.wk (XV M F (hr.mono hkj) hg hm hb .nil Uh ha.pe hdb he hpl) λ_ _ _ q=>EH q λι μ μ' H ds vs d R i ev q=>?_;intro x dx hx hdx hne;unfold Hl at ev;split at ev
 ·rename_i μ1 hφ;cases ev;obtain⟨E1,R1⟩:=R.laid (.own x) hdx;have hx1:upd H dx (.own x) x=none:=by rw[A9 (Ne.symm hne)];exact hx
  obtain⟨ι',E2,R2,e0⟩:=R1.grown (m:=.ins c []) (o:=.ins C dx []) hx1 ⟨C,dx,[],rfl,hc,BK,rfl⟩;have hlen:=len _ _ _ hφ;refine⟨by rw[AAI,AAH,List.length_nil,Nat.add_zero,i.length,←hlen];rfl,ι',_,_,_,_,R2,.cons (v:=.ref x) (by unfold Is;exact⟨by simp,by rw[e0]⟩) (by rw[AAb];exact i.ext (E1.trans E2)),hφ,λι3 H3 E3 R3 v iv=>?_⟩;unfold Is at iv;refine⟨iv,q ι3 H3 ((E1.trans E2).trans E3) R3 (.ref x) ?_⟩;unfold Is;have hl:μ.length<(μ++[MO.ins c []]).length:=by simp
  exact⟨AAN hl E3.le,by rw[E3.agree _ hl,e0]⟩
 ·cases ev
theorem CG(F:Mth X.prog X.w X.K X.mg X.base c mm ps k φ)(hr:Room j X.A)(ho:RE X o mo)(ha:RA X (e::es) ma)(hkj:k<=j:=by decide)
  (hst:starEach (e::es) X.env=(false,eval e X.env)::starEach es X.env:=by exact Ak rfl) (hpl:(backTo pos (starEach es X.env)).any (·.1)=false:=by exact BS rfl)
  (ht:eval (.Call (.Attribute o mm apos) (e::es) [] pos) X.env=(do
   let ov ←eval o X.env
   standAt apos.atName
   let (f,first) ←holding [ov] (getMethod ov mm pl)
   callWith pos f first (backTo pos (starEach (e::es) X.env)) (backToKw pos (keywordEach [] X.env))):=by rfl):RE X (.Call (.Attribute o mm apos) (e::es) [] pos) (CN c mm φ mo ma):=by
 obtain⟨len,C,f,fd,ca,M,F,hb⟩:=F;refine RE.wk (XT (pl:=pl) ho.pe ca.cl M F (hr.mono hkj) hb .nil Uh ha.pe hst hpl ht) λσ H Q h=>?_;obtain⟨ι,μ,τ,d,μ',R,S,ev,q⟩:=h;obtain⟨x,μ1,e1,e2⟩:=AI ev;obtain⟨r,μ2,e3,e4⟩:=AI e2;refine⟨ι,μ,τ,x,μ1,R,S,e1,λι1 H1 E1 R1 v1 i1=>?_⟩;obtain⟨hm,ex,g1,rfl,C',dx,fs,g2,g3,g4,g5⟩:=GB R1 i1 e3;subst hm;cases ca.at_.eq g3;split at e4
 ·rename_i hl;obtain⟨ds,μ3,e5,e6⟩:=AI e4;refine⟨_,dx,fs,rfl,g2,g5.none hl,ι1,μ2,τ,ds,μ3,R1,S.ext E1,e5,λι2 H2 E2 R2 vs i2=>?_⟩;have hlen:=len _ _ _ e6;exact⟨by rw[AAI,AAH,List.length_nil,Nat.add_zero,i2.length,←hlen];rfl,ι2,_,_,_,_,R2,.cons (i1.ext E2) (by rw[AAb];exact i2),e6,λι3 H3 E3 R3 v iv=>q ι3 H3 ((E1.trans E2).trans E3) R3 v iv⟩
 ·cases e4
end
noncomputable def NAs(K:PySem.W.Frag)(C:Addr):List Str->Prop
 |[]=>True
 |x::r=>PySem.W.findIn K (.ref C) x=some none/\NAs K C r
theorem NAs.all:∀{fl:List Str},NAs K C fl->∀x∈fl,NoAttr K C x
 |[],_,_,h=>nomatch h
 |y::r,n,x,h=>by
  rcases AAJ.mp h with rfl|h
  ·exact n.1
  ·exact NAs.all n.2 x h
structure Dc(K:PySem.W.Frag)(c:Str)(fl:List Str)(C:Addr):Prop where
 ca:CA K c C
 na:∀x∈fl,NoAttr K C x
structure Di(K:PySem.W.Frag)(c qual:Str)(st:Stmt)(C f:Addr)(fd:FuncData):Prop where
 at_:ClsAt K c C
 mak:Mk K C f
 F:Fun K "__init__" qual st f fd
structure Dm(K:PySem.W.Frag)(c m qual:Str)(st:Stmt)(C f:Addr)(fd:FuncData):Prop where
 ca:CA K c C
 me:YT K C m f
 F:Fun K m qual st f fd
section
variable{K:PySem.W.Frag}{c qual:Str}{st:Stmt}{C f:Addr}{fl:List Str}{oc:Value}{od an:Option Addr}{osl:Array (Option Value)}{kV doc pm cdv ct:Value}
theorem cQ(a:PySem.W.nsIn K mainGlobals c=some (some (.ref C)))(pg:PySem.W.plainGet K C Str.empty=true)(hd:PySem.W.hasDictIn K C=true)(po:PySem.W.plainOver K C=true)(sa:PySem.W.findIn K (.ref C) "__setattr__" = some (some (.builtin "object.__setattr__")))(na:NAs K C fl):∃C,Dc K c fl C:=
 ⟨C,⟨a,⟨pg,hd,po,sa⟩⟩,na.all⟩
theorem cO(a:PySem.W.nsIn K mainGlobals c=some (some (.ref C)))(mk:PySem.W.makesIn K C=true)(ini:PySem.W.findIn K (.ref C) "__init__" = some (some (.ref f)))(fn:PySem.W.isFn K (.ref f)=true)(kc:PySem.W.keepIn K (.ref C)=true)
  (l:K.lookup f=some ⟨oc,od,.func (PySem.W.fnOf "__init__" qual (Ec st) (Bq st) (AO st) .none kV doc pm an cdv ct),osl⟩) (cd:PySem.W.codeIn K cdv qual=true) (k:PySem.W.keepIn K (.ref f)=true):∃C f fd,Di K c qual st C f fd:=⟨C,f,_,a,⟨mk,ini,fn,kc⟩,O0 l cd k⟩
end
theorem VB(hw:How)(d:Di K c qual st C f fd)(S:Ae N ps (AO st))(hm:mg c=some (.ref C))(hb:Binds K fd ps [])
  (body:∀(cdv:Value) (A:Around) (outer:List Env) (s:Shared) (H:Hp) (E:XK),Room k (A.deeper (PyProof.Rows.envOfC qual (AO st) s.heap.objs.size f cdv))->RSs (IH CX0 P w K mg base N qual (AO st) f cdv A outer s H E).nox (Bq st) mb) :
  Ini P w K mg base c ps (k+1) (An hw N.length ps.length mb):=⟨λds μ r h=>(DW (d:=r.1) (μ':=r.2) h).1,C,f,fd,d.at_,hm,d.mak,Jn hw d.F S body,hb⟩
def K4(st:Stmt)(j:Nat):Stmt:=match st with
 | .ClassDef _ _ _ body _ _ _ _ _ _ _=>body.getD j (.Pass ⟨0,0,0,0⟩)
 |_=>.Pass ⟨0,0,0,0⟩
end Mi
namespace L2
open PySem PySem.Spec PyProof.Rows Sem Ht
theorem Wj(l:Addr)(items:Array Value)(t:Tok)(h0:items.isEmpty=false):
  Meets (Builtin.«tuple.__mul__» ⟨[.ref l,.int 0 t],[]⟩) (λ_ R s=>IsTup s.heap l items/\R (.ok (.ret (.ref s.heap.objs.size))) { s with heap:=s.heap.push { cls:=.type "tuple",data:=.seq #[] } }):=
 .of_wp λprog w A R s h=>by
  obtain⟨⟨o,ho,hc,n,hd⟩,q⟩:=h;have hT:s.TypeIs (.ref l) "tuple" := ⟨o,ho,hc⟩;unfold Builtin.«tuple.__mul__»
  wp_walk
  rw[hd];refine AAB (AAB ?_);dsimp only;rw[h0];have c2:(false||(0:Int)==1)=false:=by decide
  rw[c2];simp only[Bool.false_eq_true,↓reduceIte];have c3:(decide ((0:Int)<=0)||false)=true:=by decide
  rw[c3];simp only[↓reduceIte];unfold Builtin.Tuple.tupleExact;exact AAA (AAt (AAB ⟨_,rfl,q⟩))
section
variable{X:Cx}
theorem Uk:OpR X (binaryOp .Mult) (λx y H Q=>∃l xs,x=.ref l/\y=.int 0/\SqT X.K H l xs/\xs≠[]/\∀p,H p=none->Q (.ref p) (upd H p (.tup []))):=by
 intro pins s σ H x y v u Q I rx ry h;obtain⟨l,xs,rfl,rfl,ha,hx,q⟩:=h;cases rx;obtain⟨t,rfl⟩:=ry;obtain⟨its,r,p,_⟩:=I.tuple ha;have hlen:=r.length;have hT:s.TypeIs (.ref l) "tuple" := by
  obtain⟨o,e,c,_⟩:=p;exact⟨o,e,c⟩
 have he:its.toArray.isEmpty=false:=by
  cases its with
  |nil=>exact absurd (List.length_eq_zero_iff.mp (by simpa using hlen)) hx
  |cons a b=>rfl
 refine wpAny_binaryOp_repeat_ref (T := "tuple") (U := "int") (by decide) hT (λs'=>typeIs_int s' 0 t) Pm PySem.F.fills_int_mul PySem.F.slot_int_rmul TY PySem.F.slot_int_index.lookup ?_;refine call_meets PySem.F.slot_int_rmul (typeIs_int s 0 t) PySem.F.entry_int_rmul (PySem.F.args_int_rmul_2 _ _) (TZ 0 t l its.toArray) ⟨p,rfl,hT,?_⟩;refine call_meets PySem.F.slot_tuple_mul hT PySem.F.entry_tuple_mul (PySem.F.args_tuple_mul_2 _ _) (Wj l its.toArray t he) ⟨p,?_⟩;exact⟨.ref s.heap.objs.size,_,I.laid (t':=s.toks) (o:=.tup []) (λb ob z=>AAC _ z) (AAF _) ⟨by simp,[],.nil,IsTup.new _ _⟩,rfl,q _ (I.hok.fresh (AAF _))⟩
end
end L2
namespace Mi
open PySem L2 Ht
noncomputable def F2(a b:D):M D:=match a,b with
 | .tup (x::ds),.int 0=>λμ=>some (.tup [],μ)
 |a,b=>Of a b
section
variable{X:Cx}
theorem Om:OpR X (binaryOp .Mult) (rM X.K F2):=λpins s σ H x y v u Q I rx ry h=>by
 obtain⟨ι,μ,a,b,d,μ',R,ia,ib,e,q⟩:=h;unfold F2 at e;split at e
 ·rename_i z ds;cases e;have zb:=Bw ib;subst zb;unfold Is at ia;obtain⟨p,vs,rfl,h1,h2⟩:=ia;have hl:=h2.length;refine Uk pins s σ H _ _ v u Q I rx ry ⟨p,vs,rfl,rfl,h1,λn=>by rw[n] at hl;simp at hl,?_⟩;exact NY R IsL.nil q
 ·exact aB pins s σ H _ _ v u Q I rx ry ⟨ι,μ,a,b,d,μ',R,ia,ib,e,q⟩
end
end Mi
set_option maxHeartbeats 2000000
namespace Xt
open PySem PySem.Spec PyProof.Rows Sem L2 Ht
theorem Gz:∀{vs us:List Value},vs.Perm us->∀{ks:List Str},StrsAre us ks->∃ms,StrsAre vs ms/\ms.Perm ks:=by
 intro vs us p
 induction p with
 |nil=>exact λh=>⟨_,h,.refl _⟩
 |cons x _ ih=>
  intro ks h;cases h with
  |cons y t h=>exact(ih h).elim λm z=>⟨y::m,.cons y t z.1,z.2.cons y⟩
 |swap x y l=>
  intro ks h;cases h with
  |cons a t h=>
   cases h with
   |cons b u h=>exact⟨_,.cons b u (.cons a t h),.swap a b _⟩
 |trans _ _ i1 i2=>
  intro ks h;obtain⟨m,a,b⟩:=i2 h;obtain⟨n,c,d⟩:=i1 a;exact⟨n,c,d.trans b⟩
theorem Tn(t:SetTable)(n:Nat):(t.orStandIn n).led=t.led:=by
 unfold SetTable.orStandIn SetTable.standIn;split<;>rfl
theorem OV(t:SetTable)(n:Nat)(h:t.plain=false):(t.orStandIn n).plain=false:=by
 unfold SetTable.orStandIn SetTable.standIn;split
 ·exact h
 ·rfl
theorem Xr(t:SetTable)(es:Array (Int×Value))(h:Int)(x:Value):(layNew t es h x).2.1.led=t.led/\(t.plain=false->(layNew t es h x).2.1.plain=false):=by
 unfold layNew;split
 ·exact⟨Tn _ _,λz=>OV _ _ z⟩
 ·exact⟨rfl,λ_=>rfl⟩
theorem RY(t:SetTable)(es:Array (Int×Value))(n:Nat):(relayAll t es n).2.1.led=t.led/\(t.plain=false->(relayAll t es n).2.1.plain=false):=by
 unfold relayAll;split
 ·rename_i t' order e;have f:t'.led=t.led/\t'.plain=t.plain:=by
   unfold SetTable.relaid SetTable.laid at e;simp only[Option.bind_eq_bind,Option.bind_eq_some_iff] at e;obtain⟨a,_,e⟩:=e;cases e;exact⟨rfl,rfl⟩
  dsimp only;split
  ·exact⟨f.1,λz=>f.2.trans z⟩
  ·exact⟨rfl,λ_=>rfl⟩
 ·exact⟨rfl,λ_=>rfl⟩
def SetT(prog:Program)(w:World)(h:Heap)(a:Addr)(ks:List Str):Prop:=
 ∃o es ep t,h.get? a=some o/\o.ExactSet/\o.data=.set es ep t/\ElemsOf (PySem.strKind prog w) es.toList/\(∃ns,StrsAre (es.toList.map (·.2)) ns/\ns.Perm ks)/\t.fits es.size=true/\t.led=!(w.params.followText "set-order")/\(es.size≠0->t.plain=false)
theorem SetT.at(z:SetT prog w h a ks)(k:∀o,h.get? a=some o->h'.get? a=some o):SetT prog w h' a ks:=by
 obtain⟨o,es,ep,t,e,rest⟩:=z;exact⟨o,es,ep,t,k o e,rest⟩
theorem KY{l:Array (Int×Value)}(h:StrsAre (l.toList.map (·.2)) ns)(p:ns.Perm ks):l.size=ks.length:=by
 rw[←p.length_eq,←h.length,AAG,Array.length_toList]
theorem Wl(prog:Program)(w:World):∀{l:List (Int×Value)},StrsAre (l.map (·.2)) ks->∀k:Str,(∃e∈l,(PySem.strKind prog w).is k e.2=true)↔k∈ks:=by
 intro l
 induction l generalizing ks with
 |nil=>intro h k;cases h;simp
 |cons e l ih=>
  intro h k;obtain⟨a,v⟩:=e;have h0:StrsAre (v::l.map (·.2)) _:=h;clear h;cases h0 with
  |cons y t h1=>
   have:=ih h1 k;have hy:(PySem.strKind prog w).is k (.str y t)=true↔k=y:=by
    rw[KeyKind.is_eq_decide (strKind_is prog w y t) k,decide_eq_true_iff]
   rw[AAJ,←this];constructor
   ·rintro⟨e,he,q⟩;rcases AAJ.mp he with rfl|he
    ·exact .inl (hy.mp q)
    ·exact .inr ⟨e,he,q⟩
   ·rintro(z|⟨e,he,q⟩)
    ·exact⟨_,AAQ,hy.mpr z⟩
    ·exact⟨e,AAR _ he,q⟩
section
variable{prog:Program}{w:World}{A:Around}{E:Value->Shared->Prop}{s:Shared}
set_option hygiene false in
local macro_rules | `(tactic| wtm_at "m")=>`(tactic| (
 refine AAA (wpAny_storeSet_of (s:={ s with toks:=s.toks+1 }) ho hd ?_ (by rw[sizeLine_eq];unfold scanBound at room;omega));have ho1:=IV ho hd es1 t2;have sb1:=Heap.SameBut.update s.heap a (Obj.putSet es1 t2);by_cases hf:(!wd&&t2.tooFull)=true
 ·rw[if_pos hf];have rp:=relayAll_perm t2 es1 (SetTable.grown es1.size);have rf:=relayAll_fits t2 es1 (SetTable.grown es1.size);have rl:=RY t2 es1 (SetTable.grown es1.size);generalize relayAll t2 es1 (SetTable.grown es1.size)=ry at rp rf rl;obtain⟨es3,t3,gv3⟩:=ry;dsimp only at rp rf rl ⊢;have s3:es3.size=es1.size:=by simpa using rp.length_eq
  cases gv3
  all_goals
   first
    |refine AAA (AAB ?_)
    |refine AAA (wpAny_rule ?_)
   refine AAA (wpAny_storeSet_of (s:={ s with heap:=s.heap.update a (Obj.putSet es1 t2),toks:=s.toks+1 }) ho1 rfl ?_ (by rw[sizeLine_eq];unfold scanBound at room;omega));exact AAB (AAB (wrap es3 t3 _ o _ _ (sb1.trans (Heap.SameBut.update _ a _)) (IV ho1 rfl es3 t3) rp rf (rl.1.trans fl.2.1) (rl.2 fl.2.2)))
 ·rw[if_neg hf];exact AAB (AAB (wrap es1 t2 _ o _ _ sb1 ho1 (.refl _) fl.1 fl.2.1 fl.2.2))))
theorem Tp(hS:SetT prog w s.heap a ks)(room:ks.length+1<scanBound)
  (q:∀b h' tk,Heap.SameBut a s.heap h'->SetT prog w h' a (if x∈ks then ks else ks++[x])->Q b { s with heap:=h',toks:=tk }) :
  wpAny (model prog w) A (setAdd a (.str x tk)) Q E s:=by
 obtain⟨o,es,ep,t,ho,hex,hd,hel,⟨ns,hen,hp⟩,hfit,hled,hpl⟩:=hS;have hsz:=KY hen hp;have hb:es.size<scanBound:=by omega
 have kx:=strKind_is prog w x tk;unfold setAdd;refine AAr (AAA ((PySem.strKind prog w).pyHash kx ?_));unfold setAddHashed setAddHashedIn;refine AAr (AAA (AAk (s:={ s with toks:=s.toks+1 }) ho hd hfit ?_));dsimp only;rw[byScan_of (knd:=PySem.strKind prog w) rfl hb hel];simp only[↓reduceIte];unfold setAddByScan;refine AAA ?_;refine AAA (wpAny_rule ?_);refine AAA (wpAny_setScan_of (knd:=PySem.strKind prog w) (s:={ s with toks:=s.toks+1 }) kx ho hd hfit hel ?_);have mem:=Wl prog w hen x;rw[hp.mem_iff] at mem;cases hr:List.findIdx? (λe=>(PySem.strKind prog w).is x e.2) es.toList with
 |some j=>
  dsimp only;obtain⟨hj,hpj,_⟩:=List.findIdx?_eq_some_iff_getElem.mp hr;rw[if_pos (mem.mp ⟨_,List.getElem_mem hj,hpj⟩)] at q;exact AAB (AAB (q _ s.heap _ (Heap.SameBut.refl a s.heap) ⟨o,es,ep,t,ho,hex,hd,hel,⟨ns,hen,hp⟩,hfit,hled,hpl⟩))
 |none=>
  dsimp only;have hm:x∉ks:=λz=>by
   obtain⟨e,he,hq⟩:=mem.mpr z;rw[List.findIdx?_eq_none_iff.mp hr e he] at hq;cases hq
  rw[if_neg hm] at q;have lp:=layNew_perm t es ((PySem.strKind prog w).hash x) (.str x tk);have lf:=layNew_fits t es ((PySem.strKind prog w).hash x) (.str x tk);have ll:=(Xr t es ((PySem.strKind prog w).hash x) (.str x tk)).1;generalize layNew t es ((PySem.strKind prog w).hash x) (.str x tk)=lay at lp lf ll;obtain⟨es1,t1,wd,gv⟩:=lay;dsimp only at lp lf ll ⊢;have s1:es1.size=es.size+1:=by simpa using lp.length_eq
  rw[Array.toList_push] at lp;have hel1:ElemsOf (PySem.strKind prog w) es1.toList:=(hel.push kx rfl).perm lp;have hen0:StrsAre ((es.toList++[((PySem.strKind prog w).hash x,Value.str x tk)]).map (·.2)) (ns++[x]):=by
   rw[AAY];exact StrsAre.append' hen (.cons x tk .nil)
  obtain⟨ms,hen1,hp1⟩:=Gz (lp.map (·.2)) hen0;have hp2:ms.Perm (ks++[x]):=hp1.trans (hp.append_right [x]);have wrap:∀(es2:Array (Int×Value)) (t2:SetTable) (h':Heap) (o2:Obj) (ep2:Nat) (n2:Nat),Heap.SameBut a s.heap h'->h'.get? a=some { o with data:=.set es2 ep2 t2 }->es2.toList.Perm es1.toList->t2.fits es2.size=true->t2.led=t.led->t2.plain=false->Q true { s with heap:=h',toks:=n2 }:=λes2 t2 h' o2 ep2 n2 sb g pm f l pl=>by
   obtain⟨ls,hen2,hp3⟩:=Gz (pm.map (·.2)) hen1;exact q _ _ _ sb ⟨_,es2,ep2,t2,g,hex,rfl,hel1.perm pm,⟨ls,hen2,hp3.trans hp2⟩,f,l.trans hled,λ_=>pl⟩
  have off:∀n,t1.fits n=true->({ t1 with plain:=false }:SetTable).fits n=true:=λn h=>SetTable.fits_plain_off h;cases gv
  all_goals
   first
    |refine AAA (AAB ?_)
    |refine AAA (wpAny_rule ?_)
   by_cases e:t1.plain=true
   ·rw[if_pos e,hashByValue_scannable 8 (x:=.str x tk) rfl];refine AAA (AAB ?_);have pk:plainKind (.str x tk)=false:=rfl;rw[pk];simp only[Bool.false_eq_true,↓reduceIte];have fl:({ t1 with plain:=false }:SetTable).fits es1.size=true/\({ t1 with plain:=false }:SetTable).led=t.led/\({ t1 with plain:=false }:SetTable).plain=false:=⟨off _ lf,ll,rfl⟩;generalize ({ t1 with plain:=false }:SetTable)=t2 at fl;wtm_at "m"
   ·rw[if_neg e];refine AAA (AAB ?_);simp only[↓reduceIte];have fl:t1.fits es1.size=true/\t1.led=t.led/\t1.plain=false:=⟨lf,ll,by simpa using e⟩;generalize t1=t2 at fl;wtm_at "m"
end
end Xt
set_option maxHeartbeats 2000000
namespace Xt
open PySem PySem.Spec PyProof.Rows Sem L2 Ht
section
variable{prog:Program}{w:World}{A:Around}{E:Value->Shared->Prop}{s:Shared}
theorem RN(hh:A.in1.handled=none)(hlI:l≠I)(hSI:S≠I)(hSl:S≠l)(rv:StrsAre its ss)(room:ss.length+1<scanBound):
  ∀(m i:Nat) (s:Shared),ss.length-i=m->i<=ss.length->s.heap.IsListIter I l i->s.heap.IsList l its.toArray->SetT prog w s.heap S (DM (ss.take i))->
   (∀h' tk,(∀c o,c≠S->c≠I->s.heap.get? c=some o->h'.get? c=some o)->SetT prog w h' S (DM ss)->R (.ok (.ret .none)) { s with heap:=h',toks:=tk })->
   codeAny (model prog w) A (.builtin "set.update.loop" ⟨[.ref S,.ref I],[]⟩) R s:=by
 have hl:its.toArray.size=ss.length:=by rw[List.size_toArray];exact rv.length
 have W:=Walks.list (prog:=prog) (w:=w) hh I l hlI its.toArray;rw[hl] at W;intro m
 induction m with
 |zero=>
  intro i s hm hi hit hls hS q;cases (show i=ss.length by omega);refine codeAny_builtin PyProof.Rows.F.entry_set_update_loop ?_;rw[Around.under_plainId PyProof.Rows.F.plain_set_update_loop _];refine AAA (m:=pyNext (.ref I)) (W.done s _ _ ⟨hit,hls⟩ λh' tk kp=>AAB ?_);rw[List.take_length] at hS;exact q h' tk (λc o _ c2 e=>kp c o (by simpa using c2) e) (hS.at λo e=>kp S o (by simpa using hSI) e)
 |succ m ih=>
  intro i s hm hi hit hls hS q;have lt:i<ss.length:=by omega
  refine codeAny_builtin PyProof.Rows.F.entry_set_update_loop ?_;rw[Around.under_plainId PyProof.Rows.F.plain_set_update_loop _];refine AAA (m:=pyNext (.ref I)) (W.item i s _ _ lt ⟨hit,hls⟩ λv h' tk hv st kp=>?_);obtain⟨t,e⟩:=StrsAre.at rv (AAw lt);have hv':its[i]?=some v:=by simpa using hv
  cases e.symm.trans hv';have nb:(if ss[i]∈DM (ss.take i) then DM (ss.take i) else DM (ss.take i)++[ss[i]])=DM (ss.take (i+1)):=by
   rw[List.take_succ,AAw lt,Option.toList_some,Rm]
  have le:=QP (ss.take i);rw[List.length_take] at le;refine AAA (AAr (Tp (s:={ s with heap:=h',toks:=tk }) (hS.at λo e=>kp S o (by simpa using hSI) e) (by omega) λb h2 t2 sb hS2=>?_));rw[nb] at hS2;have k2:∀c o,c≠S->h'.get? c=some o->h2.get? c=some o:=λc o hc e=>(sb.2 c hc).trans e;refine AAB ⟨plainId_quiet PyProof.Rows.F.plain_set_update_loop _,ih (i+1) _ (by omega) lt (st.1.at λo e=>k2 I o hSI.symm e) (st.2.at λo e=>k2 l o hSl.symm e) hS2 λh3 t3 kp3 hS3=>?_⟩;exact q h3 t3 (λc o c1 c2 e=>kp3 c o c1 c2 (k2 c o c1 (kp c o (by simpa using c2) e))) hS3
theorem call_setX(hh:A.handled=none)(hl:s.heap.IsList l its.toArray)(rv:StrsAre its ss)(room:ss.length+1<scanBound)
  (q:∀h' tk,(∀c o,s.heap.get? c=some o->h'.get? c=some o)->SetT prog w h' s.heap.objs.size (DM ss)->Q (.ref s.heap.objs.size) { s with heap:=h',toks:=tk }) :
  wpAny (model prog w) A (call (.type "set") [.ref l]) Q E s:=by
 refine QY PySem.F.called_set (PySem.F.typeCall_set_1 _) (P0 (.ref l) (Q:=λx s₁=>x=.ref s.heap.objs.size/\s₁={ s with heap:=s.heap.push (Ay !(w.params.followText "set-order")) }) ⟨rfl,rfl⟩) ?_;rintro x s₁ ⟨rfl,rfl⟩;generalize hled:(!(w.params.followText "set-order"))=led;have at_S:(s.heap.push (Ay led)).get? s.heap.objs.size=some (Ay led):=AAD _ rfl;have ty:Shared.TypeIs { s with heap:=s.heap.push (Ay led) } (.ref s.heap.objs.size) "set" := ⟨_,at_S,rfl⟩;have lt:l<s.heap.objs.size:=by
  obtain⟨o,e,_⟩:=hl;exact Heap.lt_size e
 have hl1:(s.heap.push (Ay led)).IsList l its.toArray:=hl.push _;have tyl:Shared.TypeIs { s with heap:=s.heap.push (Ay led) } (.ref l) "list" := hl1.typeIs;refine⟨ty,codeAny_call_builtin PySem.F.called_set.init.plain PySem.F.entry_set_init (check_set_init_1 ty ?_)⟩;have c1:=PySem.F.sub_list_set;have c2:=PySem.F.sub_list_frozenset;unfold Builtin.«set.__init__» noKeywords Builtin.Frozenset.updateFrom;have walk:∀(A:Around) (E:Value->Shared->Prop) (Q:Value->Shared->Prop),Q (.ref (s.heap.push (Ay led)).objs.size) { s with heap:=(s.heap.push (Ay led)).push { cls:=.type "list_iterator",data:=.fields #[.ref l,.int 0 0] } }->wpAny (model prog w) A (pyIter (.ref l)) Q E { s with heap:=s.heap.push (Ay led) }:=λA E Q z=>wpAny_pyIter_list hl1 z
 wp_walk using walk
 have sz:(s.heap.push (Ay led)).objs.size=s.heap.objs.size+1:=Heap.size_push ..;have far:∀{c:Addr},c<s.heap.objs.size->c≠(s.heap.push (Ay led)).objs.size:=λz=>by rw[sz];exact AAf (AAj z)
 refine RN (l:=l) (ss:=ss) (A:=A.in1.in1) (by simp[hh]) (far lt) (by rw[sz];exact AAf (Nat.lt_succ_self _)) (Nat.ne_of_gt lt) rv room ss.length 0 _ (Nat.sub_zero _) (AAm _) ⟨_,AAD _ rfl,rfl,rfl⟩ (hl1.push _) ?start λh' tk kp hS=>?fin
 case start=>
  refine⟨_,#[],0,_,AAC _ at_S,⟨rfl,rfl,rfl⟩,rfl,?_,⟨[],.nil,.refl _⟩,(KW led).fits,hled.symm,λz=>absurd rfl z⟩;intro e he;cases he
 case fin=>
  exact AAB (AAB ⟨rfl,q h' tk (λc o e=>kp c o (AAf (Heap.lt_size e)) (far (Heap.lt_size e)) (AAC _ (AAC _ e))) hS⟩)
end
end Xt
set_option maxHeartbeats 2000000
namespace Xt
open PySem PySem.Spec PyProof.Rows Sem L2 Ht
noncomputable def itD(T S:Addr)(i n ep:Nat):Obj:={ cls:=.type "set_iterator",data:=.fields #[.ref T,.int i 0,.ref S,.int n 0,.int ep 0] }
noncomputable def plO(ord:List Nat):Obj:={ cls:=.type "tuple",data:=.seq (ord.map λ(i:Nat)=>rawInt i).toArray }
section
variable{prog:Program}{w:World}{A:Around}{E:Value->Shared->Prop}{s:Shared}
theorem SE(hn:n≠0)(h:∀i d,i<n->Q i { s with drawn:=d }):wpAny (model prog w) A (choose src n) Q E s:=λΓ p _=>⟨hn,h _ _ (Nat.mod_lt _ (Nat.pos_of_ne_zero hn))⟩
theorem Nv:∀(n:Nat) (xs:List α) (s:Shared) {Q:List α->Shared->Prop},xs.length<=n->(∀ys d,ys.Perm xs->Q ys { s with drawn:=d })->wpAny (model prog w) A (drawOrder n xs) Q E s
 |0,xs,s,Q,h,q=>by
  cases xs with
  |nil=>unfold drawOrder;exact AAB (q [] s.drawn (.refl _))
  |cons x xs=>simp at h
 |n+1,[],s,Q,_,q=>by unfold drawOrder;exact AAB (q [] s.drawn (.refl _))
 |n+1,x::xs,s,Q,h,q=>by
  unfold drawOrder;refine AAA (SE (by simp) λi d hi=>?_);have e:(x::xs)[i]?=some (x::xs)[i]:=AAw hi;rw[e];dsimp only;refine AAA (Nv n ((x::xs).eraseIdx i) _ (by rw[List.length_eraseIdx_of_lt hi];simp at h ⊢;omega) λys d2 p=>AAB ?_);exact q _ d2 ((p.cons _).trans (F8 _ _ _ e))
theorem U6(hI:s.heap.get? I=some (itD T S i n ep))(h:Q (.ref I) s):wpAny (model prog w) A (pyIter (.ref I)) Q E s:=by
 have hT:s.TypeIs (.ref I) "set_iterator" := ⟨_,hI,rfl⟩;refine wpAny_pyIter_slot hT IP (AAe IP hT Nr ?_ (OD _));exact AAB ⟨_,rfl, "set_iterator",_,hT,si_next.lookup,h⟩
theorem YC(ho:s.heap.get? S=some o)(hex:o.ExactSet)(hd:o.data=.set es ep t)(hf:t.fits es.size=true)(nf:w.params.followText "set-order" = false)(np:t.plain=false)(n1:1<es.size)(n2:es.size<=1000)
  (h:∀ord d,ord.Perm (List.range es.size)->Q (.ref (s.heap.objs.size+1)) { s with drawn:=d,heap:=(s.heap.push (plO ord)).push (itD s.heap.objs.size S 0 es.size ep) }):wpAny (model prog w) A (pyIter (.ref S)) Q E s:=by
 have hT:s.TypeIs (.ref S) "set" := ⟨_,ho,hex.1⟩;refine wpAny_pyIter_slot hT PySem.F.slot_set_iter (AAe PySem.F.slot_set_iter hT Nt ?_ (PySem.F.args_set_iter_1 _));unfold Builtin.«frozenset.__iter__» Builtin.Frozenset.slot0 Builtin.Frozenset.sizeOf setEntries setDrawn setsByText;refine AAA (AAA (AAy (a:=(Value.ref S,[])) rfl (AAB ?_)));refine AAA (AAA (AAA (AAk ho hd hf (AAB (AAB ?_)))));refine AAA (AAA (AAk ho hd hf ?_));dsimp only;refine AAA (AAA (wpAny_askSetting (AAB (AAB ?_))));dsimp only;have e0:(!(w.params.followText "set-order")&&(!t.plain&&decide (es.size > 1)))=true:=by rw[nf,np];simp[n1]
 split
 ·refine AAA (Nv es.size (List.range es.size) s (by simp) λord d p=>?_);have ol:ord.length<=1000:=by rw[p.length_eq,List.length_range];exact n2
  refine AAA (wpAny_newTuple ?_ (by rw[AAG,sizeLine_eq];omega));refine AAA (wpAny_setEpoch_of (AAC _ ho) hd hf ?_);unfold newFields;refine AAA (AAt ?_);have sz:(s.heap.push (plO ord)).objs.size=s.heap.objs.size+1:=Heap.size_push ..;refine AAB ⟨_,rfl, "set_iterator",_,⟨_,AAD _ rfl,rfl⟩,si_next.lookup,?_⟩;have:=h ord d p;rw[←sz] at this;exact this
 ·rename_i z;exact absurd e0 z
theorem U7(hI:s.heap.get? I=some (itD T S i es.size ep))(hT:s.heap.get? T=some (plO ord))(ho:s.heap.get? S=some o)(hd:o.data=.set es ep t)(hf:t.fits es.size=true)
  (hj:ord[i]?=some j) (hx:es[j]?=some x)
  (q:∀h',h'.get? I=some (itD T S (i+1) es.size ep)->Heap.SameBut I s.heap h'->Q (some x.2) { s with heap:=h' }) :
  wpAny (model prog w) A (pyNext (.ref I)) Q E s:=by
 have hTy:s.TypeIs (.ref I) "set_iterator" := ⟨_,hI,rfl⟩;unfold pyNext;refine AAA (AA1 (wpAny_callSpecial?_slot (name:=Str.ofString "__next__") hTy si_next (AAe si_next hTy Gb ?_ (Gk _))));unfold Builtin.«set_iterator.__next__»;refine AAA (AAy (a:=(Value.ref I,[])) rfl ?_);refine AAA (wpAny_fieldsOf hI rfl ?_);dsimp only;unfold setEntries;refine AAA (AAA (AAk ho hd hf (AAB ?_)));dsimp only;have e0:((es.size:Int) != (es.size:Int))=false:=by simp
 rw[e0,if_neg AAi];simp only[Int.toNat_natCast];refine AAA (AA0 hT rfl ?_);dsimp only;have pj:(ord.map λ(i:Nat)=>rawInt i).toArray[i]?=some (.int (j:Int) 0):=by simp[hj,rawInt]
 rw[pj];dsimp only;unfold setNextDrawn;refine AAA (AAA (AAk ho hd hf ?_));dsimp only;have e1:(ep != ep)=false:=by simp
 rw[e1,if_neg AAi,Int.toNat_natCast,hx];refine AAB ?_;refine AAA (AAs hI (by simp) λh1 g1 s1=>?_);refine AAB ⟨_,rfl,AAB (q h1 ?_ s1)⟩;rw[g1];simp[itD,rawInt]
theorem YD(hh:A.handled=none)(hI:s.heap.get? I=some (itD T S i es.size ep))(hT:s.heap.get? T=some (plO ord))(ho:s.heap.get? S=some o)(hd:o.data=.set es ep t)(hf:t.fits es.size=true)
  (hj:ord[i]?=none) (q:∀h',(∀b o,b≠I->s.heap.get? b=some o->h'.get? b=some o)->Q none { s with heap:=h' }) :
  wpAny (model prog w) A (pyNext (.ref I)) Q E s:=by
 have hTy:s.TypeIs (.ref I) "set_iterator" := ⟨_,hI,rfl⟩;unfold pyNext;refine AAA (AA1 (wpAny_callSpecial?_slot (name:=Str.ofString "__next__") hTy si_next (AAe si_next hTy Gb ?_ (Gk _))));unfold Builtin.«set_iterator.__next__»;refine AAA (AAy (a:=(Value.ref I,[])) rfl ?_);refine AAA (wpAny_fieldsOf hI rfl ?_);dsimp only;unfold setEntries;refine AAA (AAA (AAk ho hd hf (AAB ?_)));dsimp only;have e0:((es.size:Int) != (es.size:Int))=false:=by simp
 rw[e0,if_neg AAi];simp only[Int.toNat_natCast];refine AAA (AA0 hT rfl ?_);dsimp only;have pj:(ord.map λ(i:Nat)=>rawInt i).toArray[i]?=none:=by simp at hj ⊢;exact hj
 rw[pj];dsimp only;refine AAA (AAs hI (by simp) λh1 g1 s1=>?_);refine AAA (AAs g1 (by simp) λh2 g2 s2=>?_);refine JN (A:=A.in1) (s:={ s with heap:=h2 }) hh λa h' k ty=>?_;refine AAA (AA2 (T := "StopIteration") (b:=true) ty isSubtype_stop ?_);exact AAB (q h' λb o hb e=>k b o (s2.extBut b o hb (s1.extBut b o hb e)))
theorem ZI(hh:A.handled=none)(hSI:S≠I)(hTI:T≠I)(hd:o.data=.set es ep t)(hf:t.fits es.size=true)(hp:ord.Perm (List.range es.size)):
  Walks prog w A I [I,S,T] [I] es.size (λi v=>∃j e,ord[i]?=some j/\es[j]?=some e/\v=e.2) (λi h=>h.get? I=some (itD T S i es.size ep)/\h.get? S=some o/\h.get? T=some (plO ord)) where
 sub:=λb hb=>by simp at hb;simp[hb]
 frame:=λi h h' st k=>⟨k I (by simp) _ st.1,k S (by simp) _ st.2.1,k T (by simp) _ st.2.2⟩
 item:=λi s Q E hi st q=>by
  have ol:ord.length=es.size:=by rw[hp.length_eq,List.length_range]
  have e1:ord[i]?=some (ord[i]'(by omega)):=by simp[ol,hi]
  have lt:ord[i]'(by omega)<es.size:=List.mem_range.mp (hp.mem_iff.mp (List.getElem_mem (by omega)));have e2:es[ord[i]'(by omega)]?=some (es[ord[i]'(by omega)]):=by simp[lt]
  refine U7 st.1 st.2.2 st.2.1 hd hf e1 e2 λh' g sb=>?_;exact q _ h' s.toks ⟨_,_,e1,e2,rfl⟩ ⟨g,(sb.2 S hSI).trans st.2.1,(sb.2 T hTI).trans st.2.2⟩ λb o hb e=>(sb.2 b (by simpa using hb)).trans e
 done:=λs Q E st q=>by
  have ol:ord.length=es.size:=by rw[hp.length_eq,List.length_range]
  refine YD hh st.1 st.2.2 st.2.1 hd hf (by simp[ol]) λh' k=>?_;exact q h' s.toks λb o hb e=>k b o (by simpa using hb) e
 self:=λi s Q E st h=>U6 st.1 h
end
end Xt
set_option maxHeartbeats 2000000
namespace Xt
open PySem PySem.Spec PyProof.Rows Sem L2 Ht
section
variable{prog:Program}{w:World}{A:Around}{E:Value->Shared->Prop}{s:Shared}
theorem Ow{ord:List Nat}{es:Array (Int×Value)}{acc:Array Value}(it:ItemsOf (λi v=>∃j e,ord[i]?=some j/\es[j]?=some e/\v=e.2) acc es.size)(hp:ord.Perm (List.range es.size)):acc.toList.Perm (es.toList.map (·.2)):=by
 have ol:ord.length=es.size:=by rw[hp.length_eq,List.length_range]
 have e1:acc.toList=ord.map λj=>(es.toList.map (·.2)).getD j .none:=by
  refine List.ext_getElem? λi=>?_;by_cases hi:i<acc.size
  ·obtain⟨j,e,h1,h2,h3⟩:=it.2 i acc[i] (by simp[hi]);have e0:acc.toList[i]?=some acc[i]:=by simp[hi]
   rw[e0,AAW,h1];simp[h2,h3]
  ·have h1:=it.1;rw[List.getElem?_eq_none (by simp;omega),List.getElem?_eq_none (by simp;omega)]
 have e2:(List.range es.size).map (λj=>(es.toList.map (·.2)).getD j .none)=es.toList.map (·.2):=by
  refine List.ext_getElem? λi=>?_;by_cases hi:i<es.size
  ·simp[hi]
  ·rw[List.getElem?_eq_none (by simp;omega),List.getElem?_eq_none (by simp;omega)]
 rw[e1];exact(hp.map _).trans (by rw[e2])
theorem Vc{S:Addr}{ep:Nat}{es:Array (Int×Value)}{t:SetTable}{o:Obj}{R:List Value->Shared->Prop}(hh:A.handled=none)(ho:s.heap.get? S=some o)(hex:o.ExactSet)(hd:o.data=.set es ep t)(hf:t.fits es.size=true)(nf:w.params.followText "set-order" = false)(np:t.plain=false)(n1:1<es.size)(n2:es.size<=1000)
  (q:∀h' tk d (acc:List Value),(∀b o,s.heap.get? b=some o->h'.get? b=some o)->acc.Perm (es.toList.map (·.2))->R acc { s with heap:=h',toks:=tk,drawn:=d }):wpAny (model prog w) A (collect (.ref S)) R E s:=by
 unfold collect;refine AAA (wpAny_runValue (codeAny_builtin entry_proto_collect' ?_));rw[Around.under_plainId PySem.F.plain_proto_collect _];unfold Builtin.«proto.collect»
 wp_walk
 refine⟨plainId_quiet PySem.F.plain_list_iadd _,codeAny_builtin entry_list_iadd' ?_⟩;rw[Around.under_plainId PySem.F.plain_list_iadd _];obtain⟨h1,e1⟩:∃h1,h1=s.heap.push { cls:=.type "list",data:=.seq #[] }:=⟨_,rfl⟩;have sz:h1.objs.size=s.heap.objs.size+1:=by rw[e1];exact Heap.size_push ..
 have hL:h1.get? s.heap.objs.size=some { cls:=.type "list",data:=.seq #[] }:=by rw[e1];exact AAD _ rfl
 have hS:h1.get? S=some o:=by rw[e1];exact AAC _ ho
 have old:∀b o,s.heap.get? b=some o->h1.get? b=some o:=λb o e=>by rw[e1];exact AAC _ e
 have ltS:=Heap.lt_size ho;rw[←e1];have tS:Shared.TypeIs { s with heap:=h1 } (.ref S) "set" := ⟨_,hS,hex.1⟩;have iter:∀(A:Around) (E:Value->Shared->Prop) (Q:Value->Shared->Prop),(∀ord d,ord.Perm (List.range es.size)->Q (.ref (h1.objs.size+1)) { s with drawn:=d,heap:=(h1.push (plO ord)).push (itD h1.objs.size S 0 es.size ep) })->wpAny (model prog w) A (pyIter (.ref S)) Q E { s with heap:=h1 }:=λA E Q z=>YC (s:={ s with heap:=h1 }) hS hex hd hf nf np n1 n2 z;unfold Builtin.«list.__iadd__»
 wp_walk using iter
 have ne:Builtin.List.listSameRef (.ref s.heap.objs.size) (.ref S)=false:=by
  simp[Builtin.List.listSameRef];exact λz=>absurd ltS (by rw[←z];exact AA4 _)
 rw[ne,if_neg (by decide)];refine AAA (iter _ _ _ λord d p=>?_);have sz2:(h1.push (plO ord)).objs.size=h1.objs.size+1:=Heap.size_push ..;have up:∀b o,h1.get? b=some o->((h1.push (plO ord)).push (itD h1.objs.size S 0 es.size ep)).get? b=some o:=λb o e=>AAC _ (AAC _ e);have hI:((h1.push (plO ord)).push (itD h1.objs.size S 0 es.size ep)).get? (h1.objs.size+1)=some (itD h1.objs.size S 0 es.size ep):=by
  rw[←sz2];exact AAD _ rfl
 have hT:((h1.push (plO ord)).push (itD h1.objs.size S 0 es.size ep)).get? h1.objs.size=some (plO ord):=AAC _ (AAD _ rfl);generalize (h1.push (plO ord)).push (itD h1.objs.size S 0 es.size ep)=h2 at up hI hT;refine AAA (AAr (Mx (s:={ s with drawn:=d,heap:=h2 }) ⟨_,up _ _ hS,hex.1⟩ ?_));rw[if_pos (by decide +kernel)];refine AAA (wpAny_rule ?_);unfold Builtin.List.listTouch;have hL2:=up _ _ hL
 wp_walk
 have f1:=Heap.get?_update_self (Obj.mapSeq λx=>x.push Value.none) hL2 rfl;have f2:=Heap.get?_update_self (Obj.mapSeq λx=>x.pop) f1 rfl;have far:∀b o,b≠s.heap.objs.size->h2.get? b=some o->((h2.update s.heap.objs.size (Obj.mapSeq λx=>x.push Value.none)).update s.heap.objs.size (Obj.mapSeq λx=>x.pop)).get? b=some o:=λb o hb e=>(Heap.get?_update_other _ _ (Ne.symm hb)).trans ((Heap.get?_update_other _ _ (Ne.symm hb)).trans e);generalize (h2.update s.heap.objs.size (Obj.mapSeq λx=>x.push Value.none)).update s.heap.objs.size (Obj.mapSeq λx=>x.pop)=h3 at f2 far;have n1:S≠h1.objs.size+1:=AAf (by rw[sz];exact AAj (AAj ltS));have n2':h1.objs.size≠h1.objs.size+1:=AAf (Nat.lt_succ_self _);have n3:S≠s.heap.objs.size:=AAf ltS;have n4:h1.objs.size≠s.heap.objs.size:=Nat.ne_of_gt (by rw[sz];exact Nat.lt_succ_self _);have n5:h1.objs.size+1≠s.heap.objs.size:=Nat.ne_of_gt (by rw[sz];exact AAj (Nat.lt_succ_self _));have W:=ZI (prog:=prog) (w:=w) (A:=A.in1) (I:=h1.objs.size+1) (T:=h1.objs.size) (S:=S) (ep:=ep) (by simp[hh]) n1 n2' hd hf p;refine⟨plainId_quiet PySem.F.plain_extend_loop _,codeAny_extend_loopS W.toS (by rw[sizeLine_eq];omega) s.heap.objs.size (by simp[n3.symm,n4.symm,n5.symm]) _ es.size 0 _ #[] _ rfl (AAm _) ⟨far _ _ n5 hI,far _ _ n3 (up _ _ hS),far _ _ n4 hT⟩ f2 (ItemsOf.nil _) λs' acc' c' hm hS' hacc=>?_⟩;dsimp only;refine AAA (wpAny_load hS' (AAB ?_));rw[Moved.eq_with hm];refine q s'.heap s'.toks d acc'.toList (λb o e=>hm.heap b o (λz=>?_) (far _ _ (AAf (Heap.lt_size e)) (up _ _ (old b o e)))) (Ow hacc p);have lt:=Heap.lt_size e;rcases AAJ.mp z with z|z
 ·rw[z] at lt;exact AA4 _ lt
 ·rw[AAL.mp z,sz] at lt;exact absurd lt (Nat.not_lt.mpr (Nat.le_succ_of_le (Nat.le_succ _)))
end
end Xt
set_option maxHeartbeats 2000000
namespace Xt
open PySem PySem.Spec PyProof.Rows Sem L2 Ht
theorem W2{xs:Array Nat}(h:xs.size<=1):Ris xs.toList:=by
 obtain⟨l⟩:=xs
 match l,h with
 |[],_=>exact List.Pairwise.nil
 |[x],_=>exact List.pairwise_singleton _ _
 |_::_::_,h=>simp at h
section
variable{prog:Program}{w:World}{A:Around}{E:Value->Shared->Prop}{s:Shared}
theorem Vb(hh:A.handled=none)(hS:SetT prog w s.heap S ks)(hk:ks.length<=1000)
  (q:∀h' tk d (acc:List Value) ms,(∀b o,s.heap.get? b=some o->h'.get? b=some o)->StrsAre acc ms->ms.Perm ks->R acc { s with heap:=h',toks:=tk,drawn:=d }):wpAny (model prog w) A (collect (.ref S)) R E s:=by
 obtain⟨o,es,ep,t,ho,hex,hd,hel,⟨ns,hen,hp⟩,hfit,hled,hpl⟩:=hS;have hsz:=KY hen hp;have fin:∀h' tk d (acc:List Value),(∀b o,s.heap.get? b=some o->h'.get? b=some o)->acc.Perm (es.toList.map (·.2))->R acc { s with heap:=h',toks:=tk,drawn:=d }:=λh' tk d acc k p=>by
  obtain⟨ms,m1,m2⟩:=Gz p hen;exact q h' tk d acc ms k m1 (m2.trans hp)
 by_cases dr:w.params.followText "set-order" = false/\1<es.size
 ·exact Vc hh ho hex hd hfit dr.1 (hpl (by omega)) dr.2 (by omega) fin
 ·have pz:t.place.size=es.size:=by
   have z:=hfit;unfold SetTable.fits at z;simp only[Bool.and_eq_true,beq_iff_eq] at z;exact z.1
  have T:Wt w t es.size:=by
   refine⟨hfit,λnf=>?_⟩;have le:es.size<=1:=Nat.not_lt.mp λz=>dr ⟨nf,z⟩;exact⟨W2 (by omega),by rw[AAO (by omega)];simp⟩
  refine PySem.W.kdu_collect (A:=A) (Px (S:=S) hex hd T hled) hh ho (by rw[sizeLine_eq];omega) λh1 t1 acc k1 it=>?_;have hacc:acc.toList=(wv w S ep es).toList.map (·.2):=by
   refine List.ext_getElem? λi=>?_;by_cases hi:i<acc.size
   ·obtain⟨e,h1,h2⟩:=it.2 i acc[i] (by simp[hi]);have:acc.toList[i]?=some acc[i]:=by simp[hi]
    rw[this,h2,AAW,Array.getElem?_toList,h1];rfl
   ·have h1:=it.1;have h2:=GD w S ep es;rw[List.getElem?_eq_none (by simp;omega),List.getElem?_eq_none (by simp;omega)]
  exact fin h1 t1 s.drawn acc.toList k1 (by rw[hacc];exact(LO w S ep es).map _)
theorem Ms(hh:A.handled=none)(h64:ks.length<64)(hS:SetT prog w s.heap S ks)
  (q:∀(h1 h':Heap) tk d c (out:Array Value) ms,(∀b o,s.heap.get? b=some o->h1.get? b=some o)->(∀b o,h1.get? b=some o->h'.get? b=some o)->h'.get? h1.objs.size=some (seqObj "list" out c)->StrsAre out.toList ms->ms.Perm ks->sortedS ms=true->Q (.ref h1.objs.size) { s with heap:=h',toks:=tk,drawn:=d }) :
  wpAny (model prog w) A (call (.builtin "sorted") [.ref S]) Q E s:=by
 refine Calls.call_function_entry kind_sorted plain_sorted entry_sorted (args_sorted1 _) ?_;unfold Builtin.«sorted»;refine AAA (AAy (a:=()) rfl ?_);refine AAA (Vb (A:=A.in1) hh hS (by omega) λh1 t1 d acc ms k1 im pm=>?_);have hlen:acc.length<64:=by rw[im.length,pm.length_eq];exact h64
 refine AAA (wpAny_newList ?_ (by rw[sizeLine_eq];omega));have hL:(h1.push (seqObj "list" acc.toArray 0)).get? h1.objs.size=some (seqObj "list" acc.toArray 0):=AAD _ rfl;have kL:∀b o,h1.get? b=some o->(h1.push (seqObj "list" acc.toArray 0)).get? b=some o:=λb o e=>AAC _ e;refine AAA (AAr (AAe slot_list_sort ⟨_,hL,rfl⟩ entry_list_sort (list_sort_treeK strKind_oneLt hL im.keysOf (λv₁ v₂ rest e=>keyKind_strs (by rw[←e];exact im)) hlen λst' hp hs=>⟨_,rfl,?_⟩) (args_list_sort _)));obtain⟨ss',a1,a2,a3⟩:=sorted_out_str im hp hs;obtain⟨c,hc⟩:=sortedHeap_at (out:=(arrOf st').map (·.2)) hL;exact AAB ⟨_,rfl,q h1 _ _ d c _ ss' k1 (λb o e=>by rw[sortedHeap_old (AAf (Heap.lt_size e)) (Heap.lt_size (kL b o e))];exact kL b o e) hc a1 (a2.trans pm) a3⟩
end
abbrev sl(x:Str):List Nat:=x.cps.toList
theorem ZV(h:sl x=sl y):x=y:=by
 obtain⟨⟨a⟩⟩:=x;obtain⟨⟨b⟩⟩:=y;have h:a=b:=h;rw[h]
theorem Tm(h:¬sl x<sl y)(n:x≠y):sl y<sl x:=by
 refine Classical.byContradiction λz=>n (ZV (List.le_antisymm ?_ ?_))
 ·exact List.not_lt.mp z
 ·exact List.not_lt.mp h
def Nh(x:Str):List Str->List Str
 |[]=>[x]
 |y::ys=>if sl x<sl y then x::y::ys else if x=y then y::ys else y::Nh x ys
def ID(xs:List Str):List Str:=xs.foldr Nh []
theorem Jj(x k:Str):∀ys:List Str,k∈Nh x ys↔k=x∨k∈ys
 |[]=>by simp[Nh]
 |y::ys=>by
  unfold Nh;split
  ·simp
  ·split
   ·rename_i e;subst e;simp
   ·rw[AAJ,Jj x k ys,AAJ];constructor<;>(intro z;rcases z with z|z|z<;>simp[z])
theorem Qo(x:Str):∀{ys:List Str},ys.Pairwise (λa b=>sl a<sl b)->(Nh x ys).Pairwise λa b=>sl a<sl b
 |[],_=>by simp[Nh]
 |y::ys,h=>by
  obtain⟨h1,h2⟩:=AA5.mp h;unfold Nh;split
  ·rename_i hx;exact AA5.mpr ⟨λz hz=>(AAJ.mp hz).elim (λe=>e ▸ hx) λm=>List.lt_trans hx (h1 z m),h⟩
  ·rename_i hx;split
   ·exact h
   ·rename_i ne;refine AA5.mpr ⟨λz hz=>?_,Qo x h2⟩;rcases(Jj x z ys).mp hz with rfl|m
    ·exact Tm hx ne
    ·exact h1 z m
theorem Tj(xs:List Str)(k:Str):k∈ID xs↔k∈xs:=by
 unfold ID
 induction xs with
 |nil=>simp
 |cons x xs ih=>rw[List.foldr_cons,Jj,ih,AAJ]
theorem Pw(xs:List Str):(ID xs).Pairwise λa b=>sl a<sl b:=by
 unfold ID
 induction xs with
 |nil=>exact .nil
 |cons x xs ih=>exact Qo x ih
theorem Yf{α:Type}{r:α->α->Prop}(asym:∀x y,r x y->r y x->False):∀{xs ys:List α},xs.Pairwise r->ys.Pairwise r->xs.Perm ys->xs=ys
 |[],ys,_,_,p=>p.nil_eq
 |x::xs,[],_,_,p=>by cases p.length_eq
 |x::xs,y::ys,a,b,p=>by
  obtain⟨a1,a2⟩:=AA5.mp a;obtain⟨b1,b2⟩:=AA5.mp b;have e:x=y:=by
   rcases AAJ.mp (p.mem_iff.mp AAQ) with z|z
   ·exact z
   ·rcases AAJ.mp (p.mem_iff.mpr AAQ) with z2|z2
    ·exact z2.symm
    ·exact(asym x y (a1 y z2) (b1 x z)).elim
  subst e;rw[Yf asym a2 b2 p.cons_inv]
theorem Ya:∀(p:Str) (l:List Str),risingS p l=true->(p::l).Pairwise λa b=>¬sl b<sl a
 |p,[],_=>List.pairwise_singleton _ _
 |p,x::r,h=>by
  have h':(!ltCps x.cps.toList p.cps.toList&&risingS x r)=true:=h;rw[Bool.and_eq_true,ltCps_eq] at h';have h1:¬sl x<sl p:=by simpa using h'.1
  have ih:=Ya x r h'.2;refine AA5.mpr ⟨λz hz=>?_,ih⟩;rcases AAJ.mp hz with rfl|hz
  ·exact h1
  ·have h2:=(AA5.mp ih).1 z hz;exact List.not_lt.mpr (List.le_trans (List.not_lt.mp h1) (List.not_lt.mp h2))
theorem Wn{ms ns:List Str}(nd:ms.Nodup)(hm:∀k,k∈ms↔k∈ns)(h:sortedS ms=true):ms=ID ns:=by
 have up:ms.Pairwise λa b=>¬sl b<sl a:=by
  cases ms with
  |nil=>exact .nil
  |cons p l=>exact Ya p l h
 have lt:ms.Pairwise λa b=>sl a<sl b:=(List.pairwise_and_iff.mpr ⟨up,nd⟩).imp λz=>Tm z.1 (Ne.symm z.2);have nd2:(ID ns).Nodup:=(Pw ns).imp λz e=>by
  rw[e] at z;exact List.lt_irrefl _ z
 refine Yf (λx y a b=>List.lt_irrefl _ (List.lt_trans a b)) lt (Pw ns) ((List.perm_ext_iff_of_nodup nd nd2).mpr λk=>?_);rw[hm,Tj]
theorem On(xs:List Str):(DM xs).Nodup/\∀k,k∈DM xs↔k∈xs:=by
 suffices h:∀(xs ys:List Str),ys.Nodup->(xs.foldl (λys x=>if x∈ys then ys else ys++[x]) ys).Nodup/\∀k,k∈xs.foldl (λys x=>if x∈ys then ys else ys++[x]) ys↔k∈ys∨k∈xs by
  have:=h xs [] List.nodup_nil;exact⟨this.1,λk=>(this.2 k).trans (by simp)⟩
 intro xs
 induction xs with
 |nil=>intro ys nd;exact⟨nd,λk=>by simp⟩
 |cons x xs ih=>
  intro ys nd;rw[List.foldl_cons];by_cases z:x∈ys
  ·rw[if_pos z];obtain⟨a,b⟩:=ih ys nd;refine⟨a,λk=>(b k).trans ?_⟩;rw[AAJ];exact⟨λq=>q.elim .inl λq=>.inr (.inr q),λq=>q.elim .inl λq=>q.elim (λe=>.inl (e ▸ z)) .inr⟩
  ·rw[if_neg z];obtain⟨a,b⟩:=ih (ys++[x]) (List.nodup_append.mpr ⟨nd,by simp,λu hu v hv=>by rw[AAL.mp hv];exact λe=>z (e ▸ hu)⟩);refine⟨a,λk=>(b k).trans ?_⟩;rw[AAK,AAL,AAJ,or_assoc]
end Xt
namespace L2
open PySem PySem.Spec PyProof.Rows Sem Ht Xt
noncomputable def Wr(P:Program)(w:World)(p:Addr)(ks:List Str):HO:=.ext λh=>SetT P w h p ks
theorem Pv:∀{ss:List Str} {us:List Value},Vals (ss.map V.str) us->StrsAre us ss
 |[],us,h=>by cases h;exact .nil
 |s::ss,us,h=>by
  rw[AAX] at h;cases h with
  |cons r h=>
   obtain⟨t,rfl⟩:=r;exact .cons s t (Pv h)
theorem KU:∀{us:List Value} {ss:List Str},StrsAre us ss->Vals (ss.map V.str) us
 |_,_,.nil=>.nil
 |_,_,.cons y t h=>.cons ⟨t,rfl⟩ (KU h)
section
variable{X:Cx}
theorem Inv.draw(I:Inv X pins σ H s)(d:Drawn):Inv X pins σ H { s with drawn:=d }:=⟨I.ok,I.os,I.bare,I.base,I.loc,I.cell,I.free,I.freeC,I.pin,I.hok,I.len⟩
theorem call_setX(hc:X.calm=true):CT X (.type "set") (λxs H Q=>∃a ss,xs=[.ref a]/\SqL X.K H a (ss.map V.str)/\ss.length+1<scanBound/\∀p,H p=none->Q (.ref p) (upd H p (Wr X.prog X.w p (DM ss)))):=by
 intro pins s σ H xs us Q I r h;obtain⟨a,ss,rfl,ha,room,q⟩:=h;obtain⟨u,rfl,ru⟩:=Vals.one r;cases ru;obtain⟨its,rv,pl,hz⟩:=I.list ha;refine Xt.call_setX (I.ok.hd hc) pl.isList (Pv rv) room λh' tk kp hS=>?_;refine⟨.ref s.heap.objs.size,_,I.laid (o:=Wr X.prog X.w s.heap.objs.size (DM ss)) kp (AAF _) ?_,rfl,q _ (I.hok.fresh (AAF _))⟩;obtain⟨o,es,ep,t,e,rest⟩:=id hS;exact⟨hS,⟨o,e⟩,λh1 h2 z k=>z.at k⟩
theorem O7(hc:X.calm=true):CT X (.builtin "sorted") (λxs H Q=>∃p ss,xs=[.ref p]/\H p=some (Wr X.prog X.w p (DM ss))/\(DM ss).length<64/\∀l,H l=none->Q (.ref l) (upd H l (.lst ((ID ss).map V.str)))):=by
 intro pins s σ H xs us Q I r h;obtain⟨p,ss,rfl,hp,h64,q⟩:=h;obtain⟨u,rfl,ru⟩:=Vals.one r;cases ru;obtain⟨hS,_⟩:=I.hok p _ hp;refine Ms (I.ok.hd hc) h64 hS λh1 h' tk d c out ms k1 k2 e1 im pm sm=>?_;obtain⟨nd,mem⟩:=On ss;have em:=Wn (pm.nodup_iff.mpr nd) (λk=>pm.mem_iff.trans (mem k)) sm;subst em;have I1:=I.kept (t':=tk) k1;have rv:=KU im;have I2:=I1.laid (t':=tk) (o:=.lst ((ID ss).map V.str)) k2 (AAF _) ⟨by rw[AAG,pm.length_eq,sizeLine_eq];omega,out.toList,c,rv,e1⟩;exact⟨.ref h1.objs.size,_,I2.draw d,rfl,q _ (I1.hok.fresh (AAF _))⟩
end
end L2
namespace Mi
open PySem L2 Ht Xt
noncomputable def FT(d:D):M D:=bnd (Bo d) λds=>λμ=>match GH ds with
 |some ss=>if ss.length<=1000/\(DM ss).length<64 then some (.lst ((ID ss).map D.str),μ) else none
 |none=>none
theorem Nd:∀ss:List Str,IsL K ι k H (ss.map D.str) (ss.map V.str)
 |[]=>IsL.nil
 |n::r=>by
  rw[AAX,AAX];unfold IsL;exact⟨_,_,rfl,ofS _,Nd r⟩
section
variable{X:Cx}{e:Expr}{pos p p2 pos2:Pos}
theorem M9(yl:X.mg "sorted" = none)(ys:X.mg "set" = none)(he:RE X e m)(hc:X.calm=true:=by rfl)(hgl:Gl X "sorted" := by rfl)(hgs:Gl X "set" := by rfl)(hst:EU e=false:=by rfl):
  RE X (.Call (.Name "sorted" p) [.Call (.Name "set" p2) [e] [] pos2] [] pos) (mUn FT m):=by
 have hs:PE X (.Call (.Name "set" p2) [e] [] pos2) _:=D7 (call_setX hc) hgs ys Mi.N8 (EQ he.pe F3 (Ak hst)) (by decide) (by decide) (Ak hst) rfl;refine RE.wk (JQ (O7 hc) hgl yl PyProof.Rows.boot_sorted (EQ hs F3 (Ak rfl)) (by decide) (by decide) (Ak rfl) rfl) λσ H Q h=>?_;obtain⟨ι,μ,τ,d,μ',R,S,ev,q⟩:=h;obtain⟨x,μ1,e1,e2⟩:=AI ev;obtain⟨ds,μ2,e3,e4⟩:=AI e2;refine⟨ι,μ,τ,x,μ1,R,S,e1,λι1 H1 E1 R1 v1 i1=>?_⟩;obtain⟨hm,a,vs,rfl,h1,h2⟩:=B6 R1 i1 e3;subst hm;cases hx:GH ds with
 |none=>rw[hx] at e4;cases e4
 |some ss=>
  rw[hx] at e4;have e5:(if ss.length<=1000/\(DM ss).length<64 then some (D.lst ((ID ss).map D.str),μ2) else none)=some (d,μ'):=e4;split at e5
  ·rename_i room;cases e5;have ev:=Mq h2 hx;subst ev;refine⟨a,ss,rfl,h1,by unfold scanBound;omega,λp hp=>?_⟩;obtain⟨E2,R2⟩:=R1.laid (Wr X.prog X.w p (DM ss)) hp;exact⟨p,ss,rfl,BK,room.2,λl hl=>Qd R2 (Nd _) (λι' H' E' R'=>q ι' H' ((E1.trans E2).trans E') R') l hl⟩
  ·cases e5
end
end Mi
namespace Mi
open PySem L2
end Mi
namespace L2
open PySem PySem.Spec PyProof.Rows Sem
abbrev Gs(TI TO T:Addr)(b:Bool):Obj:={ cls:=.type "zip",data:=.fields #[rawInt T,.bool b,.bool false,.ref TI,.ref TO] }
section
variable{prog:Program}{w:World}{A:Around}{E:Value->Shared->Prop}{s:Shared}
theorem Vn(ho:s.heap.get? a=some o)(h:Q (some o) s):wpAny (model prog w) A (PySem.loadIfAlive a) Q E s:=λΓ p _=>by
 unfold PySem.loadIfAlive;rw[wp_loadIfAlive,ho];exact h
theorem NI{z TI TO T:Addr}{b:Bool}(hz:s.heap.get? z=some (Gs TI TO T b))(hT:s.heap.get? T=some oT)
  (q:∀h',h'.get? z=some (Gs TI TO T true)->Heap.SameBut z s.heap h'->Q false { s with heap:=h' }):wpAny (model prog w) A (Builtin.SmallTypes.ownedTupleIsFree (.ref z)) Q E s:=by
 unfold Builtin.SmallTypes.ownedTupleIsFree;refine AAA (m:=field (.ref z) 0) (AAz hz rfl (x:=rawInt T) rfl ?_);refine AAA (Vn (o:=oT) (by show s.heap.get? ((T:Int)).toNat=some oT;rw[Int.toNat_natCast];exact hT) ?_);refine BH (by simp) ?_;refine AAA (m:=field (.ref z) 1) (AAz hz rfl (x:=.bool b) rfl ?_);cases b with
 |false=>
  rw[if_pos (by decide)];refine AAA (AAs hz (by simp) λh1 z1 b1=>AAB ?_);exact q h1 z1 b1
 |true=>
  rw[if_neg (by decide)];refine AAB ?_;exact q s.heap hz ⟨rfl,λ_ _=>rfl⟩
theorem Q1{z TI TO T i1 i2:Addr}{n k:Nat}{b:Bool}{oT:Obj}{f1 f2:List Addr}{Q:Value->Shared->Prop}(ap:Dt z TI TO i1 i2 f1 f2)
  (D1:Draws prog w A.in1 i1 f1 n P1 S1) (D2:Draws prog w A.in1 i2 f2 n P2 S2) (hk:k<n)
  (hz:s.heap.get? z=some (Gs TI TO T b)) (hT:s.heap.get? T=some oT) (hI:TwoAt s.heap TI (.ref i1) (.ref i2)) (s1:S1 k s.heap) (s2:S2 k s.heap)
  (q:∀x y U h' tk,P1 k x->P2 k y->s.heap.objs.size<=U->h'.IsTuple U #[x,y]->h'.get? z=some (Gs TI TO T true)->S1 (k+1) h'->S2 (k+1) h'->(∀c o,c≠z->c≠i1->c≠i2->s.heap.get? c=some o->h'.get? c=some o)->Q (.ref U) { s with heap:=h',toks:=tk }) :
  wpAny (model prog w) A.in1 (Builtin.«zip.__next__» ⟨[.ref z],[]⟩) (λfin s'=>∃v,fin=.done (.ret v)/\Q v s') E s:=by
 obtain⟨nI,eI⟩:=id hI;refine AAA (m:=field (.ref z) 2) (AAz hz rfl (x:=.bool false) rfl ?_);refine AAA (m:=field (.ref z) 3) (AAz hz rfl (x:=.ref TI) rfl ?_);refine AAA (m:=seqItems? (.ref TI)) (AA0 eI rfl ?_);refine BH (by simp) ?_;refine AAA (NI hz hT λh1 z1 b1=>?_);rw[if_neg (by decide)];have k1:∀c o,c≠z->s.heap.get? c=some o->h1.get? c=some o:=λc o hc e=>(b1.2 c hc).trans e;have s11:=D1.frame _ _ h1 s1 λc hc o e=>k1 c o (λy=>ap.z1 (y ▸ hc)) e;have s21:=D2.frame _ _ h1 s2 λc hc o e=>k1 c o (λy=>ap.z2 (y ▸ hc)) e;have ne1:∀{c:Addr},c∉f1->c≠i1:=λhc y=>hc (y ▸ ap.m1);have ne2:∀{c:Addr},c∉f2->c≠i2:=λhc y=>hc (y ▸ ap.m2);refine AAA (m:=forIn (#[Value.ref i1,Value.ref i2]:Array Value) _ _) ?_;rw[←Array.forIn_toList];show wpAny _ _ (forIn [Value.ref i1,Value.ref i2] _ _) _ _ _;rw[List.forIn_cons];refine AAA (AAA (AAr (AAA (D1.item k { s with heap:=h1 } _ _ hk s11 λx h2 t2 px s12 b2=>AAB (AAB ?_)))));have k2:∀c o,c≠i1->h1.get? c=some o->h2.get? c=some o:=λc o hc e=>(b2.2 c hc).trans e;have z2:=k2 z _ (ne1 ap.z1) z1;have s22:=D2.frame _ _ h2 s21 λc hc o e=>k2 c o (λy=>ap.x12 (y ▸ hc)) e;show wpAny _ _ (forIn [Value.ref i2] _ _) _ _ _;rw[List.forIn_cons];refine AAA (AAA (AAr (AAA (D2.item k { s with heap:=h2,toks:=t2 } _ _ hk s22 λy h4 t4 py s24 b4=>AAB (AAB ?_)))));have k4:∀c o,c≠i2->h2.get? c=some o->h4.get? c=some o:=λc o hc e=>(b4.2 c hc).trans e;have z4:=k4 z _ (ne2 ap.z2) z2;have s14:=D1.frame _ _ h4 s12 λc hc o e=>k4 c o (λy=>ap.x21 (y ▸ hc)) e;show wpAny _ _ (forIn [] _ _) _ _ _;rw[List.forIn_nil];refine AAB ?_;refine AAA (wpAny_newTuple (AAB ⟨_,rfl,?_⟩) (by simp[sizeLine]));have kp:∀c o,h4.get? c=some o->(h4.push { cls:=.type "tuple",data:=.seq #[x,y] }).get? c=some o:=λc o e=>AAC _ e;have sz:h4.objs.size=s.heap.objs.size:=by rw[b4.1,b2.1,b1.1]
 exact q x y h4.objs.size _ t4 px py (by rw[sz];exact AAF _) ⟨_,AAD _ rfl,rfl,0,rfl⟩ (kp z _ z4) (D1.frame _ _ _ s14 λc _ o e=>kp c o e) (D2.frame _ _ _ s24 λc _ o e=>kp c o e) λc o c1 c2 c3 e=>kp c o (k4 c o c3 (k2 c o c2 (k1 c o c1 e)))
theorem Sc{z TI TO T i1 i2:Addr}{n:Nat}{b:Bool}{oT:Obj}(ap:Dt z TI TO i1 i2 f1 f2)(D1:Draws prog w A.in1 i1 f1 n P1 S1)
  (hz:s.heap.get? z=some (Gs TI TO T b)) (hT:s.heap.get? T=some oT) (hI:TwoAt s.heap TI (.ref i1) (.ref i2)) (s1:S1 n s.heap)
  (q:∀h' e,(∀c o,c≠z->c≠i1->s.heap.get? c=some o->h'.get? c=some o)->(∃o,h'.get? e=some o/\o.cls=.type "StopIteration")->E (.ref e) { s with heap:=h' }) :
  wpAny (model prog w) A.in1 (Builtin.«zip.__next__» ⟨[.ref z],[]⟩) Q E s:=by
 obtain⟨nI,eI⟩:=id hI;refine AAA (m:=field (.ref z) 2) (AAz hz rfl (x:=.bool false) rfl (AAA (m:=field (.ref z) 3) (AAz hz rfl (x:=.ref TI) rfl (AAA (m:=seqItems? (.ref TI)) (AA0 eI rfl ?_)))));refine BH (by simp) (AAA (NI hz hT λh1 z1 b1=>?_));rw[if_neg (by decide)];have s11:=D1.frame _ _ h1 s1 λc hc o e=>(b1.2 c (λy=>ap.z1 (y ▸ hc))).trans e;refine AAA (m:=forIn (#[Value.ref i1,Value.ref i2]:Array Value) _ _) ?_;rw[←Array.forIn_toList];show wpAny _ _ (forIn [Value.ref i1,Value.ref i2] _ _) _ _ _;rw[List.forIn_cons];refine AAA (AAA (AAr (AAA (D1.done { s with heap:=h1 } _ _ s11 λh2 e eb so=>?_))));exact q h2 e (λc o c1 c2 x=>eb c o c2 ((b1.2 c c1).trans x)) so
end
section
variable{prog:Program}{w:World}{A:Around}{E:Value->Shared->Prop}{s:Shared}
theorem OG:typeLookup (.type "zip") "keys" = pure none:=by rw[typeLookup_type,builtinLookup_eq_fast];kernel_rfl
theorem OH:typeLookup (.type "zip") "__getattr__" = pure none:=by rw[typeLookup_type,builtinLookup_eq_fast];kernel_rfl
theorem Q2:entryFor table "zip.__getattribute__" = some Builtin.«object.__getattribute__»:=entryFor_alias (id' := "object.__getattribute__") (by kernel_rfl) (by decide +kernel) (by decide +kernel) (by kernel_rfl)
theorem SZ(z:Addr)(fs:Array Value)(u:Tok):Meets (Builtin.«object.__getattribute__» ⟨[.ref z,.str "keys" u],[]⟩) (λA R s=>s.heap.get? z=some { cls:=.type "zip",data:=.fields fs }/\raisesAttr (.ref z) "keys" A R s):=
 .of_wp λprog w A R s ⟨hz,q⟩=>by
  have ty:s.TypeIs (.ref z) "zip" := ⟨_,hz,rfl⟩;obtain⟨hp,gs,dr,tk,os⟩:=s;have no:=OG;unfold Builtin.«object.__getattribute__»
  wp_walk
  refine AAy no ?_
  wp_walk
  exact wpAny_raiseAttrError q.1 q.2 (by decide +kernel)
theorem Sa(there:s.heap.get? z=some { cls:=.type "zip",data:=.fields fs })(calm:A.handled=none)
  (q:∀h' n,(∀b o,s.heap.get? b=some o->h'.get? b=some o)->Q none { s with heap:=h',toks:=n }):wpAny (model prog w) A (getAttr? (.ref z) "keys") Q E s:=by
 unfold getAttr? getAttrBy?;refine AAA (wpAny_mkText (AAA (AA1 ?_)));unfold getAttrBy;refine AAr (AAA (wpAny_typeOf (T := "zip") ⟨_,there,rfl⟩ ?_));refine AAA (AAy F.slot_zip_getattribute.lookup ?_);show wpAny _ _ (getAttrByItsOwn _ _ (.type "zip") _ false false) _ _ _;unfold getAttrByItsOwn;refine AAA (m:=hookBefore (.type "zip")) (AAB (AAA (AA1 (AAr ?_))));show wpAny _ _ (boundAndCalled _ _ _) _ _ _;unfold boundAndCalled;refine AAA (AAy (F.slot_zip_getattribute.bind (.ref z)) ?_);refine call_meets F.slot_zip_getattribute ⟨_,there,rfl⟩ Q2 (F.args_zip_getattribute_2 _ _) (SZ z fs _) ⟨there,calm,λh' n e new=>?_⟩;obtain⟨_,_,oe⟩:=new.there;unfold getattributeRaised;refine AAA (AA2 (T := "AttributeError") (b:=true) ⟨_,oe,rfl⟩ sub_AttributeError ?_);refine AAA (m:=hookBehind (.type "zip") none) (AAy OH (wpAny_throw ?_));exact AAA (AA2 (T := "AttributeError") (b:=true) ⟨_,oe,rfl⟩ sub_AttributeError (AAB (q h' n new.of.keeps)))
def ZOn(h:Heap)(z TI TO i1 i2:Addr):Prop:=TwoAt h TI (.ref i1) (.ref i2)/\((h.get? z=some (CJ TI TO .none)/\∃a b,TwoAt h TO a b)∨∃T b oT,h.get? z=some (Gs TI TO T b)/\h.get? T=some oT/\T≠TO/\T≠i1/\T≠i2/\T≠z)
theorem Sb{z TI TO i1 i2:Addr}{n k:Nat}{P1 P2:Nat->Value->Prop}(ap:Dt z TI TO i1 i2 f1 f2)
  (D1:Draws prog w A.in1 i1 f1 n P1 S1) (D2:Draws prog w A.in1 i2 f2 n P2 S2) (hk:k<n) (hz:ZOn s.heap z TI TO i1 i2) (s1:S1 k s.heap) (s2:S2 k s.heap)
  (q:∀x y U h' tk,P1 k x->P2 k y->s.heap.objs.size<=U->h'.IsTuple U #[x,y]->ZOn h' z TI TO i1 i2->S1 (k+1) h'->S2 (k+1) h'->(∀c o,c≠z->c≠TO->c≠i1->c≠i2->s.heap.get? c=some o->h'.get? c=some o)->Q (some (.ref U)) { s with heap:=h',toks:=tk }) :
  wpAny (model prog w) A (pyNext (.ref z)) Q E s:=by
 obtain⟨hI,⟨h0,a,b,hO⟩|⟨T,b,oT,h0,hT,t1,t2,t3,t4⟩⟩:=hz
 ·have ty:s.TypeIs (.ref z) "zip" := ⟨_,h0,rfl⟩;obtain⟨o1,e1⟩:=D1.live _ _ s1;obtain⟨o2,e2⟩:=D2.live _ _ s2;obtain⟨n3,e3⟩:=id hO;unfold pyNext;refine AAA (AA1 (wpAny_callSpecial?_slot (name:=Str.ofString "__next__") ty F.slot_zip_next (AAe F.slot_zip_next ty F.entry_zip_next (MQ ap D1 D2 hk h0 hI hO s1 s2 λx y U h' tk px py hU tup b1 b2 b3 b4 b5 kp=>?_) (F.args_zip_next_1 _))));have lt:∀{c:Addr} {o:Obj},s.heap.get? c=some o->U≠c:=λe=>Nat.ne_of_gt (AAN (Heap.lt_size e) hU);obtain⟨oU,eU,_⟩:=id tup;exact AAB (q x y U h' tk px py hU tup ⟨b2,.inr ⟨U,false,oU,b1,eU,lt e3,lt e1,lt e2,lt h0⟩⟩ b4 b5 kp)
 ·have ty:s.TypeIs (.ref z) "zip" := ⟨_,h0,rfl⟩;unfold pyNext;refine AAA (AA1 (wpAny_callSpecial?_slot (name:=Str.ofString "__next__") ty F.slot_zip_next (AAe F.slot_zip_next ty F.entry_zip_next (Q1 ap D1 D2 hk h0 hT hI s1 s2 λx y U h' tk px py hU tup b1 b4 b5 kp=>?_) (F.args_zip_next_1 _))));exact AAB (q x y U h' tk px py hU tup ⟨hI.keep λo e=>kp TI o ap.zTI.symm ap.n1 ap.n2 e,.inr ⟨T,true,oT,b1,kp T oT t4 t2 t3 hT,t1,t2,t3,t4⟩⟩ b4 b5 λc o c1 _ c3 c4 e=>kp c o c1 c3 c4 e)
theorem SY{z TI TO i1 i2:Addr}{n:Nat}{P1:Nat->Value->Prop}(ap:Dt z TI TO i1 i2 f1 f2)
  (D1:Draws prog w A.in1 i1 f1 n P1 S1) (hz:ZOn s.heap z TI TO i1 i2) (s1:S1 n s.heap) (q:∀h',(∀c o,c≠z->c≠i1->s.heap.get? c=some o->h'.get? c=some o)->Q none { s with heap:=h' }) :
  wpAny (model prog w) A (pyNext (.ref z)) Q E s:=by
 obtain⟨hI,⟨h0,a,b,hO⟩|⟨T,b,oT,h0,hT,_⟩⟩:=hz
 ·have ty:s.TypeIs (.ref z) "zip" := ⟨_,h0,rfl⟩;unfold pyNext;refine AAA (AA1 (wpAny_callSpecial?_slot (name:=Str.ofString "__next__") ty F.slot_zip_next (AAe F.slot_zip_next ty F.entry_zip_next (MP ap D1 h0 hI hO s1 λh' e kp so=>?_) (F.args_zip_next_1 _))));obtain⟨o,ho,hc⟩:=so;exact AAA (AA2 (T := "StopIteration") (b:=true) ⟨o,ho,hc⟩ isSubtype_stop (AAB (q h' kp)))
 ·have ty:s.TypeIs (.ref z) "zip" := ⟨_,h0,rfl⟩;unfold pyNext;refine AAA (AA1 (wpAny_callSpecial?_slot (name:=Str.ofString "__next__") ty F.slot_zip_next (AAe F.slot_zip_next ty F.entry_zip_next (Sc ap D1 h0 hT hI s1 λh' e kp so=>?_) (F.args_zip_next_1 _))));obtain⟨o,ho,hc⟩:=so;exact AAA (AA2 (T := "StopIteration") (b:=true) ⟨o,ho,hc⟩ isSubtype_stop (AAB (q h' kp)))
end
section
variable{prog:Program}{w:World}{A:Around}{R:Result->Shared->Prop}
theorem Nx(hA:A.handled=none){d z TI TO i1 i2:Addr}{n:Nat}(ap:Dt z TI TO i1 i2 f1 f2)(D1:∀A:Around,A.handled=none->Draws prog w A i1 f1 n P1 S1)(D2:∀A:Around,A.handled=none->Draws prog w A i2 f2 n P2 S2)
  (dz:d≠z) (dI:d≠TI) (dO:d≠TO) (d1:d∉f1) (d2:d∉f2) :
  ∀(more:List (Key×Value)) (k:Nat) (j:Int) (s:Shared) (kvs:List (Key×Value)),k+more.length=n->kvs.length+more.length<=sizeLine->ZOn s.heap z TI TO i1 i2->S1 k s.heap->S2 k s.heap->s.heap.DictOf (BJ prog w) d kvs->
   (∀(m:Nat) (key:Key) (v:Value),more[m]?=some (key,v)->∀x y,P1 (k+m) x->P2 (k+m) y->(BJ prog w).is key x=true/\y=v)->
   (∀s',s'.heap.DictOf (BJ prog w) d (merged kvs more)->(∀b o,b≠d->b≠z->b≠TO->b≠i1->b≠i2->s.heap.get? b=some o->s'.heap.get? b=some o)->s'.gens=s.gens->s'.drawn=s.drawn->s'.os=s.os->R (.ok (.ret .none)) s')->
   codeAny (model prog w) A (.builtin "dict.update.loop" ⟨[.ref d,.ref z,rawInt j,.none],[]⟩) R s
 |[],k,j,s,kvs,hn,hz,on,s1,s2,hd,hp,fin=>by
  refine codeAny_builtin Es ?_;unfold Builtin.«dict.update.loop»;show wpAny _ _ (pyNext (.ref z) >>= _) _ _ s;have kn:k=n:=by simpa using hn
  subst kn;have di1:d≠i1:=λe=>d1 (e ▸ ap.m1);refine AAA (SY ap (D1 _ hA) on s1 λh' eb=>?_);dsimp only;refine AAA (AAy (show Builtin.Dict.addKeywords d []=Pure.pure () from rfl) ?_);exact AAB (fin _ (hd.at λo e=>eb d o dz di1 e) (λb o _ b1 _ b2 _ e=>eb b o b1 b2 e) rfl rfl rfl)
 |(key,v)::more,k,j,s,kvs,hn,hz,on,s1,s2,hd,hp,fin=>by
  have hn':k+(more.length+1)=n:=hn;have hz':kvs.length+(more.length+1)<=sizeLine:=hz;have di1:d≠i1:=λe=>d1 (e ▸ ap.m1);have di2:d≠i2:=λe=>d2 (e ▸ ap.m2);refine codeAny_builtin Es ?_;unfold Builtin.«dict.update.loop»;show wpAny _ _ (pyNext (.ref z) >>= _) _ _ s;refine AAA (Sb ap (D1 _ hA) (D2 _ hA) (by omega) on s1 s2 λx y U h' tk px py hU tup on' s1' s2' kp=>?_);dsimp only;obtain⟨hkey,rfl⟩:=hp 0 key v rfl x y px py;have hd':h'.DictOf (BJ prog w) d kvs:=hd.at λo e=>kp d o dz dO di1 di2 e;refine AAA (AAr (AAA (wpAny_tryCatch ?_)));unfold Builtin.Dict.pairItems;obtain⟨o,ho,hc,m,hdat⟩:=id tup;refine AAA (wpAny_typeOf (T := "tuple") ⟨o,ho,hc⟩ ?_);rw[if_pos (by decide)];refine AAA ?_;unfold seqItems?;refine AAA (wpAny_load ho ?_);rw[hdat];refine AAB (AAB ?_);show wpAny _ _ (holding [x,y] (dictSet d x y)) _ _ _;refine AAr (wpAny_dictSet_pairs hkey hd' (λh2 hd2 sb2=>?_) (by omega));refine AAB ⟨Em _,?_⟩;have k2:∀b o,b≠d->h'.get? b=some o->h2.get? b=some o:=λb o h1 e=>(sb2.2 b h1).trans e;have lt:∀{c:Addr} {o:Obj},s.heap.get? c=some o->U≠c:=λe=>Nat.ne_of_gt (AAN (Heap.lt_size e) hU);have on2:ZOn h2 z TI TO i1 i2:=by
   obtain⟨a1,a2⟩:=on';refine⟨a1.keep λo e=>k2 TI o dI.symm e,?_⟩;rcases a2 with ⟨b1,b2,b3,b4⟩|⟨T,b,oT,c1,c2,c3,c4,c5,c6⟩
   ·exact .inl ⟨k2 z _ dz.symm b1,b2,b3,b4.keep λo e=>k2 TO o dO.symm e⟩
   ·by_cases hTd:T=d
    ·subst hTd;obtain⟨o',_,_,e',_⟩:=hd2;exact .inr ⟨T,b,o',k2 z _ dz.symm c1,e',c3,c4,c5,c6⟩
    ·exact .inr ⟨T,b,oT,k2 z _ dz.symm c1,k2 T oT hTd c2,c3,c4,c5,c6⟩
  refine Nx hA ap D1 D2 dz dI dO d1 d2 more (k+1) (j+1) _ (stored kvs key y) (by omega) ?_ on2 ((D1 _ hA).frame _ _ h2 s1' λc hc o e=>k2 c o (λz=>d1 (z ▸ hc)) e) ((D2 _ hA).frame _ _ h2 s2' λc hc o e=>k2 c o (λz=>d2 (z ▸ hc)) e) hd2 ?_ ?_
  ·have:=stored_length_le kvs key y;omega
  ·intro m key' v' e x' y' p1 p2;have e2:k+1+m=k+(m+1):=by omega
   rw[e2] at p1 p2;exact hp (m+1) key' v' (by simpa using e) x' y' p1 p2
  ·intro s' g1 g2 g3 g4 g5;exact fin s' g1 (λb o h1 h2' h3 h4 h5 e=>g2 b o h1 h2' h3 h4 h5 (k2 b o h1 (kp b o h2' h3 h4 h5 e))) g3 g4 g5
end
end L2
namespace L2
open PySem PySem.Spec PyProof.Rows
theorem U3:∀{ks:List Key} {ys:List V} {its jts:List Value},Vals (ks.map kV) its->Vals ys jts->KV (ks.zip ys) (ks.zip jts)
 |[],_,_,_,_,_=>by rw[List.zip_nil_left,List.zip_nil_left];exact .nil
 |_::_,[],_,_,_,r=>by cases r;rw[List.zip_nil_right,List.zip_nil_right];exact .nil
 |k::ks,y::ys,_,_,r,r2=>by
  rw[AAX] at r;cases r with
  |cons a r=>
   cases r2 with
   |cons b r2=>
    rw[List.zip_cons_cons,List.zip_cons_cons];exact .cons ⟨rfl,b⟩ (U3 r r2)
theorem far(n:Nat):n+5≠n+4/\n+5≠n+2/\n+5≠n+3/\n+5≠n/\n+5≠n+1:=by omega
theorem aZ(n l:Nat)(h:l<n):n+5≠l:=by omega
theorem VJ(n c:Nat)(h:c<n):c≠n+5/\c≠n+4/\c≠n+3/\c≠n/\c≠n+1:=by omega
section
variable{X:Cx}
theorem XX(hc:X.calm=true)(hgd:Gl X "dict")(hmd:X.mg "dict" = none)(hg:Gl X "zip")(hm:X.mg "zip" = none)(ha:PA X [a,b] ta)(hs:starEach [a,b] X.env=(false,eval a X.env)::starEach [b] X.env)(hpl:(backTo pos2 (starEach [b] X.env)).any (·.1)=false):
  PE X (.Call (.Name "dict" p) [.Call (.Name "zip" p2) [a,b] [] pos2] [] pos) (λσ H Q=>ta σ H λvs H1=>∃(l m:Addr) (ks:List Key) (ys:List V),vs=[.ref l,.ref m]/\SqL X.K H1 l (ks.map kV)/\SqT X.K H1 m ys/\ys.length=ks.length/\ks.length<=1000/\∀q,H1 q=none->Q (.ref q) (upd H1 q (.dK (DT [] (ks.zip ys))))):=by
 intro pins s σ H Q I h;refine wpAny_Call_Name_kw (FN I hgd hmd Mi.SO ?_);refine PyProof.Rows.callWith_type1 ?_ (Mi.Ak rfl) rfl;rw[Mi.Ak (show Mi.EU (.Call (.Name "zip" p2) [a,b] [] pos2)=false from rfl)];show wpAny _ _ (spliced ((false,eval (.Call (.Name "zip" p2) [a,b] [] pos2) X.env)::[])) _ _ s;refine Calls.spliced_cons (wpAny_Call_Name_kw (FN I hg hm N7 (PyProof.Rows.callWith_type1 (thn (ha pos2 pins s σ H _ I h) λus s1 ⟨vs,H1,I1,r1,q1⟩=>?_) hs hpl)));obtain⟨l,m,ks,ys,ev,hx,hy,hl,h1000,q⟩:=q1;subst ev;obtain⟨u1,u2,eu,ru1,ru2⟩:=Vals.two r1;subst eu;cases ru1;cases ru2;obtain⟨its,rx,px,_⟩:=I1.list hx;obtain⟨jts,ry,py,_⟩:=I1.tuple hy;have px:=px.isList;have ltl:l<s1.heap.objs.size:=by obtain⟨o,e,_⟩:=px;exact Heap.lt_size e
 have ltm:m<s1.heap.objs.size:=by obtain⟨o,e,_⟩:=py;exact Heap.lt_size e
 have new:=PU (.ref l) (.ref m) { cls:=.type "list_iterator",data:=.fields #[.ref l,.int 0 0] } { cls:=.type "tuple_iterator",data:=.fields #[.ref m,.int 0 0] } (λh=>h.IsList l its.toArray) (λh=>h.IsTuple m jts.toArray) (λh x=>x.push _) (λ_ _ _ _ _ _ g z=>wpAny_pyIter_list g z) (λ_ _ _ _ _ _ g z=>wpAny_pyIter_tuple g z);refine callType_new F.called_zip (by decide) (F.typeCall_zip_2 _ _) (F.newCall_zip_2 _ _) (λobj=>F.args_object_init_3 obj _ _) F.entry_zip_new new ⟨px,py,?_⟩;generalize ho1:({ cls:=.type "list_iterator",data:=.fields #[.ref l,.int 0 0] }:Obj)=o1;generalize ho2:({ cls:=.type "tuple_iterator",data:=.fields #[.ref m,.int 0 0] }:Obj)=o2;have n1:(s1.heap.push o1).objs.size=s1.heap.objs.size+1:=Heap.size_push ..;have n2:(zh2 s1.heap o1 o2).objs.size=s1.heap.objs.size+2:=by rw[Heap.size_push,n1]
 have n3:((zh2 s1.heap o1 o2).push (EG (.ref s1.heap.objs.size) (.ref (s1.heap.push o1).objs.size))).objs.size=s1.heap.objs.size+3:=by rw[Heap.size_push,n2]
 have n4:(zh4 s1.heap o1 o2).objs.size=s1.heap.objs.size+4:=by rw[Heap.size_push,n3]
 have n5:(zh5 s1.heap o1 o2).objs.size=s1.heap.objs.size+5:=by rw[Heap.size_push,n4]
 have kp:∀c o,s1.heap.get? c=some o->(zh5 s1.heap o1 o2).get? c=some o:=λc o e=>AAC _ (AAC _ (AAC _ (AAC _ (AAC _ e))));have f1:o1.isFreed=false:=by rw[←ho1];rfl
 have f2:o2.isFreed=false:=by rw[←ho2];rfl
 have a1:(zh5 s1.heap o1 o2).get? s1.heap.objs.size=some o1:=AAC _ (AAC _ (AAC _ (AAC _ (AAD _ f1))));have a2:(zh5 s1.heap o1 o2).get? (s1.heap.objs.size+1)=some o2:=by rw[←n1];exact AAC _ (AAC _ (AAC _ (AAD _ f2)))
 have a3:(zh5 s1.heap o1 o2).get? (s1.heap.objs.size+2)=some (EG (.ref s1.heap.objs.size) (.ref (s1.heap.objs.size+1))):=by
  rw[←n1,←n2];exact AAC _ (AAC _ (AAD _ rfl))
 have a4:(zh5 s1.heap o1 o2).get? (s1.heap.objs.size+3)=some (EG .none .none):=by
  rw[←n3];exact AAC _ (AAD _ rfl)
 have a5:(zh5 s1.heap o1 o2).get? (s1.heap.objs.size+4)=some (CJ (s1.heap.objs.size+2) (s1.heap.objs.size+3) .none):=by
  rw[←n4,←n2,←n3];exact AAD _ rfl
 show _/\_;rw[n4];refine⟨⟨_,a5,rfl⟩,Calls.spliced_nil ?_⟩;generalize zh5 s1.heap o1 o2=G at n5 kp a1 a2 a3 a4 a5;generalize hN:s1.heap.objs.size=N at n5 a1 a2 a3 a4 a5 ltl ltm;refine callType_codes (Q₁:=λobj s₁=>obj=.ref (N+5)/\s₁={ s1 with heap:=G.push { cls:=.type "dict",data:=.dict #[] } }) PySem.F.kt_called_dict (PySem.F.kt_typeCall_dict_1 _) PySem.F.entry_dict_init (PySem.kt_code_dict_new _ ⟨by rw[←n5],rfl⟩) ?_;rintro obj s₁ ⟨rfl,rfl⟩;have hnew:(G.push { cls:=.type "dict",data:=.dict #[] }).DictOf (BJ X.prog X.w) (N+5) []:=by rw[←n5];exact Heap.DictOf.new G
 refine⟨hnew.typeIs,PySem.F.args_dict_init_2 _ _,?_⟩;unfold Builtin.«dict.__init__»;refine AAA ?_;unfold Builtin.Dict.selfAndRest;refine AAA (wpAny_notOrdered_dict hnew.typeIs ?_);show wpAny _ _ (pure (N+5,[Value.ref (N+4)])) _ _ _;refine AAB ?_;show wpAny _ _ (Builtin.Dict.updateFrom "dict.__init__" (N+5) (.ref (N+4)) [] .none) _ _ _;unfold Builtin.Dict.updateFrom;have kg:∀c o,G.get? c=some o->(G.push { cls:=.type "dict",data:=.dict #[] }).get? c=some o:=λc o e=>AAC _ e;refine AAA (wpAny_typeOf (T := "zip") ⟨_,kg _ _ a5,rfl⟩ ?_);dsimp only;rw[if_pos (by decide)];refine AAA (Sa (kg _ _ a5) (show X.A.handled=none from I1.ok.hd hc) λh' tk kk=>?_);rw[if_pos (show (none:Option Value).isNone=true from rfl)];have kk':∀c o,G.get? c=some o->h'.get? c=some o:=λc o e=>kk c o (kg c o e);have hd':h'.DictOf (BJ X.prog X.w) (N+5) []:=hnew.at λo e=>kk _ o e;refine AAA (wpAny_rule (AAA (GC (kk' _ _ a5) ?_)));refine AAB ⟨Em _,?_⟩;have ap:=zap N l m ltl ltm;have l1:its.toArray.size=ks.length:=by rw[List.size_toArray];have:=rx.length;rw[AAG] at this;exact this.symm
 have l2:jts.toArray.size=ks.length:=by rw[List.size_toArray,←hl];exact ry.length.symm
 refine Nx (prog:=X.prog) (w:=X.w) (A:=X.A.in1) (n:=ks.length) (show X.A.handled=none from I1.ok.hd hc) ap (λA hA=>l1 ▸ Draws.list (prog:=X.prog) (w:=X.w) hA N l (AAf ltl) its.toArray) (λA hA=>l2 ▸ FZ (prog:=X.prog) (w:=X.w) hA (N+1) m (AAf (AAj ltm)) jts.toArray)
  (far N).1 (far N).2.1 (far N).2.2.1 (nin (far N).2.2.2.1 (aZ N l ltl)) (nin (far N).2.2.2.2 (aZ N m ltm)) (ks.zip jts) 0 0 _ [] ?_ ?_ ⟨⟨0,kk' _ _ a3⟩,.inl ⟨kk' _ _ a5,_,_,0,kk' _ _ a4⟩⟩ ⟨⟨o1,kk' _ _ a1,by rw[←ho1],by rw[←ho1];rfl⟩,by obtain⟨o,e,r⟩:=px;exact⟨o,kk' _ _ (kp _ _ e),r⟩⟩ ⟨⟨o2,kk' _ _ a2,by rw[←ho2],by rw[←ho2];rfl⟩,by obtain⟨o,e,r⟩:=py;exact⟨o,kk' _ _ (kp _ _ e),r⟩⟩ hd' ?_ ?_
 ·rw[List.length_zip,Nat.zero_add];rw[List.size_toArray] at l2;omega
 ·have:=G3 (n:=ks.length) h1000;rw[List.length_zip,List.length_nil];omega
 ·intro i key v e x y e1 e2;rw[Nat.zero_add] at e1 e2;have hz:=List.getElem?_zip_eq_some.mp e;have ek:(ks.map kV)[i]?=some (kV key):=by rw[AAW,hz.1];rfl
  obtain⟨u,g1,g2⟩:=rx.get ek;have e1':its[i]?=some x:=by simpa using e1
  rw[e1'] at g1;cases g1;have e2':jts[i]?=some y:=by simpa using e2
  rw[hz.2] at e2';cases e2';exact⟨Na g2,rfl⟩
 ·intro s' g1 g2 g3 g4 g5;obtain⟨hh,g,dr,tk',os⟩:=s';cases g3;cases g4;cases g5;have hb:((N+5:Nat)==sysModules)=false:=AAg.mpr (by have:=I1.big;rw[hN] at this;exact aZ N sysModules this);refine⟨rfl,.ref (N+5),_,I1.laid (t':=tk') (a:=N+5) (λc o e=>?_) (by rw[hN];exact Nat.le_add_right _ _) (Js ?_ hb (KV.merge (U3 rx ry) .nil) g1),rfl,q _ (I1.hok.fresh (by rw[hN];exact Nat.le_add_right _ _))⟩
  ·have lt:=Heap.lt_size e;rw[hN] at lt;exact g2 c o (VJ N c lt).1 (VJ N c lt).2.1 (VJ N c lt).2.2.1 (VJ N c lt).2.2.2.1 (VJ N c lt).2.2.2.2 (kk' c o (kp c o e))
  ·have h1:=Do (ks.zip ys) [];have h2:=G3 h1000;rw[List.length_zip,List.length_nil] at h1;omega
end
end L2
namespace Pk
open PySem PySem.Spec PyProof.Rows L2 Mi PySem.MeetsSeq PySem.SeqAt
noncomputable instance:DecidableEq D:=λ_ _=>Classical.propDecidable _
mutual
def draws:D->Nat
 | .tup ks=>HU ks+1
 |_=>1
def HU:List D->Nat
 |[]=>0
 |k::ks=>draws k+HU ks
end
mutual
def At(h:Heap):D->Value->Prop
 | .non,v=>v=.none
 | .int i,v=>∃t,v=.int i t
 | .str x,v=>∃t,v=.str x t
 | .tup ks,v=>∃a o items n,v=.ref a/\h.get? a=some o/\o.cls=.type "tuple" /\ o.data=.seq items n/\Ats h ks items.toList
 |_,_=>False
def Ats(h:Heap):List D->List Value->Prop
 |[],vs=>vs=[]
 |k::ks,vs=>∃v vs',vs=v::vs'/\At h k v/\Ats h ks vs'
end
theorem PF(a:At h .non v):v=.none:=by unfold At at a;exact a
theorem MI(a:At h (.int i) v):∃t,v=.int i t:=by unfold At at a;exact a
theorem MH(a:At h (.str x) v):∃t,v=.str x t:=by unfold At at a;exact a
theorem GA(a:At h (.tup ks) v):∃a o items n,v=.ref a/\h.get? a=some o/\o.cls=.type "tuple" /\ o.data=.seq items n/\Ats h ks items.toList:=by unfold At at a;exact a
theorem At.shape:∀{k:D},At h k v->(k=.non/\v=.none)∨(∃i t,k=.int i/\v=.int i t)∨(∃x t,k=.str x/\v=.str x t)∨∃ks a,k=.tup ks/\v=.ref a
 | .non,a=>.inl ⟨rfl,PF a⟩
 | .int i,a=>.inr (.inl ⟨i,(MI a).choose,rfl,(MI a).choose_spec⟩)
 | .str i,a=>.inr (.inr (.inl ⟨i,(MH a).choose,rfl,(MH a).choose_spec⟩))
 | .tup ks,a=>.inr (.inr (.inr (by obtain⟨x,_,_,_,e,_⟩:=GA a;exact⟨ks,x,rfl,e⟩)))
 | .bl _,a | .ty _,a | .scr _,a | .lst _,a | .ref _,a=>by unfold At at a;exact a.elim
mutual
theorem At.inj:∀{k j:D} {v:Value},At h k v->At h j v->k=j
 | .tup ks,j,v,a,b=>by
  rcases b.shape with ⟨rfl,e⟩|⟨i,t,rfl,e⟩|⟨x,t,rfl,e⟩|⟨js,y,rfl,e⟩
  ·obtain⟨_,_,_,_,e2,_⟩:=GA a;rw[e] at e2;cases e2
  ·obtain⟨_,_,_,_,e2,_⟩:=GA a;rw[e] at e2;cases e2
  ·obtain⟨_,_,_,_,e2,_⟩:=GA a;rw[e] at e2;cases e2
  ·obtain⟨x,o,items,n,rfl,h1,_,h3,h4⟩:=GA a;obtain⟨x',o',items',n',e',h1',_,h3',h4'⟩:=GA b;cases e';rw[h1] at h1';cases h1';rw[h3] at h3';cases h3';rw[Ats.inj h4 h4']
 | .non,j,v,a,b=>by
  cases PF a;rcases b.shape with ⟨rfl,e⟩|⟨i,t,rfl,e⟩|⟨x,t,rfl,e⟩|⟨js,y,rfl,e⟩<;>first|rfl|cases e
 | .int i,j,v,a,b=>by
  obtain⟨t,rfl⟩:=MI a;rcases b.shape with ⟨rfl,e⟩|⟨i,t,rfl,e⟩|⟨x,t,rfl,e⟩|⟨js,y,rfl,e⟩
  ·cases e
  ·injection e with e1 _;rw[e1]
  ·cases e
  ·cases e
 | .str i,j,v,a,b=>by
  obtain⟨t,rfl⟩:=MH a;rcases b.shape with ⟨rfl,e⟩|⟨i,t,rfl,e⟩|⟨x,t,rfl,e⟩|⟨js,y,rfl,e⟩
  ·cases e
  ·cases e
  ·injection e with e1 _;rw[e1]
  ·cases e
 | .bl _,_,_,a,_ | .ty _,_,_,a,_ | .scr _,_,_,a,_ | .lst _,_,_,a,_ | .ref _,_,_,a,_=>by unfold At at a;exact a.elim
theorem Ats.inj:∀{ks js:List D} {vs:List Value},Ats h ks vs->Ats h js vs->ks=js
 |[],[],_,_,_=>rfl
 |[],_::_,vs,a,b=>by
  unfold Ats at a b;subst a;obtain⟨_,_,e,_⟩:=b;cases e
 |_::_,[],vs,a,b=>by
  unfold Ats at a b;subst b;obtain⟨_,_,e,_⟩:=a;cases e
 |k::ks,j::js,vs,a,b=>by
  unfold Ats at a b;obtain⟨v,vs',rfl,a1,a2⟩:=a;obtain⟨v',vs'',e,b1,b2⟩:=b;cases e;rw[At.inj a1 b1,Ats.inj a2 b2]
end
mutual
theorem At.kept:∀{k:D} {v:Value},At h k v->(∀a o items n,h.get? a=some o->o.cls=.type "tuple" -> o.data=.seq items n->h'.get? a=some o)->At h' k v
 | .non,v,a,_ | .int i,v,a,_ | .str i,v,a,_=>by unfold At at a ⊢;exact a
 | .tup ks,v,a,kp=>by
  unfold At at a ⊢;obtain⟨x,o,items,n,rfl,h1,h2,h3,h4⟩:=a;exact⟨x,o,items,n,rfl,kp x o items n h1 h2 h3,h2,h3,Ats.kept h4 kp⟩
 | .bl _,_,a,_ | .ty _,_,a,_ | .scr _,_,a,_ | .lst _,_,a,_ | .ref _,_,a,_=>by unfold At at a;exact a.elim
theorem Ats.kept:∀{ks:List D} {vs:List Value},Ats h ks vs->(∀a o items n,h.get? a=some o->o.cls=.type "tuple" -> o.data=.seq items n->h'.get? a=some o)->Ats h' ks vs
 |[],vs,a,_=>by unfold Ats at a ⊢;exact a
 |k::ks,vs,a,kp=>by
  unfold Ats at a ⊢;obtain⟨v,vs',rfl,a1,a2⟩:=a;exact⟨v,vs',rfl,At.kept a1 kp,Ats.kept a2 kp⟩
end
section
variable{prog:Program}{w:World}
theorem R7(hu:A.units<cLine)(q:Q 0xFCA86420 { s with toks:=s.toks+1 }):wpAny (model prog w) A (pyHash .none) Q E s:=by
 show wpAny _ _ (pyHashByItsType .none) Q E s;refine PySem.W.pyHash_slot (T := "NoneType") rfl F.slot_NoneType_hash F.entry_NoneType_hash (F.args_NoneType_hash_1 _) (beq_builtin_none _) (.inr hu) (AAA (AAB ?_));refine AAA (wpAny_mkInt (AAB ⟨0xFCA86420,_,rfl,?_⟩));exact q
mutual
theorem At.hash:∀{k:D} {v:Value} {A:Around} {E:Value->Shared->Prop} {s:Shared} {Q:Int->Shared->Prop},A.units+Cm k<cLine->At s.heap k v->Q (hD w k) { s with toks:=s.toks+draws k }->wpAny (model prog w) A (pyHash v) Q E s
 | .non,v,A,E,s,Q,hu,hk,q=>by
  unfold At at hk;subst hk;exact R7 (by omega) q
 | .int i,v,A,E,s,Q,hu,hk,q=>by
  unfold At at hk;obtain⟨t,rfl⟩:=hk;exact wpAny_pyHash_int q
 | .str i,v,A,E,s,Q,hu,hk,q=>by
  unfold At at hk;obtain⟨t,rfl⟩:=hk;exact wpAny_pyHash_str q
 | .tup ks,v,A,E,s,Q,hu,hk,q=>by
  unfold At at hk;obtain⟨a,o,items,n,rfl,h1,h2,h3,h4⟩:=hk;have hu':A.units+(Bg ks+1)<cLine:=hu;refine Nk.hash_tup (hs:=hDs w ks) (d:=HU ks) (by omega) h1 h2 h3 (λP p=>?_) q;exact Ats.hash (A:=A.in1) (by show A.units+1+Bg ks<cLine;omega) h4 (acc:=#[]) (by simpa using p)
 | .bl _,_,_,_,_,_,_,a,_ | .ty _,_,_,_,_,_,_,a,_ | .scr _,_,_,_,_,_,_,a,_ | .lst _,_,_,_,_,_,_,a,_ | .ref _,_,_,_,_,_,_,a,_=>by unfold At at a;exact a.elim
theorem Ats.hash:∀{ks:List D} {vs:List Value} {A:Around} {E:Value->Shared->Prop} {s:Shared} {acc:Array Int} {P:Array Int->Shared->Prop},A.units+Bg ks<cLine->Ats s.heap ks vs->P (acc++(hDs w ks).toArray) { s with toks:=s.toks+HU ks }->
  wpAny (model prog w) A (forIn vs acc λx r=>do let y ←pyHash x;pure (ForInStep.yield (r.push y))) P E s
 |[],vs,A,E,s,acc,P,hu,hk,q=>by
  unfold Ats at hk;subst hk;rw[List.forIn_nil];exact AAB (by simpa[hDs,HU] using q)
 |k::ks,vs,A,E,s,acc,P,hu,hk,q=>by
  unfold Ats at hk;obtain⟨v,vs',rfl,a1,a2⟩:=hk;rw[List.forIn_cons];have hu':A.units+max (Cm k) (Bg ks)<cLine:=hu;refine AAA (AAA (At.hash (by omega) a1 (AAB ?_)));refine Ats.hash (by omega) (s:={ s with toks:=s.toks+draws k }) a2 ?_;simpa[hDs,HU,Nat.add_assoc] using q
end
end
theorem Ats.len:∀{ks:List D} {vs:List Value},Ats h ks vs->vs.length=ks.length
 |[],_,a=>by unfold Ats at a;subst a;rfl
 |k::ks,_,a=>by
  unfold Ats at a;obtain⟨v,vs',rfl,_,a2⟩:=a;simp[Ats.len a2]
noncomputable def Je(ks js:List D)(j:Nat):Bool:=decide (ks[j]?=js[j]?)
theorem Rt:((List.range (min ks.length js.length)).all (Je ks js)&&ks.length==js.length)=decide (D.tup ks=D.tup js):=by
 by_cases e:ks=js
 ·subst e;rw[AAP rfl,beq_self_eq_true,Bool.and_true,List.all_eq_true];intro j _;exact AAP rfl
 ·rw[AAO (λz=>e (by cases z;rfl))];by_cases hl:ks.length=js.length
  ·rw[beq_iff_eq.mpr hl,Bool.and_true,←Bool.not_eq_true];intro z;rw[List.all_eq_true] at z;refine e (List.ext_getElem? λj=>?_);by_cases hj:j<ks.length
   ·exact of_decide_eq_true (z j (List.mem_range.mpr (by omega)))
   ·rw[List.getElem?_eq_none (by omega),List.getElem?_eq_none (by omega)]
  ·rw[AAg.mpr hl,Bool.and_false]
theorem Qj(a:At h (.tup ks) v):∃x items,v=.ref x/\h.IsTuple x items:=by
 unfold At at a;obtain⟨x,o,items,n,rfl,h1,h2,h3,_⟩:=a;exact⟨x,items,rfl,o,h1,h2,n,h3⟩
mutual
theorem At.eq:∀{k j:D} {u v:Value} {A:Around} {s:Shared},A.units+Cm k<cLine->At s.heap k u->At s.heap j v->EqAt A s u v (decide (k=j))
 | .non,j,u,v,A,s,hu,a,b=>by
  have hu':A.units<cLine:=AAu (Nat.le_add_right _ _) hu;unfold At at a;subst a;cases j with
  |non=>unfold At at b;subst b;rw[AAP rfl];exact EqAt.same _
  |int i=>unfold At at b;obtain⟨t,rfl⟩:=b;rw[AAO (by intro z;cases z)];exact EqAt.none_int i t
  |str i=>unfold At at b;obtain⟨t,rfl⟩:=b;rw[AAO (by intro z;cases z)];exact EqAt.none_str i t
  |tup ks=>obtain⟨x,its,rfl,h⟩:=Qj b;rw[AAO (by intro z;cases z)];exact EqAt.none_tuple h hu'
  |_=>unfold At at b;exact b.elim
 | .int i,j,u,v,A,s,hu,a,b=>by
  have hu':A.units<cLine:=AAu (Nat.le_add_right _ _) hu;unfold At at a;obtain⟨t,rfl⟩:=a;cases j with
  |non=>unfold At at b;subst b;rw[AAO (by intro z;cases z)];exact EqAt.int_none i t
  |int j=>
   unfold At at b;obtain⟨t',rfl⟩:=b;have:decide (D.int i=D.int j)=(i==j):=by
    by_cases e:i=j
    ·subst e;simp
    ·rw[AAO (λz=>e (by cases z;rfl)),AAg.mpr e]
   rw[this];exact EqAt.int_int i t j t'
  |str j=>unfold At at b;obtain⟨t',rfl⟩:=b;rw[AAO (by intro z;cases z)];exact EqAt.int_str i t j t'
  |tup ks=>obtain⟨x,its,rfl,h⟩:=Qj b;rw[AAO (by intro z;cases z)];exact EqAt.int_tuple i t h hu'
  |_=>unfold At at b;exact b.elim
 | .str i,j,u,v,A,s,hu,a,b=>by
  have hu':A.units<cLine:=AAu (Nat.le_add_right _ _) hu;unfold At at a;obtain⟨t,rfl⟩:=a;cases j with
  |non=>unfold At at b;subst b;rw[AAO (by intro z;cases z)];exact EqAt.str_none i t
  |str j=>
   unfold At at b;obtain⟨t',rfl⟩:=b;have:decide (D.str i=D.str j)=(i==j):=by
    by_cases e:i=j
    ·subst e;simp
    ·rw[AAO (λz=>e (by cases z;rfl)),AAg.mpr e]
   rw[this];exact EqAt.str_str i t j t'
  |int j=>unfold At at b;obtain⟨t',rfl⟩:=b;rw[AAO (by intro z;cases z)];exact EqAt.str_int i t j t'
  |tup ks=>obtain⟨x,its,rfl,h⟩:=Qj b;rw[AAO (by intro z;cases z)];exact EqAt.str_tuple i t h hu'
  |_=>unfold At at b;exact b.elim
 | .tup ks,j,u,v,A,s,hu,a,b=>by
  have hu0:A.units<cLine:=AAu (Nat.le_add_right _ _) hu;obtain⟨x0,its0,e0,h0⟩:=Qj a;cases j with
  |non=>unfold At at b;subst b e0;rw[AAO (by intro z;cases z)];exact EqAt.tuple_none h0 hu0
  |int j=>unfold At at b;obtain⟨t',rfl⟩:=b;subst e0;rw[AAO (by intro z;cases z)];exact EqAt.tuple_int j t' h0 hu0
  |str j=>unfold At at b;obtain⟨t',rfl⟩:=b;subst e0;rw[AAO (by intro z;cases z)];exact EqAt.tuple_str j t' h0 hu0
  |tup js=>
   have a':=a;have b':=b;unfold At at a b;obtain⟨x,o,items,n,rfl,h1,h2,h3,h4⟩:=a;obtain⟨y,o',items',n',rfl,h1',h2',h3',h4'⟩:=b;have hu':A.units+(Bg ks+1)<cLine:=hu;by_cases e:x=y
   ·subst e;rw[At.inj a' b',AAP rfl];exact EqAt.same _
   ·rw[←Rt];have l1:=h4.len;have l2:=h4'.len;rw[Array.length_toList] at l1 l2;rw[←l1,←l2];refine EqAt.of_refs e (RcAt.tuples ⟨o,h1,h2,n,h3⟩ ⟨o',h1',h2',n',h3'⟩ (by omega) λj g1 g2=>?_);have:=Ats.eqs (A:=A.in1) (by show A.units+1+Bg ks<cLine;omega) h4 h4' j (by simpa using g1) (by simpa using g2);simpa using this
  |_=>unfold At at b;exact b.elim
 | .bl _,_,_,_,_,_,_,a,_ | .ty _,_,_,_,_,_,_,a,_ | .scr _,_,_,_,_,_,_,a,_ | .lst _,_,_,_,_,_,_,a,_ | .ref _,_,_,_,_,_,_,a,_=>by unfold At at a;exact a.elim
theorem Ats.eqs:∀{ks js:List D} {us vs:List Value} {A:Around} {s:Shared},A.units+Bg ks<cLine->Ats s.heap ks us->Ats s.heap js vs->∀(j:Nat) (h1:j<us.length) (h2:j<vs.length),EqAt A s us[j] vs[j] (Je ks js j)
 |[],js,us,vs,A,s,hu,a,b,j,h1,h2=>by unfold Ats at a;subst a;simp at h1
 |k::ks,[],us,vs,A,s,hu,a,b,j,h1,h2=>by unfold Ats at b;subst b;simp at h2
 |k::ks,l::js,us,vs,A,s,hu,a,b,j,h1,h2=>by
  unfold Ats at a b;obtain⟨u,us',rfl,a1,a2⟩:=a;obtain⟨v,vs',rfl,b1,b2⟩:=b;have hu':A.units+max (Cm k) (Bg ks)<cLine:=hu;cases j with
  |zero=>
   have:=At.eq (k:=k) (j:=l) (A:=A) (by omega) a1 b1;have e:Je (k::ks) (l::js) 0=decide (k=l):=by unfold Je;simp
   rw[e];exact this
  |succ j=>
   have:=Ats.eqs (A:=A) (by omega) a2 b2 j (by simpa using h1) (by simpa using h2);have e:Je (k::ks) (l::js) (j+1)=Je ks js j:=by unfold Je;simp
   rw[e];simpa using this
end
section
variable{prog:Program}{w:World}
theorem At.quiet:∀(d:Nat) {k:D} {v:Value} {A:Around} {E:Value->Shared->Prop} {s:Shared} {Q:Bool->Shared->Prop},Cm k<=d->At s.heap k v->Q true s->wpAny (model prog w) A (eqIsQuiet d v) Q E s
 |d,.non,v,A,E,s,Q,hd,a,q=>by
  cases PF a;unfold eqIsQuiet;exact AAB q
 |d,.int i,v,A,E,s,Q,hd,a,q=>by
  obtain⟨t,rfl⟩:=MI a;unfold eqIsQuiet;exact AAB q
 |d,.str i,v,A,E,s,Q,hd,a,q=>by
  obtain⟨t,rfl⟩:=MH a;unfold eqIsQuiet;exact AAB q
 |0,.tup ks,v,A,E,s,Q,hd,a,q=>by
  have hd':Bg ks+1<=0:=hd;omega
 |d'+1,.tup ks,v,A,E,s,Q,hd,a,q=>by
  have hd':Bg ks+1<=d'+1:=hd;obtain⟨x,o,items,n,rfl,h1,h2,h3,h4⟩:=GA a;have hT:s.TypeIs (.ref x) "tuple" := ⟨o,h1,h2⟩;unfold eqIsQuiet;refine AAA (wpAny_specialOf hT PySem.F.slot_tuple_eq.lookup ?_);show wpAny _ _ (isInstance (.ref x) (.type "tuple") >>= _) _ _ s;refine AAA (AA2 hT isSubtype_tuple_tuple ?_);simp only[Bool.not_true,Bool.false_eq_true,if_false];refine AAA (AA0 h1 h3 (AAA ?_));show wpAny _ _ (forIn items _ _) _ _ s;rw[←Array.forIn_toList];refine wpAny_forIn_list _ (λrest r s'=>r.1=none/\s'=s/\∃ks',Bg ks'<=d'/\Ats s.heap ks' rest) _ ?_ ?_ _ _ ⟨rfl,rfl,ks,by omega,h4⟩
  ·rintro y rest r s' ⟨hr,rfl,ks',hk,at'⟩;cases ks' with
   |nil=>unfold Ats at at';cases at'
   |cons k' ks'=>
    unfold Ats at at';obtain⟨_,_,e,a1,a2⟩:=at';cases e;have hk':max (Cm k') (Bg ks')<=d':=hk;refine AAA (At.quiet d' (k:=k') (by omega) a1 ?_);simp only[Bool.not_true,Bool.false_eq_true,if_false];exact AAB ⟨rfl,rfl,ks',by omega,a2⟩
  ·rintro⟨r1,r2⟩ s' ⟨hr,rfl,_⟩;simp only at hr;subst hr;exact AAB q
 |_,.bl _,_,_,_,_,_,_,a,_|_,.ty _,_,_,_,_,_,_,a,_|_,.scr _,_,_,_,_,_,_,a,_|_,.lst _,_,_,_,_,_,_,a,_|_,.ref _,_,_,_,_,_,_,a,_=>by unfold At at a;exact a.elim
end
noncomputable def kind(prog:Program)(w:World):HeapKind prog w D where
 is:=λh k a=>At h k (.ref a)/\Cm k<=8
 hash:=hD w
 draws:=draws
 room:=λA=>A.units+8<cLine
 inj:=λhx hy=>hx.1.inj hy.1
 keeps:=λ{h h' k a d o es ep} x ho hd hs=>⟨x.1.kept λb o' items n e _ e3=>by
  have hne:b≠d:=by
   intro z;subst z;rw[ho] at e;cases e;rw[hd] at e3;cases e3
  exact(hs.2 b hne).trans e,x.2⟩
 pyHash:=λhu hk h=>At.hash (by have:=hk.2;omega) hk.1 h
 eqBool:=λ{A E s x y a b Q} hu hx hy h=>At.eq (by have:=hx.2;omega) hx.1 hy.1 _ _ E Q h
 quiet:=λhk h=>At.quiet 8 hk.2 hk.1 h
section
variable{X:Cx}{pins:List (Addr×Obj)}{σ:L2.St}{H:Hp}{s:Shared}{ι:Nat->Addr}{k:Nat}
mutual
theorem Vm(I:Inv X pins σ H s):∀{d:D} {v:V} {u:Value},Kz d=true->Is X.K ι k H d v->RelV v u->At s.heap d u
 | .non,v,u,_,i,r=>by unfold Is at i;subst i;unfold At;exact r
 | .int _,v,u,_,i,r=>by unfold Is at i;subst i;unfold At;exact r
 | .str _,v,u,_,i,r=>by unfold Is at i;subst i;unfold At;exact r
 | .tup ds,v,u,z,i,r=>by
  unfold Is at i;obtain⟨p,vs,rfl,h1,h2⟩:=i;cases r;obtain⟨its,rv,⟨o,g1,g2,n,g3⟩,_⟩:=I.tuple h1;unfold At;exact⟨p,o,_,n,rfl,g1,g2,g3,MG I z h2 rv⟩
 | .bl _,_,_,z,_,_ | .ty _,_,_,z,_,_ | .scr _,_,_,z,_,_ | .lst _,_,_,z,_,_ | .ref _,_,_,z,_,_=>by cases z
theorem MG(I:Inv X pins σ H s):∀{ds:List D} {vs:List V} {us:List Value},KzL ds=true->Mi.IsL X.K ι k H ds vs->Vals vs us->Ats s.heap ds us
 |[],vs,us,_,i,r=>by unfold Mi.IsL at i;subst i;cases r;unfold Ats;rfl
 |d::ds,vs,us,z,i,r=>by
  unfold Mi.IsL at i;obtain⟨v,vs',rfl,i1,i2⟩:=i;cases r with
  |cons e t=>
   unfold KzL at z;rw[Bool.and_eq_true] at z;unfold Ats;exact⟨_,_,rfl,Vm I z.1 i1 e,MG I z.2 i2 t⟩
end
theorem isP(I:Inv X pins σ H s)(z:Kz d=true)(hd:Cm d<=8)(i:Is X.K ι k H d (.ref a)):(kind X.prog X.w).is s.heap d a:=⟨Vm I z i rfl,hd⟩
end
noncomputable def Ex(l:List (D×Addr×V))(us:List Value):List (D×Addr×Value):=(l.zip us).map λx=>(x.1.1,x.1.2.1,x.2)
theorem PX(h:l.length=us.length):(Ex l us).map (·.1)=l.map (·.1):=by
 unfold Ex;rw[List.map_map];have:((λy:D×Addr×Value=>y.1) ∘ λx:(D×Addr×V)×Value=>(x.1.1,x.1.2.1,x.2))=(λy:D×Addr×V=>y.1) ∘ Prod.fst:=rfl;rw[this,←List.map_map,List.map_fst_zip (by omega)]
theorem Gj(h:l.length=us.length):(atKey (Ex l us) c).isSome=l.any λy=>decide (y.1=c):=by
 have e:(atKey (Ex l us) c).isSome=((Ex l us).map (·.1)).any λy=>decide (y=c):=by
  unfold atKey;rw[Option.isSome_map,List.any_map];rw[Bool.eq_iff_iff,List.find?_isSome,List.any_eq_true];rfl
 rw[e,PX h,List.any_map];rfl
theorem cR(hk:HOk P w H h)(e:H p=some (Et w' p l)):∃(us:List Value) (o:Obj) (es:Array DictEntry) (ep:Nat),Vals (l.map (·.2.2)) us/\h.get? p=some o/\o.ExactDict/\o.data=.dict es ep /\
  es.toList=(l.zip us).map (λx=>{ key:=.ref x.1.2.1,hash:=hD w' x.1.1,val:=x.2 })/\(l.map (·.1)).Nodup/\l.length<=sizeLine/\(p==sysModules)=false:=(hk p _ e).1
theorem Yu (x:∃(us:List Value) (o:Obj) (es:Array DictEntry) (ep:Nat),Vals (l.map (·.2.2)) us/\h.get? p=some o/\o.ExactDict/\o.data=.dict es ep /\
  es.toList=(l.zip us).map (λx=>{ key:=.ref x.1.2.1,hash:=hD w' x.1.1,val:=x.2 })/\(l.map (·.1)).Nodup/\l.length<=sizeLine/\(p==sysModules)=false):ObjOk P w H h p (Et w' p l):=by
 refine⟨x,?_,?_⟩
 ·obtain⟨us,o,es,ep,_,h1,_⟩:=x;exact⟨o,h1⟩
 ·rintro h1 h2 ⟨us,o,es,ep,a1,a2,a3⟩ k;exact⟨us,o,es,ep,a1,k o a2,a3⟩
theorem cS(hl:l.length=us.length)(h1:h.get? p=some o)(h2:o.ExactDict)(h3:o.data=.dict es ep)
  (h4:es.toList=(l.zip us).map (λx=>{ key:=.ref x.1.2.1,hash:=hD w x.1.1,val:=x.2 })) (h5:(l.map (·.1)).Nodup) (hi:∀y∈l,(kind P w).is h y.1 y.2.1):h.DictOfH (kind P w) p (Ex l us):=by
 refine⟨o,es,ep,h1,h2,h3,?_,?_,?_⟩
 ·rw[h4];unfold Ex;rw[List.map_map];rfl
 ·intro x hx;unfold Ex at hx;obtain⟨y,hy,rfl⟩:=AAM.mp hx;exact hi y.1 (List.of_mem_zip (a:=y.1) (b:=y.2) hy).1
 ·rw[PX hl];exact h5
end Pk
namespace Mi
open PySem L2 Pk
section
variable{K:PySem.W.Frag}{ι:Nat->Addr}{k:Nat}{H:Hp}
theorem PVs.keys:∀{l:List (D×D)} {r:List (D×Addr×V)},PVs K ι k H l r->r.map (·.1)=l.map (·.1)
 |[],_,h=>by cases h;rfl
 |(y,d)::l,_,h=>by
  obtain⟨a,v,r',rfl,_,_,h3⟩:=h;rw[AAX,AAX,PVs.keys h3]
theorem PVs.at:∀{l:List (D×D)} {r:List (D×Addr×V)},PVs K ι k H l r->∀y∈r,Kz y.1=true/\Cm y.1<=8/\Is K ι k H y.1 (.ref y.2.1)
 |[],_,h,y,hy=>by cases h;cases hy
 |(z,d)::l,_,h,y,hy=>by
  obtain⟨a,v,r',rfl,h1,_,h3⟩:=h;rcases AAJ.mp hy with rfl|hy
  ·exact h1
  ·exact PVs.at h3 y hy
theorem PVs.app(h1:Kz c=true/\Cm c<=8/\Is K ι k H c (.ref a))(h2:Is K ι k H d v):∀{l:List (D×D)} {r:List (D×Addr×V)},PVs K ι k H l r->PVs K ι k H (l++[(c,d)]) (r++[(c,a,v)])
 |[],_,h=>by cases h;exact⟨a,v,[],rfl,h1,h2,rfl⟩
 |(z,e)::l,_,h=>by
  obtain⟨b,w,r',rfl,g1,g2,g3⟩:=h;exact⟨b,w,_,rfl,g1,g2,PVs.app h1 h2 g3⟩
noncomputable def Ik(l:List (D×D))(c:D):Option D:=(l.find? λz=>decide (z.1=c)).map (·.2)
theorem PVs.val:∀{l:List (D×D)} {r:List (D×Addr×V)} {d:D} {us:List Value},PVs K ι k H l r->Vals (r.map (·.2.2)) us->Ik l c=some d->∃v u p,Is K ι k H d v/\RelV v u/\atKey (Ex r us) c=some (p,u)
 |[],_,d,us,h,_,e=>by cases e
 |(z,x)::l,_,d,us,h,vs,e=>by
  obtain⟨b,v,r',rfl,g1,g2,g3⟩:=h;rw[AAX] at vs;cases vs with
  |@cons _ u _ us' rv t=>
   by_cases hz:z=c
   ·subst hz;have:d=x:=by simpa[Ik] using e.symm
    subst this;exact⟨v,u,b,g2,rv,by simp[atKey,Ex]⟩
   ·have e':Ik l c=some d:=by simpa[Ik,hz] using e
    obtain⟨v',u',p,i1,i2,i3⟩:=PVs.val g3 t e';refine⟨v',u',p,i1,i2,?_⟩;simpa[atKey,Ex,hz] using i3
end
theorem LL{α β:Type}{l:List (D×α)}{r:List (D×β)}(h:r.map (·.1)=l.map (·.1))(c:D):(r.any λy=>decide (y.1=c))=l.any λy=>decide (y.1=c):=by
 have e1:(r.any λy=>decide (y.1=c))=(r.map (·.1)).any λy=>decide (y=c):=by rw[List.any_map];rfl
 have e2:(l.any λy=>decide (y.1=c))=(l.map (·.1)).any λy=>decide (y=c):=by rw[List.any_map];rfl
 rw[e1,e2,h]
open Classical in
noncomputable def J4(w:World):D->M (Nat×List (D×D))
 | .ref n=>λμ=>match μ[n]? with
  |some (.dP w' l)=>if w'=w then some ((n,l),μ) else none
  |_=>none
 |_=>BG
theorem Ha(R:RelH K ι μ H)(i:Is K ι μ.length H d v)(e:J4 w d μ=some (r,μ')):μ'=μ/\d=.ref r.1/\μ[r.1]?=some (.dP w r.2)/\v=.ref (ι r.1)/\∃kvs,H (ι r.1)=some (Et w (ι r.1) kvs)/\PVs K ι μ.length H r.2 kvs:=by
 cases d with
 |ref n=>
  unfold J4 at e;dsimp only at e;split at e
  ·rename_i w' l hq;split at e
   ·rename_i hw;subst hw;cases e;unfold Is at i;obtain⟨u,h1,kvs,rfl,h2⟩:=R.obj n _ hq;exact⟨rfl,rfl,hq,i.2,kvs,h1,h2⟩
   ·cases e
  ·cases e
 |_=>cases e
section
variable{X:Cx}{e o i:Expr}{pos pos':Pos}
noncomputable def QU(w:World):Sl->M D:=λ_ μ=>some (.ref μ.length,μ++[.dP w []])
theorem Ud:PE X (.Dict [] [] pos) (λ_ H Q=>∀p,H p=none->Q (.ref p) (upd H p (Et w p []))):=λpins s σ H Q I h=>
 wpAny_Dict_empty ⟨.ref s.heap.objs.size,_,I.laid (a:=s.heap.objs.size) (o:=Et w s.heap.objs.size []) (t':=s.toks) (λ_ _ q=>AAC _ q) (AAF _)
  (Yu ⟨[],_,#[],0,.nil,AAD _ rfl,⟨rfl,rfl,rfl⟩,rfl,rfl,List.nodup_nil,AAm _,AAg.mpr (Ne.symm (AAf I.big))⟩),rfl,h _ (I.hok.fresh (AAF _))⟩
theorem NA:RE X (.Dict [] [] pos) (QU w):=RE.wk (Ud (w:=w)) λσ H Q h=>by
 obtain⟨ι,μ,τ,d,μ',R,S,e,q⟩:=h;cases e;intro p hp;obtain⟨ι',E1,R1,e0⟩:=R.grown (m:=.dP w []) (o:=Et w p []) hp ⟨[],rfl,rfl⟩;exact q ι' _ E1 R1 _ (by unfold Is;exact⟨by simp,by rw[e0]⟩)
theorem QC(hr:Room k X.A):(Pk.kind X.prog X.w).room X.A.in1:=by
 have:=hr.units;show X.A.units+1+8<cLine;omega
theorem Jv(I:Inv X pins σ H s)(h:H p=some (Et X.w p l))(hi:∀y∈l,Kz y.1=true/\Cm y.1<=8/\Is X.K ι k H y.1 (.ref y.2.1)):
  ∃us,l.length=us.length/\Vals (l.map (·.2.2)) us/\s.heap.DictOfH (Pk.kind X.prog X.w) p (Ex l us)/\(l.map (·.1)).Nodup/\l.length<=sizeLine/\(p==sysModules)=false:=by
 obtain⟨us,o,es,ep,h0,h1,h2,h3,h4,h5,h6,h7⟩:=cR I.hok h;have hl:l.length=us.length:=by have:=h0.length;simpa using this
 exact⟨us,hl,h0,cS hl h1 h2 h3 h4 h5 λy hy=>isP I (hi y hy).1 (hi y hy).2.1 (hi y hy).2.2,h5,h6,h7⟩
noncomputable def Dp(d:D):Option D:=match d with
 | .tup ds=>if Kz (.tup ds)=true/\Cm (.tup ds)<=8 then some (.tup ds) else none
 |_=>none
theorem HK(h:Dp d=some c):c=d/\(∃ds,d=.tup ds)/\Kz d=true/\Cm d<=8:=by
 unfold Dp at h;split at h
 ·split at h
  ·rename_i ds z;cases h;exact⟨rfl,⟨ds,rfl⟩,z⟩
  ·cases h
 ·cases h
noncomputable def UT(w:World)(neg:Bool)(y d:D):M D:=bnd (J4 w d) λr=>λμ=>(Dp y).map λc=>(.bl (if neg then !(r.2.any λz=>decide (z.1=c)) else r.2.any λz=>decide (z.1=c)),μ)
theorem NJ{k:Nat}(hr:Room k X.A):OpR X (compareOp .NotIn) (rM X.K (UT X.w true)):=λpins s σ H x y v u Q I rx ry h=>by
 obtain⟨ι,μ,a,b,d,μ',R,ia,ib,e,q⟩:=h;obtain⟨r,μ1,e1,e2⟩:=AI e;obtain⟨hm,_,g1,rfl,kvs,g2,g3⟩:=Ha R ib e1;subst hm;cases hc:Dp a with
 |none=>rw[hc] at e2;cases e2
 |some c=>
  rw[hc] at e2;cases e2;obtain⟨rfl,⟨ds,rfl⟩,kz,kd⟩:=HK hc;have ia':=ia;unfold Is at ia';obtain⟨pa,_,rfl,_⟩:=ia';cases rx;cases ry;obtain⟨us,hl,_,dd,_,_,lo⟩:=Jv I g2 g3.at;refine PyProof.Rows.wpAny_notIn_heap (QC hr) (isP I kz kd ia) lo dd ?_;rw[Pk.Gj hl,LL g3.keys];exact⟨.bl _,H,I.tok _,rfl,q ι H R.ext0 R _ (ofB _)⟩
noncomputable def NH(w:World)(d y:D):M D:=bnd (J4 w d) λr=>λμ=>((Dp y).bind (Ik r.2)).map λv=>(v,μ)
theorem QF(hr:Room k X.A)(ho:RE X o mo)(hi:RE X i mi)(hs:ST i:=by exact λ_ _=>rfl):RE X (.Subscript o i pos) (mOp (NH X.w) mo mi):=by
 refine RE.wk (t:=λσ H Q=>tE X.K mo σ H λx H1=>tE X.K mi σ H1 λy H2=>∃(p:Addr) (l:List (D×D)×List (D×Addr×V)) (c d:D) (a:Addr) (ι:Nat->Addr) (k:Nat),x=.ref p/\y=.ref a/\H2 p=some (Et X.w p l.2)/\PVs X.K ι k H2 l.1 l.2/\Kz c=true/\Cm c<=8/\Is X.K ι k H2 c (.ref a)/\Ik l.1 c=some d/\∀v,Is X.K ι k H2 d v->Q v H2) (λpins s σ H Q I h=>?_) λσ H Q h=>?_
 ·refine Le PySem.F.slot_dict_getitem.lookup hs (thn (ho.pe pins s σ H _ I h) λu s1 ⟨x,H1,I1,rx,q1⟩=>thn (hi.pe pins s1 σ H1 _ I1 q1) λiv s2 z=>?_);obtain⟨y,H2,I2,ry,p,l,c,d,a,ι,k,ex,ey,e,pv,kz,kd,ic,vd,q2⟩:=z;subst ex ey;cases rx;cases ry;obtain⟨us,hl,hvs,dd,_,_,lo⟩:=Jv I2 e pv.at;obtain⟨v,uu,pp,iv,rv,at_⟩:=pv.val hvs vd;refine⟨dd.typeIs,wpAny_getItem_heap (QC hr) (isP I2 kz kd ic) dd at_ ?_⟩;exact⟨v,H2,I2.tok _,rv,q2 v iv⟩
 ·obtain⟨ι,μ,τ,d,μ',R,S,e,q⟩:=h;obtain⟨x,μ1,e1,ee1⟩:=AI e;obtain⟨y,μ2,e2,ee2⟩:=AI ee1;obtain⟨r,μ3,e3,ee3⟩:=AI ee2;refine⟨ι,μ,τ,x,μ1,R,S,e1,λι1 H1 E1 R1 v1 i1=>⟨ι1,μ1,τ,y,μ2,R1,S.ext E1,e2,λι2 H2 E2 R2 v2 i2=>?_⟩⟩;obtain⟨hm,_,g1,rfl,kvs,g2,g3⟩:=Ha R2 (i1.ext E2) e3;subst hm;cases hc:Dp y with
  |none=>rw[hc] at ee3;cases ee3
  |some c=>
   rw[hc,Option.bind_some] at ee3;obtain⟨rfl,⟨ds,rfl⟩,kz,kd⟩:=HK hc;cases hv:Ik r.2 (.tup ds) with
   |none=>rw[hv] at ee3;cases ee3
   |some dv=>
    rw[hv] at ee3;cases ee3;have i2':=i2;unfold Is at i2';obtain⟨pa,_,rfl,_⟩:=i2';exact⟨_,(r.2,kvs),_,_,pa,ι2,_,rfl,rfl,g2,g3,kz,kd,i2,hv,λv iv=>q ι2 H2 (E1.trans E2) R2 v iv⟩
noncomputable def M1(w:World)(mo mi mv:Sl->M D):Sl->M (Fl×Sl):=λτ=>bnd (mv τ) λv=>bnd (mo τ) λx=>bnd (mi τ) λy=>bnd (J4 w x) λr=>λμ=>match Dp y with
 |some c=>if r.2.length<sizeLine/\(r.2.any λz=>decide (z.1=c))=false then some ((.next,τ),μ.set r.1 (.dP w (r.2++[(c,v)]))) else none
 |none=>none
noncomputable def a9(td ty tv:TE)(K:PySem.W.Frag)(w:World):TS:=λDn σ H=>tv σ H λv H1=>td σ H1 λx H2=>ty σ H2 λy H3=>∃p l c a ι k,x=.ref p/\y=.ref a/\H3 p=some (Et w p l)/\(∀z∈l,Kz z.1=true/\Cm z.1<=8/\Is K ι k H3 z.1 (.ref z.2.1))/\(Kz c=true/\Cm c<=8/\Is K ι k H3 c (.ref a))/\l.length<sizeLine/\(l.any λz=>decide (z.1=c))=false/\Dn.nx σ (upd H3 p (Et w p (l++[(c,a,v)])))
theorem XJ(hr:Room k0 X.A)(ho:PE X o td)(hi:PE X i ty)(hv:PE X value tv)(hs:swapsWith value (some (.Subscript o i pos')) pos.line X.env=pure false):
  PS X (.Assign [.Subscript o i pos'] value pos) (a9 td ty tv X.K X.w):=by
 intro pins s σ H D I h;refine wpAny_Assign_Subscript (thn (hv pins s σ H _ I h) λr s1 ⟨v,H1,I1,rv,q1⟩=>thn (ho pins s1 σ H1 _ I1 q1) λu s2 ⟨x,H2,I2,rx,q2⟩=>thn (hi pins s2 σ H2 _ I2 q2) λiv s3 z=>?_) hs;obtain⟨y,H3,I3,ry,p,l,c,a,ι,k,ex,ey,e,hl,hc,hz,hn,q3⟩:=z;subst ex ey;cases rx;cases ry;obtain⟨us,hlen,hvs,dd,nd,hs,lo⟩:=Jv I3 e hl;have hx:(Ex l us).length=l.length:=by unfold Ex;rw[AAG,List.length_zip];omega
 have no:atKey (Ex l us) c=none:=by
  have:=Pk.Gj (c:=c) hlen;rw[hn] at this;cases z:atKey (Ex l us) c with
  |none=>rfl
  |some _=>rw[z] at this;cases this
 refine wpAny_setItem_heap (hsz:=by omega) (QC hr) (isP I3 hc.1 hc.2.1 hc.2.2) dd λh' dd' sb=>⟨σ,_,?_,q3⟩;rw[storedH_new no] at dd';obtain⟨o',es',ep',d1,d2,d3,d4,_,_⟩:=dd';refine IX I3 (by rw[e];exact True.intro) sb ⟨o',d1⟩ (Yu ⟨us++[r],o',es',ep',?_,d1,d2,d3,?_,?_,?_,lo⟩)
 ·rw[AAY];exact hvs.append (.cons rv .nil)
 ·rw[d4,List.zip_append hlen,AAY];unfold Ex;rw[AAY,List.map_map];rfl
 ·rw[AAY];refine List.nodup_append.mpr ⟨nd,by simp,?_⟩;intro z hz' w hw;have hw':w=c:=by simpa using hw
  intro hzc;obtain⟨t,ht,et⟩:=AAM.mp hz';have et':t.1=c:=et.trans (hzc.trans hw');have:(l.any λz=>decide (z.1=c))=true:=List.any_eq_true.mpr ⟨t,ht,by simp[et']⟩;rw[hn] at this;cases this
 ·rw[AAH];simp;omega
theorem P9{value:Expr}{k:Nat}(hr:Room k X.A)(ho:RE X o mo)(hi:RE X i mi)(hv:RE X value mv)(hs:swapsWith value (some (.Subscript o i pos')) pos.line X.env=pure false:=by rfl):RS X (.Assign [.Subscript o i pos'] value pos) (M1 X.w mo mi mv):=RS.wk (XJ hr ho.pe hi.pe hv.pe hs) λDn σ H h=>by
 obtain⟨ι,μ,τ,f,τ',μ',R,S,e,q⟩:=h;obtain⟨v,μ1,e1,ee1⟩:=AI e;obtain⟨x,μ2,e2,ee2⟩:=AI ee1;obtain⟨y,μ3,e3,ee3⟩:=AI ee2;obtain⟨r,μ4,e4,ee4⟩:=AI ee3;refine⟨ι,μ,τ,v,μ1,R,S,e1,λι1 H1 E1 R1 v1 i1=>⟨ι1,μ1,τ,x,μ2,R1,S.ext E1,e2,λι2 H2 E2 R2 v2 i2=>⟨ι2,μ2,τ,y,μ3,R2,S.ext (E1.trans E2),e3,λι3 H3 E3 R3 v3 i3=>?_⟩⟩⟩;obtain⟨hm,hx,g1,hv2,kvs,g2,g3⟩:=Ha R3 (i2.ext E3) e4;subst hm;have E13:=(E1.trans E2).trans E3;cases hk:Dp y with
 |none=>rw[hk] at ee4;cases ee4
 |some c=>
  rw[hk] at ee4;have ee4:(if r.2.length<sizeLine/\(r.2.any λz=>decide (z.1=c))=false then some ((Fl.next,τ),List.set μ4 r.1 (MO.dP X.w (r.2++[(c,v)]))) else none)=some ((f,τ'),μ'):=ee4;split at ee4
  ·rename_i hl;cases ee4;obtain⟨rfl,⟨ds,rfl⟩,kz,kd⟩:=HK hk;have i3':=i3;unfold Is at i3';obtain⟨a,_,rfl,_⟩:=i3';have hlt:r.1<List.length μ4:=(AAU.mp g1).1;have hkl:kvs.length=r.2.length:=by have:=congrArg List.length g3.keys;simpa using this
   obtain⟨E4,R4⟩:=R3.changed (m:=.dP X.w (r.2++[(.tup ds,v)])) (o:=Et X.w (ι3 r.1) (kvs++[(.tup ds,a,v1)])) hlt ⟨_,rfl,PVs.app ⟨kz,kd,i3⟩ (i1.ext (E2.trans E3)) g3⟩;exact⟨_,kvs,_,a,ι3,_,hv2,rfl,g2,g3.at,⟨kz,kd,i3⟩,by omega,by rw[LL g3.keys];exact hl.2,q ι3 _ (E13.trans E4) R4 σ (S.ext (E13.trans E4))⟩
  ·cases ee4
end
end Mi
namespace Mi
open PySem L2
noncomputable def Qg:List D->Option (List Key)
 |[]=>some []
 |d::ds=>match GU d,Qg ds with
  |some k,some ks=>some (k::ks)
  |_,_=>none
theorem NZ:∀{ds:List D} {vs:List V} {ks:List Key},IsL K ι k H ds vs->Qg ds=some ks->vs=ks.map kV
 |[],vs,ks,i,e=>by cases e;unfold IsL at i;exact i
 |d::ds,vs,ks,i,e=>by
  unfold IsL at i;obtain⟨v,vs',rfl,i1,i2⟩:=i;unfold Qg at e;split at e
  ·rename_i ky ks' h1 h2;cases e;rw[AAX,NZ i2 h2,L5 i1 h1]
  ·cases e
noncomputable def JT(kvs more:List (Key×D)):List (Key×D):=more.foldl (λacc kv=>FD acc kv.1 kv.2) kvs
theorem K0:∀{ks:List Key} {ds:List D} {vs:List V} {l:List (Key×D)} {r:List (Key×V)},IsL K ι k H ds vs->KVs K ι k H l r->KVs K ι k H (JT l (ks.zip ds)) (DT r (ks.zip vs))
 |[],_,_,_,_,_,h=>by rw[List.zip_nil_left,List.zip_nil_left];exact h
 |_::_,[],_,_,_,i,h=>by unfold IsL at i;subst i;rw[List.zip_nil_right,List.zip_nil_right];exact h
 |y::ks,d::ds,_,l,r,i,h=>by
  unfold IsL at i;obtain⟨v,vs',rfl,i1,i2⟩:=i;rw[List.zip_cons_cons,List.zip_cons_cons];exact K0 (l:=FD l y d) (r:=Da r y v) i2 (KVs.put h i1)
noncomputable def VT:List D->M D
 |[.lst xs,.tup ds]=>λμ=>match Qg xs with
  |some ks=>if ds.length=ks.length/\ks.length<=1000 then some (.ref μ.length,μ++[.dK (JT [] (ks.zip ds))]) else none
  |none=>none
 |_=>BG
section
variable{X:Cx}{a b:Expr}{p p2 pos pos2:Pos}
theorem W7(hmd:X.mg "dict" = none)(hm:X.mg "zip" = none)(ha:RA X [a,b] m)(hc:X.calm=true:=by rfl)(hgd:Gl X "dict" := by rfl)(hg:Gl X "zip" := by rfl)(hs:starEach [a,b] X.env=(false,eval a X.env)::starEach [b] X.env:=by exact Ak rfl)(hpl:(backTo pos2 (starEach [b] X.env)).any (·.1)=false:=by exact BS rfl):
  RE X (.Call (.Name "dict" p) [.Call (.Name "zip" p2) [a,b] [] pos2] [] pos) (AJ VT m):=RE.wk (XX hc hgd hmd hg hm ha.pe hs hpl) λσ H Q h=>by
 obtain⟨ι,μ,τ,d,μ',R,S,ev,q⟩:=h;obtain⟨as,μ1,e1,e2⟩:=AI ev;refine⟨ι,μ,τ,as,μ1,R,S,e1,λι1 H1 E1 R1 vs i1=>?_⟩;unfold VT at e2;split at e2
 ·rename_i xs ds;split at e2
  ·rename_i ks hk;split at e2
   ·rename_i hl;cases e2;obtain⟨v1,v2,rfl,j1,j2⟩:=aU i1;unfold Is at j1 j2;obtain⟨l,vl,rfl,g1,_,g2⟩:=j1;obtain⟨t,vt,rfl,t1,t2⟩:=j2;have ek:=NZ g2 hk;subst ek;refine⟨l,t,ks,vt,rfl,SqL.of g1,t1,by rw[t2.length];exact hl.1,hl.2,λpn hp=>?_⟩;obtain⟨ι',E2,R2,e0⟩:=R1.grown (m:=.dK (JT [] (ks.zip ds))) (o:=.dK (DT [] (ks.zip vt))) hp ⟨_,rfl,K0 t2 (show KVs _ _ _ _ [] [] from rfl)⟩;exact q ι' _ (E1.trans E2) R2 _ (by unfold Is;exact⟨by simp,by rw[e0]⟩)
   ·cases e2
  ·cases e2
 ·cases e2
end
section
variable{K:PySem.W.Frag}{c m qual:Str}{st:Stmt}{C f:Addr}{oc:Value}{od an:Option Addr}{osl:Array (Option Value)}{kV doc pm cdv ct:Value}
theorem cM(a:PySem.W.nsIn K mainGlobals c=some (some (.ref C)))(pg:PySem.W.plainGet K C Str.empty=true)(hd:PySem.W.hasDictIn K C=true)(po:PySem.W.plainOver K C=true)(sa:PySem.W.findIn K (.ref C) "__setattr__" = some (some (.builtin "object.__setattr__")))
  (me:PySem.W.findIn K (.ref C) m=some (some (.ref f))) (fn:PySem.W.isFn K (.ref f)=true)
  (l:K.lookup f=some ⟨oc,od,.func (PySem.W.fnOf m qual (Ec st) (Bq st) (AO st) .none kV doc pm an cdv ct),osl⟩) (cd:PySem.W.codeIn K cdv qual=true) (k:PySem.W.keepIn K (.ref f)=true):∃C f fd,Dm K c m qual st C f fd:=⟨C,f,_,⟨a,⟨pg,hd,po,sa⟩⟩,⟨me,fn,k⟩,O0 l cd k⟩
end
theorem FG(hw:How)(d:Dm K c m qual st C f fd)(S:Ae N ps (AO st))(hb:Binds K fd ps [])
  (body:∀(cdv:Value) (A:Around) (outer:List Env) (s:Shared) (H:Hp) (E:XK),Room k (A.deeper (PyProof.Rows.envOfC qual (AO st) s.heap.objs.size f cdv))->RSs (IH CX0 P w K mg base N qual (AO st) f cdv A outer s H E).nox (Bq st) mb) :
  Mth P w K mg base c m ps (k+1) (An hw N.length ps.length mb):=⟨λds μ r h=>(DW (d:=r.1) (μ':=r.2) h).1,C,f,fd,d.ca,d.me,Jn hw d.F S body,hb⟩
open Pk in
noncomputable def KJ(h:Heap)(y:D)(v:Value):Bool:=@decide (At h y v) (Classical.propDecidable _)
open Pk in
theorem Ql(a:At h z v):KJ h y v=decide (z=y):=by
 unfold KJ;by_cases e:z=y
 ·subst e;rw[AAP rfl,@AAP _ (Classical.propDecidable _) a]
 ·rw[AAO e,@AAO _ (Classical.propDecidable _) λb=>e (a.inj b)]
open Pk in
theorem PH:∀{ds:List D} {us:List Value},Ats h ds us->us.any (KJ h y)=ds.any λz=>decide (z=y)
 |[],_,a=>by unfold Ats at a;subst a;rfl
 |d::ds,_,a=>by
  unfold Ats at a;obtain⟨v,us',rfl,a1,a2⟩:=a;rw[List.any_cons,List.any_cons,Ql a1,PH a2]
open Pk PySem.SeqAt in
theorem Oo(hu:A.units+8<cLine)(hx:At s.heap y x):∀{ds:List D} {us:List Value},Bg ds<=8->Ats s.heap ds us->∀v∈us,EqAt A s v x (KJ s.heap y v)
 |[],_,_,a,v,hv=>by unfold Ats at a;subst a;cases hv
 |d::ds,_,hd,a,v,hv=>by
  unfold Ats at a;unfold Bg at hd;obtain⟨v',us',rfl,a1,a2⟩:=a;rcases AAJ.mp hv with rfl|hv
  ·rw[Ql a1];exact At.eq (by omega) a1 hx
  ·exact Oo hu hx (by omega) a2 v hv
open Pk in
noncomputable def YE(neg:Bool)(y d:D):M D:=bnd (BU d) λds=>λμ=>if Kz y=true/\KzL ds=true/\Bg ds<=8 then some (.bl (if neg then !(ds.any λz=>decide (z=y)) else ds.any λz=>decide (z=y)),μ) else none
open Pk in
theorem bq(hr:Room k X.A):OpR X (compareOp .In) (rM X.K (YE false)):=λpins s σ H x y v u Q I rx ry h=>by
 obtain⟨ι,μ,a,b,d,μ',R,ia,ib,e,q⟩:=h;obtain⟨ds,μ1,e1,e2⟩:=AI e;obtain⟨hm,p,vs,rfl,h1,h2⟩:=DO R ib e1;subst hm;split at e2
 ·rename_i hz;cases e2;cases ry;have hx:=Vm I hz.1 ia rx;have hu:X.A.in1.units+8<cLine:=QC hr;rcases h1 with h1|h1
  ·obtain⟨its,rv,pl,_⟩:=I.list h1;have hA:=MG I hz.2.1 h2 rv;refine PySem.SeqAt.in_listAt (KJ s.heap a) pl.isList (λw hw=>Oo (A:=X.A.in1) hu hx hz.2.2 hA w (by simpa using hw)) ⟨.bl _,H,I,rfl,?_⟩;rw[show its.toArray.any (KJ s.heap a)=its.any (KJ s.heap a) by simp,PH hA];exact q ι H R.ext0 R _ (ofB _)
  ·obtain⟨its,rv,pl,_⟩:=I.tuple h1;have hA:=MG I hz.2.1 h2 rv;refine PySem.SeqAt.in_tupleAt (KJ s.heap a) pl (λw hw=>Oo (A:=X.A.in1) hu hx hz.2.2 hA w (by simpa using hw)) ⟨.bl _,H,I,rfl,?_⟩;rw[show its.toArray.any (KJ s.heap a)=its.any (KJ s.heap a) by simp,PH hA];exact q ι H R.ext0 R _ (ofB _)
 ·cases e2
noncomputable def Ka:D->List D->M D
 | .str x,[.str y]=>λμ=>match Builtin.Str.occurrences x y 0 x.length 1 with
  |i::_=>some (.int (i:Int),μ)
  |[]=>none
 |_,_=>BG
def ZP:D->M Str
 | .str x=>ret x
 |_=>BG
noncomputable def Jb(g:D->List D->M D)(mo:Sl->M D)(ma:Sl->M (List D)):Sl->M D:=λτ=>bnd (mo τ) λx=>bnd (ZP x) λy=>bnd (ma τ) λds=>g (.str y) ds
section
variable{X:Cx}{o e:Expr}{es:List Expr}{apos cpos:Pos}
theorem Ut:MtR X "str.index" (rMM X.K Ka):=λpins s σ H x xs v us Q I rx rs h=>by
 obtain⟨ι,μ,a,as,d,μ',R,ia,ib,ev,q⟩:=h;unfold Ka at ev;split at ev
 ·rename_i x1 y1;split at ev
  ·rename_i i rest hocc;cases ev;cases Ci ia;obtain⟨v2,rfl,i2⟩:=HL ib;cases Ci i2;obtain⟨t,rfl⟩:=rx;obtain⟨u,rfl,ru⟩:=Ih rs;obtain⟨t2,rfl⟩:=ru;exact call_gives PySem.F.slot_str_index (typeIs_str _ _ _) PySem.F.entry_str_index (PySem.F.args_str_index_2 _ _) (PySem.gives_str_index x1 y1 t t2 i rest hocc) ⟨.int i,H,I.tok _,⟨_,rfl⟩,q ι H R.ext0 R _ (by unfold Is;rfl)⟩
  ·cases ev
 ·cases ev
theorem UF{name:Str}{id:String}(slot:Slot "str" name id)(hty:typeOf (.builtin id)=pure (.type "method_descriptor"))(hm:MtR X id (rMM X.K g))(ho:RE X o mo)(ha:RA X (e::es) ma)
  (hbase:attributeBase o name X.env (eval o X.env)=eval o X.env:=by rfl)
  (hfew:((backTo cpos (starEach (e::es) X.env)).all (λx=>!x.1)&&(backToKw cpos (keywordEach [] X.env)).all (λx=>x.1.isSome)
   && decide ((e::es).length+([]:List Keyword).length+(if ([]:List Keyword).isEmpty then 0 else 1)<30))=true:=by rfl)
  (hline:(apos.endLine==cpos.line)=true:=by rfl) (hs:starEach (e::es) X.env=(false,eval e X.env)::starEach es X.env:=by exact Ak rfl) (hplain:(backTo cpos (starEach es X.env)).any (·.1)=false:=by exact BS rfl) :
  RE X (.Call (.Attribute o name apos) (e::es) [] cpos) (Jb g mo ma):=RE.wk (Yg PySem.F.plainAttrs_str slot hty hm ho.pe ha.pe hbase hfew hline hs hplain) λσ H Q h=>by
 obtain⟨ι,μ,τ,d,μ',R,S,ev,q⟩:=h;obtain⟨x,μ1,e1,ee1⟩:=AI ev;obtain⟨y,μ2,e2,ee2⟩:=AI ee1;obtain⟨ds,μ3,e3,ee3⟩:=AI ee2;have hy:x=.str y/\μ2=μ1:=by
  cases x with
  |str z=>cases e2;exact⟨rfl,rfl⟩
  |_=>cases e2
 obtain⟨rfl,rfl⟩:=hy;refine⟨ι,μ,τ,.str y,_,R,S,e1,λι1 H1 E1 R1 v1 i1=>⟨?_,ι1,_,τ,ds,μ3,R1,S.ext E1,e3,λι2 H2 E2 R2 vs i2=>?_⟩⟩
 ·cases Ci i1;rfl
 ·exact⟨ι2,μ3,.str y,ds,d,μ',R2,i1.ext E2,i2,ee3,λι3 H3 E3 R3=>q ι3 H3 ((E1.trans E2).trans E3) R3⟩
end
end Mi
namespace K22
open PySem L2 Mi
def DB:D:=.int (-1)
def Jt:D:=.int (-1)
def RJ:List (Str×List Str):=[("put",["box", "expression"]),("get",["variable", "box"]),("let",["variable", "expression"]),("unless",["expression", "target"]),("jump",["target"]),("tell",["expression"]),("done",[])]
def Pn:Str->Option D:=Mm RJ
def Ju:D:=.int 9
noncomputable def Hw:D:=.tup [.str "let",.str "jump",.str "unless"]
abbrev Bf:Nat:=1000
noncomputable def Fp(w:World): Sl->M (Fl×Sl):=
  (AY (Ai (mOp Kk (AJ Jf (AD (mOp AM (AC 0) (mC (.int 4))) AN)) (mC (.int 1))) (AR 1))
  (AY (sIf (AS (mOp A7 (mOp AM (AC 0) (mC (.int 0))) (mC (.str "whole")))) (Am (AJ As (AD (AJ As (AD (mOp AM (AC 0) (mC (.int 2))) (AD (mC DB) (AD (mOp F2 (AJ As (AD (mC DB) AN)) (AC 1)) AN)))) AN))) BB)
  (Am (AJ As (AD (mOp AM (AC 0) (mC (.int 2))) (AD (mC DB) (AD (mOp F2 (AJ As (AD (mC .non) AN)) (AC 1)) AN)))))))
noncomputable def FK(w:World)(eC:List D->M D)(dy:List D->M D)(dw:List D->M D):Sl->M (Fl×Sl):=
  (AY (sIf (AS (mOp A7 (mOp AM (AC 0) (mC (.int 0))) (mC (.str "whole")))) (Am (AJ dy (AD (Bp 1 [2] (EA (AC 1)) (AR 0) C3 (AJ eC (AD (AC 0) (AD (mC (.int 0)) (AD (AC 1) AN)))) BM) AN))) BB)
  (AY (Ai (Bp 1 [0,2] (EA (mOp AM (AC 1) (mC (.int 2)))) (AR 0) C3 (mIf (AS (mOp (DK false) (AC 0) (mC .non))) (AC 0) (AJ dw (AD (mOp AM (AC 1) (mC (.int 0))) (AD (mOp AM (AC 1) (mC (.int 1))) (AD (AC 0) (AD (AC 2) AN)))))) BM) (AR 3))
  (Am (AJ As (AD (mOp AM (AC 1) (mC (.int 0))) (AD (AC 2) (AD (AJ C9 (AD (AC 3) AN)) AN)))))))
noncomputable def En(w:World)(eB:List D->M D)(dy:List D->M D):Sl->M (Fl×Sl):=
  (AY (sIf (AS (mOp A7 (mOp AM (AC 0) (mC (.int 0))) (mC (.str "whole")))) (Am (AJ dy (AD (AJ eB (AD (AC 1) (AD (mC (.int 0)) (AD (mC DB) AN)))) AN))) BB)
  (Am (AJ As (AD (mOp AM (AC 1) (mC (.int 1))) (AD (mC DB) (AD (mOp AM (AC 1) (mC (.int 2))) AN))))))
noncomputable def Fo(w:World)(eC:List D->M D)(dy:List D->M D)(dw:List D->M D)(di:List D->M D):Sl->M (Fl×Sl):=
  (AY (sIf (AS (mOp A7 (mOp AM (AC 0) (mC (.int 0))) (mC (.str "whole")))) (Am (AJ dy (AD (Bp 1 [2] (EA (AC 1)) (AR 0) C3 (AJ eC (AD (AC 0) (AD (mOp A5 (AC 1) (mC (.int 1))) (AD (mC DB) AN)))) BM) AN))) BB)
  (AY (Ai (AJ As (AD (mOp AM (AC 1) (mC (.int 0))) AN)) (AR 3))
  (AY (sIf (AS (mOp Ce (mOp AM (AC 1) (mC (.int 1))) (mC DB))) (Ai (AJ dw (AD (mOp AM (AC 0) (mC (.int 0))) (AD (mOp AM (AC 0) (mC (.int 1))) (AD (AC 3) (AD (mOp AM (AC 1) (mC (.int 1))) AN))))) (AR 3)) BB)
  (Am (AJ As (AD (mOp AM (AC 1) (mC (.int 0))) (AD (mOp AM (AC 1) (mC (.int 1))) (AD (AJ di (AD (mOp AM (AC 1) (mC (.int 2))) (AD (AC 2) (AD (AC 3) AN)))) AN))))))))
noncomputable def GT(w:World)(eB:List D->M D)(dy:List D->M D)(di:List D->M D):Sl->M (Fl×Sl):=
  (AY (sIf (AS (mOp A7 (mOp AM (AC 0) (mC (.int 0))) (mC (.str "whole")))) (AY (Ai (AJ eB (AD (AC 1) (AD (mOp A5 (AC 2) (mC (.int 1))) (AD (AC 3) AN)))) (AR 4))
  (Am (mIf (AS (AC 4)) (AJ dy (AD (AC 4) AN)) (mC .non)))) BB)
  (AY (sIf (AS (mOp (KH true) (AC 3) (mOp AM (mOp AM (AC 1) (mC (.int 2))) (AC 2)))) (Am (mC .non)) BB)
  (Am (AJ As (AD (mOp AM (AC 1) (mC (.int 0))) (AD (mOp AM (AC 1) (mC (.int 1))) (AD (AJ di (AD (mOp AM (AC 1) (mC (.int 2))) (AD (AC 2) (AD (mC .non) AN)))) AN)))))))
noncomputable def JZ(w:World): Sl->M (Fl×Sl):=
  (AY (sIf (AS (mOp A7 (AC 0) (mC (.str "safe")))) (Am (mUn (JI D.tup) (AC 1))) BB)
  (Am (AJ C9 (AD (mUn CV (mOp A5 (AC 2) (AJ As (AD (AC 3) AN)))) AN))))
noncomputable def ER(w:World): Sl->M (Fl×Sl):=
  (Am (mOp A5 (mOp A5 (Fa (AC 0) Ch (EB (AC 1))) (AJ As (AD (AC 2) AN))) (Fa (AC 0) (EB (mOp A5 (AC 1) (mC (.int 1)))) Ch)))
noncomputable def JW(w:World): Sl->M (Fl×Sl):=
  (Am (Kx (AJ Ng (AD (AC 0) (AD (mC (.ty "int")) AN))) (Kx (Qb (AJ Ng (AD (AC 0) (AD (mC (.ty "bool")) AN)))) (HF Ra Ra (AC 1) (AC 0) (AC 2)))))
noncomputable def FJ(w:World)(d9:List D->M D):Sl->M (Fl×Sl):=
  (AY (sIf (AS (mOp A7 (mOp AM (AC 0) (mC (.int 0))) (mC (.str "num")))) (Am (AJ BM AN)) BB)
  (AY (sIf (AS (mOp A7 (mOp AM (AC 0) (mC (.int 0))) (mC (.str "var")))) (Am (AJ BM (AD (mOp AM (AC 0) (mC (.int 1))) AN))) BB)
  (AY (Ai (AJ GS AN) (AR 1))
  (AY (G6 (EA (Fa (AC 0) (EB (mC (.int 1))) Ch)) (AR 2) (D4 (BT SC (AC 1) (AD (AJ d9 (AD (AC 2) AN)) AN))))
  (Am (AC 1))))))
noncomputable def Ho(w:World)(dt:List D->M D)(eY:List D->M D)(eJ:List D->M D):Sl->M (Fl×Sl):=
  (AY (Ai (mOp AM (AC 0) (mC (.int 0))) (AR 2))
  (AY (sIf (AS (mOp A7 (AC 2) (mC (.str "num")))) (Am (mOp AM (AC 0) (mC (.int 1)))) BB)
  (AY (sIf (AS (mOp A7 (AC 2) (mC (.str "var")))) (Am (mOp Gg (AC 1) (mOp AM (AC 0) (mC (.int 1))))) BB)
  (AY (Ai (AJ dt (AD (mOp AM (AC 0) (mC (.int 1))) (AD (AC 1) AN))) (AR 3))
  (AY (sIf (AS (mOp A7 (AC 2) (mC (.str "not")))) (Am (AJ eY (AD (mOp A7 (AC 3) (mC (.int 0))) AN))) BB)
  (Am (AJ eJ (AD (AC 2) (AD (AC 3) (AD (AJ dt (AD (mOp AM (AC 0) (mC (.int 2))) (AD (AC 1) AN))) AN))))))))))
noncomputable def JX(w:World): Sl->M (Fl×Sl):=
  (Am (Kx (AJ Ng (AD (AC 0) (AD (mC (.ty "tuple")) AN))) (HF Ra Ra (AC 1) (AJ Jf (AD (AC 0) AN)) (AC 2))))
noncomputable def FI(w:World)(d9:List D->M D):Sl->M (Fl×Sl):=
  (AY (Ai (AJ GS AN) (AR 1))
  (AY (G6 (Xq (AD (mUn (Yp Pn) (mOp AM (AC 0) (mC (.int 0)))) (AD (Fa (AC 0) (EB (mC (.int 1))) Ch) AN))) (Eg [2,3]) (AY (sIf (AS (mOp A7 (AC 2) (mC (.str "variable")))) (D4 (BT Hb (AC 1) (AD (AC 3) AN))) BB)
  (sIf (AS (mOp A7 (AC 2) (mC (.str "expression")))) (D4 (BT SC (AC 1) (AD (AJ d9 (AD (AC 3) AN)) AN))) BB)))
  (Am (AC 1))))
noncomputable def Bu(w:World)(eM:List D->M D)(eK:List D->M D)(eR:List D->M D)(eW:List D->M D):Sl->M (Fl×Sl):=
  (AY (Ai (mOp A7 (mOp AM (AC 2) (mC (.int 0))) (mC (.str "begin"))) (AR 3))
  (AY (sIf (AS (mOp A7 (mOp AM (AC 2) (mC (.int 1))) (mC (.int 0)))) (Am (mIf (AS (AC 3)) (AJ eM (AD (AC 0) (AD (AC 1) (AD (mOp AM (AC 2) (mC (.int 2))) AN)))) (AJ eK (AD (AC 0) (AD (AC 1) AN))))) BB)
  (AY (Ai (mOp Kk (mOp AM (AC 2) (mC (.int 1))) (mC (.int 1))) (AR 4))
  (Am (mIf (AS (AC 3)) (AJ eR (AD (AC 0) (AD (AC 1) (AD (AC 4) AN)))) (AJ eW (AD (AC 0) (AD (AC 1) (AD (AC 4) (AD (mOp AM (AC 2) (mC (.int 2))) AN))))))))))
noncomputable def Er(w:World)(eF:List D->M D):Sl->M (Fl×Sl):=
  (AY (Fi "Plan" "making" (AC 0) (AC 1))
  (AY (Fi "Plan" "names" (AC 0) (Bp 1 [] (EA (mOp AM (AC 1) (mC (.int 4)))) (AR 0) C3 (mOp AM (AC 0) (mC (.int 0))) BM))
  (AY (Fi "Plan" "variables" (AC 0) (Bp 1 [] (EA (mOp AM (AC 1) (mC (.int 4)))) (AR 0) C3 (AJ eF (AD (mOp AM (AC 0) (mC (.int 2))) AN)) BM))
  (AY (Fi "Plan" "places" (AC 0) aE)
  (AY (G6 (HE (AD (mOp AM (AC 1) (mC (.int 3))) AN)) (Eg [2,3]) (GO (mUn (By "Plan" "places") (AC 0)) (mOp AM (AC 3) (mC (.int 0))) (AC 2)))
  (AY (Fi "Plan" "ways" (AC 0) (QU w))
  (Fi "Plan" "claims" (AC 0) (QU w))))))))
noncomputable def Dl(w:World): Sl->M (Fl×Sl):=
  (Am (mOp AM (mOp AM (mOp AM (mOp AM (mUn (By "Plan" "making") (AC 0)) (mC (.int 4))) (AC 1)) (mC (.int 2))) (AC 2)))
noncomputable def Eo(w:World): Sl->M (Fl×Sl):=
  (Am (mOp Gg (mUn (By "Plan" "places") (AC 0)) (mIf (AS (mOp A7 (mOp AM (AC 1) (mC (.int 0))) (mC (.str "put")))) (mOp AM (AC 1) (mC (.int 1))) (mOp AM (AC 1) (mC (.int 2))))))
noncomputable def Bv(w:World): Sl->M (Fl×Sl):=
  (AY (Ai (AJ VT (AD (mOp AM (mUn (By "Plan" "variables") (AC 0)) (AC 1)) (AD (AC 3) AN))) (AR 4))
  (AY (sIf (AS (mOp A7 (AC 1) (mC (.int 0)))) (GO (AC 4) (mC (.str "v")) (AC 2)) BB)
  (Am (AC 4))))
noncomputable def Fq(w:World)(eX:List D->M D):Sl->M (Fl×Sl):=
  (AY (Ai (AJ As (AD (AC 1) (AD (AC 2) (AD (AC 3) (AD (AC 4) AN))))) (AR 5))
  (AY (sIf (AS (mOp (UT w true) (AC 5) (mUn (By "Plan" "ways") (AC 0)))) (M1 w (mUn (By "Plan" "ways") (AC 0)) (AC 5) (AJ eX (AD (AC 0) (AD (AC 1) (AD (AC 2) (AD (AC 3) (AD (AC 4) AN))))))) BB)
  (Am (mOp (NH w) (mUn (By "Plan" "ways") (AC 0)) (AC 5)))))
noncomputable def Ep(w:World)(eL:List D->M D):Sl->M (Fl×Sl):=
  (AY (Ai (AJ As (AD (AC 1) (AD (AC 2) (AD (AC 3) (AD (AC 4) AN))))) (AR 5))
  (AY (sIf (AS (mOp (UT w true) (AC 5) (mUn (By "Plan" "claims") (AC 0)))) (M1 w (mUn (By "Plan" "claims") (AC 0)) (AC 5) (AJ eL (AD (mUn (By "Plan" "making") (AC 0)) (AD (AC 1) (AD (AJ As (AD (AC 2) (AD (AC 3) (AD (AC 4) AN)))) AN))))) BB)
  (Am (mOp (NH w) (mUn (By "Plan" "claims") (AC 0)) (AC 5)))))
noncomputable def B9(w:World)(eN:List D->M D):Sl->M (Fl×Sl):=
  (AY (Ai (AJ GS AN) (AR 1))
  (AY (G6 (EA (AC 0)) (AR 2) (D4 (BT SC (AC 1) (AD (AJ eN (AD (AC 2) AN)) AN))))
  (Am (Bp 1 [] (EA (mUn FT (AC 1))) (AR 0) (AS (mOp Ce (AC 0) (mC (.str "v")))) (AC 0) BM))))
noncomputable def FH(w:World)(dn:List D->M D)(er:List D->M D)(dt:List D->M D):Sl->M (Fl×Sl):=
  (AY (Ai (mOp AM (mOp AM (mOp AM (mUn (By "Plan" "making") (AC 0)) (mC (.int 4))) (AC 1)) (mC (.int 2))) (AR 5))
  (AY (Ai (CN "Plan" "named_numbers" dn (AC 0) (AD (AC 1) (AD (AC 3) (AD (AC 4) AN)))) (AR 6))
  (AY (Ai (AJ er (AD (AC 5) (AD (AC 2) (AD (AC 6) AN)))) (AR 2))
  (AY (sIf (AS (mOp (DK false) (AC 2) (mC .non))) (Am (AJ As (AD (mC (.str "stuck")) (AD (mC .non) (AD (mC .non) (AD (mC .non) AN)))))) BB)
  (AY (Ai (AJ C9 (AD (Bp 1 [6] (EA (mOp AM (mUn (By "Plan" "variables") (AC 0)) (AC 1))) (AR 0) C3 (mOp Gg (AC 1) (AC 0)) BM) AN)) (AR 7))
  (AY (sIf (AS (mOp A7 (AC 2) (AJ Jf (AD (AC 5) AN)))) (Am (AJ As (AD (mIf (AS (mOp A7 (AC 1) (mC (.int 0)))) (mC (.str "ends")) (mC (.str "silent"))) (AD (mC .non) (AD (AC 7) (AD (mC .non) AN)))))) BB)
  (AY (Ai (mOp AM (AC 5) (AC 2)) (AR 8))
  (AY (sIf (AS (mOp (KH false) (mOp AM (AC 8) (mC (.int 0))) (AJ As (AD (mC (.str "put")) (AD (mC (.str "get")) AN))))) (Am (AJ As (AD (mC (.str "stands")) (AD (AC 2) (AD (AC 7) (AD (mC .non) AN)))))) BB)
  (AY (sIf (AS (mOp A7 (mOp AM (AC 8) (mC (.int 0))) (mC (.str "done")))) (Am (AJ As (AD (mC (.str "ends")) (AD (mC .non) (AD (AC 7) (AD (mC .non) AN)))))) BB)
  (AY (Ai (AJ dt (AD (mOp AM (AC 8) (mC (.int 1))) (AD (AC 6) AN))) (AR 9))
  (Am (AJ As (AD (mIf (AS (mOp NE (AC 9) (mOp AM (mUn (By "Plan" "making") (AC 0)) (mC (.int 1))))) (mC (.str "ends")) (mC (.str "great"))) (AD (mC .non) (AD (AC 7) (AD (AC 9) AN))))))))))))))))
noncomputable def F6(w:World): Sl->M (Fl×Sl):=
  (AY (Ai (mC .non) (AR 3))
  (AY (Ai (mC .non) (AR 4))
  (AY (Ai (mC (.int 1)) (AR 5))
  (AY (Ai (mC (.int 1)) (AR 6))
  (AY (Lh Bf (DA (AS (mOp NE (AC 1) (AJ Jf (AD (AC 0) AN)))) (AS (mOp (KH false) (mOp AM (mOp AM (AC 0) (AC 1)) (mC (.int 0))) (mC Hw)))) Li)
  (Am (AC 1)))))))
noncomputable def Fm(w:World)(dl:List D->M D)(eS:List D->M D):Sl->M (Fl×Sl):=
  (Am (AJ eS (AD (AJ (Hl "Plan" dl) (AD (AC 0) AN)) AN)))
noncomputable def JU(w:World)(dl:List D->M D)(eE:List D->M D):Sl->M (Fl×Sl):=
  (AY (Ai (AJ (Hl "Plan" dl) (AD (AC 0) AN)) (AR 2))
  (Am (Bp 2 [2] (EA (AJ eE (AD (AC 2) (AD (AC 1) AN)))) (Eg [0,1]) C3 (AJ As (AD (mOp AM (mUn (By "Plan" "names") (AC 2)) (AC 0)) (AD (AC 1) AN))) BM)))
noncomputable def Ks(w:World)(dl:List D->M D)(fE:List D->M D)(fG:List D->M D):Sl->M (Fl×Sl):=
  (AY (Ai (AJ (Hl "Plan" dl) (AD (AC 0) AN)) (AR 3))
  (AY (Ai (AJ fE (AD (AC 3) (AD (AC 1) (AD (AC 2) AN)))) (AR 4))
  (AY (sIf (AS (mOp (DK false) (AC 4) (mC .non))) Li BB)
  (Am (AJ fG (AD (AC 3) (AD (AC 1) (AD (AC 4) AN))))))))
noncomputable def Fk(w:World)(eT:List D->M D):Sl->M (Fl×Sl):=
  (AY (Ai (Bp 1 [] (EA (mUn (By "Plan" "variables") (AC 0))) (AR 0) C3 (AJ As (AD (mC Jt) (AD (mC .non) (AD (mC (.int 0)) (AD (mC (.int 0)) (AD (mOp F2 (AJ As (AD (mC (.int 0)) AN)) (AJ Jf (AD (AC 0) AN))) AN)))))) BM) (AR 1))
  (AY (Ai (Bp 1 [] (EA (mOp AM (mUn (By "Plan" "making") (AC 0)) (mC (.int 3)))) (AR 0) C3 (AJ As (AD (mOp AM (AC 0) (mC (.int 3))) (AD (mC DB) AN))) BM) (AR 2))
  (Am (AJ As (AD (AJ C9 (AD (AC 1) AN)) (AD (AJ C9 (AD (AC 2) AN)) (AD (AJ eT (AD (mUn (By "Plan" "making") (AC 0)) AN)) AN)))))))
noncomputable def JV(w:World)(fA:List D->M D):Sl->M (Fl×Sl):=
  (AY (Ai (AJ GS AN) (AR 2))
  (AY (G6 (HE (AD (mOp AM (AC 1) (mC (.int 0))) AN)) (Eg [3,4]) (G6 (EA (AJ fA (AD (AC 0) (AD (AC 3) (AD (AC 4) AN))))) (AR 5) (D4 (BT Hb (AC 2) (AD (AJ As (AD (AC 3) (AD (AC 5) AN))) AN)))))
  (Am (AC 2))))
noncomputable def F5(w:World)(dq:List D->M D):Sl->M (Fl×Sl):=
  (AY (sIf (AS (mOp A7 (mOp AM (AC 2) (mC (.int 0))) (mC Jt))) (Am (mIf (AS (mOp A7 (AC 1) (mC (.int 0)))) (mUn (JI D.tup) (mOp AM (mUn (By "Plan" "making") (AC 0)) (mC (.int 1)))) (AJ As (AD (mC (.int 0)) AN)))) BB)
  (AY (sIf (DA (AS (mOp (DK true) (mOp AM (AC 2) (mC (.int 1))) (mC .non))) (AS (mOp A7 (mOp AM (CN "Plan" "row_at" dq (AC 0) (AD (AC 1) (AD (mOp AM (AC 2) (mC (.int 0))) AN))) (mC (.int 0))) (mC (.str "get"))))) (Am (mOp AM (AC 2) (mC (.int 1)))) BB)
  (Am (AJ As (AD (mC (.int 0)) AN)))))
noncomputable def Kt(w:World)(eh:List D->M D)(eZ:List D->M D)(eE:List D->M D):Sl->M (Fl×Sl):=
  (AY (sIf (mOr (Rq (AS (AJ eh (AD (AC 2) (AD (mC (.int 2)) (AD (mC (.int 2)) AN)))))) (mOr (AS (mOp (KH true) (mOp AM (AC 2) (mC (.int 0))) (mUn (By "Plan" "names") (AC 0)))) (Rq (AS (AJ eZ (AD (mOp AM (AC 2) (mC (.int 1))) (AD (mC (.int 0)) (AD (mC Ju) AN)))))))) (Am (mC .non)) BB)
  (AY (Ai (AJ As (AD (BT K5 (mUn (By "Plan" "names") (AC 0)) (AD (mOp AM (AC 2) (mC (.int 0))) AN)) (AD (mOp AM (AC 2) (mC (.int 1))) AN))) (AR 3))
  (Am (mIf (AS (mOp (YE false) (AC 3) (AJ eE (AD (AC 0) (AD (AC 1) AN))))) (AC 3) (mC .non)))))
noncomputable def ES(w:World)(fI:List D->M D)(d8:List D->M D)(dq:List D->M D)(fL:List D->M D)(fK:List D->M D)(dj:List D->M D)(eD:List D->M D):Sl->M (Fl×Sl):=
  (AY (Ai (mOp AM (AC 2) (mC (.int 0))) (AR 3))
  (AY (Ai (mOp AM (mOp AM (AC 1) (mC (.int 0))) (AC 3)) (AR 4))
  (AY (sIf (AS (mOp A7 (mOp AM (AC 4) (mC (.int 0))) (mC Jt))) (Am (AJ fI (AD (AC 0) (AD (AC 1) (AD (AC 2) AN))))) BB)
  (AY (sIf (AS (mOp Rb (mOp AM (AC 4) (mC (.int 3))) (mOp AM (mOp AM (mOp AM (mUn (By "Plan" "making") (AC 0)) (mC (.int 4))) (AC 3)) (mC (.int 1))))) (Am (AJ d8 (AD (mC (.str "long")) (AD (AC 0) (AD (AC 3) (AD (AJ BM AN) AN)))))) BB)
  (AY (Ai (CN "Plan" "row_at" dq (AC 0) (AD (AC 3) (AD (mOp AM (AC 4) (mC (.int 0))) AN))) (AR 5))
  (AY (sIf (AS (mOp A7 (mOp AM (AC 5) (mC (.int 0))) (mC (.str "get")))) (Am (AJ fL (AD (AC 0) (AD (AC 1) (AD (AC 2) (AD (AC 5) AN)))))) BB)
  (AY (sIf (AS (mOp (DK false) (mOp AM (AC 4) (mC (.int 1))) (mC .non))) (Am (AJ fK (AD (AC 0) (AD (AC 1) (AD (AC 3) (AD (AC 5) AN)))))) BB)
  (AY (Ai (CN "Plan" "place_of" dj (AC 0) (AD (AC 5) AN)) (AR 6))
  (Am (AJ eD (AD (AC 0) (AD (AC 1) (AD (AC 3) (AD (AC 6) (AD (mOp AM (mOp AM (mOp AM (AC 1) (mC (.int 1))) (AC 6)) (mC (.int 1))) AN)))))))))))))))
noncomputable def Lz(w:World)(d7:List D->M D)(eA:List D->M D):Sl->M (Fl×Sl):=
  (AY (Ai (mOp AM (AC 2) (mC (.int 0))) (AR 3))
  (AY (Ai (mOp AM (AC 2) (mC (.int 1))) (AR 4))
  (AY (Ai (mIf (AS (mOp A7 (AC 3) (mC (.int 0)))) (AJ As (AD (mC (.str "begin")) (AD (mOp AM (mUn (By "Plan" "names") (AC 0)) (AC 3)) (AD (AC 4) AN)))) (AJ As (AD (mC (.str "begin")) (AD (mOp AM (mUn (By "Plan" "names") (AC 0)) (AC 3)) AN)))) (AR 5))
  (AY (Ai (CN "Plan" "claim_on" d7 (AC 0) (AD (mOp AM (AC 1) (mC (.int 2))) (AD (mC (.str "begin")) (AD (AC 3) (AD (AC 4) AN))))) (AR 6))
  (Am (AJ eA (AD (AC 0) (AD (AJ As (AD (mOp AM (AC 1) (mC (.int 0))) (AD (mOp AM (AC 1) (mC (.int 1))) (AD (AC 6) AN)))) (AD (AC 3) (AD (AJ As (AD (mC (.int 0)) (AD (AC 4) (AD (mC (.int 0)) (AD (mOp AM (mOp AM (mOp AM (AC 1) (mC (.int 0))) (AC 3)) (mC (.int 4))) AN))))) (AD (AJ BM (AD (AC 5) AN)) AN)))))))))))
noncomputable def NW(w:World)(dj:List D->M D)(dw:List D->M D)(eG:List D->M D)(du:List D->M D)(di:List D->M D)(eA:List D->M D):Sl->M (Fl×Sl):=
  (AY (Ai (mOp AM (AC 2) (mC (.int 0))) (AR 4))
  (AY (Ai (mOp AM (mOp AM (AC 1) (mC (.int 0))) (AC 4)) (AR 5))
  (AY (Ai (CN "Plan" "place_of" dj (AC 0) (AD (AC 3) AN)) (AR 6))
  (AY (Ai (mOp AM (mOp AM (mUn (By "Plan" "making") (AC 0)) (mC (.int 3))) (AC 6)) (AR 7))
  (AY (Ai (mOp AM (mOp AM (AC 1) (mC (.int 1))) (AC 6)) (AR 8))
  (AY (sIf (DA (AS (mOp Ce (mOp AM (AC 7) (mC (.int 1))) (mC (.str "whole")))) (AS (mOp (DK false) (mOp AM (AC 5) (mC (.int 1))) (mC .non)))) (AY (Ai (mIf (AS (mOp A7 (mOp AM (AC 8) (mC (.int 1))) (mC DB))) (AJ As (AD (mOp AM (AC 8) (mC (.int 0))) AN)) (AJ dw (AD (mOp AM (AC 7) (mC (.int 1))) (AD (mOp AM (AC 7) (mC (.int 2))) (AD (Fa (AC 8) Ch (EB (mC (.int 1)))) (AD (mOp AM (AC 8) (mC (.int 1))) AN)))))) (AR 9))
  (Am (AJ As (AD (AJ du (AD (AC 1) (AD (AC 4) (AD (AJ eG (AD (AC 5) (AD (AC 9) AN))) AN)))) (AD (mC .non) (AD (AJ BM AN) AN)))))) BB)
  (AY (Ai (mIf (AS (mOp A7 (mOp AM (AC 7) (mC (.int 1))) (mC (.str "whole")))) (mOp AM (AC 8) (mC (.int 0))) (mOp AM (AC 2) (mC (.int 1)))) (AR 10))
  (AY (Ai (AJ di (AD (mOp AM (AC 5) (mC (.int 4))) (AD (BT K5 (mOp AM (mUn (By "Plan" "variables") (AC 0)) (AC 4)) (AD (mOp AM (AC 3) (mC (.int 1))) AN)) (AD (AC 10) AN)))) (AR 11))
  (Am (AJ eA (AD (AC 0) (AD (AC 1) (AD (AC 4) (AD (AJ As (AD (mOp A5 (mOp AM (AC 5) (mC (.int 0))) (mC (.int 1))) (AD (mOp AM (AC 5) (mC (.int 2))) (AD (mOp A5 (mOp AM (AC 5) (mC (.int 3))) (mC (.int 1))) (AD (AC 11) AN))))) (AD (AJ BM AN) AN)))))))))))))))
noncomputable def Uu(w:World)(dj:List D->M D)(dn:List D->M D)(dt:List D->M D)(d8:List D->M D)(eD:List D->M D)(eV:List D->M D)(di:List D->M D)(eG:List D->M D)(du:List D->M D):Sl->M (Fl×Sl):=
  (AY (Ai (mOp AM (mOp AM (AC 1) (mC (.int 0))) (AC 2)) (AR 4))
  (AY (Ai (CN "Plan" "place_of" dj (AC 0) (AD (AC 3) AN)) (AR 5))
  (AY (Ai (mOp AM (mOp AM (mUn (By "Plan" "making") (AC 0)) (mC (.int 3))) (AC 5)) (AR 6))
  (AY (Ai (AJ dt (AD (mOp AM (AC 3) (mC (.int 2))) (AD (CN "Plan" "named_numbers" dn (AC 0) (AD (AC 2) (AD (mOp AM (AC 4) (mC (.int 2))) (AD (mOp AM (AC 4) (mC (.int 4))) AN)))) AN))) (AR 7))
  (AY (sIf (AS (mOp Rb (AC 7) (mOp AM (AC 6) (mC (.int 2))))) (Am (AJ d8 (AD (mC (.str "great")) (AD (AC 0) (AD (AC 2) (AD (AJ BM AN) AN)))))) BB)
  (AY (sIf (AS (mOp A7 (mOp AM (AC 6) (mC (.int 1))) (mC (.str "whole")))) (Am (AJ eD (AD (AC 0) (AD (AC 1) (AD (AC 2) (AD (AC 5) (AD (AC 7) AN))))))) BB)
  (AY (Ai (Bp 2 [5,0,7] (HE (AD (mOp AM (AC 1) (mC (.int 0))) AN)) (Eg [0,1]) C3 (AJ eV (AD (AC 3) (AD (AC 0) (AD (AC 1) (AD (AC 2) (AD (AC 4) AN)))))) BM) (AR 8))
  (AY (Ai (AJ di (AD (mOp AM (AC 1) (mC (.int 1))) (AD (AC 5) (AD (AJ As (AD (mOp AM (mOp AM (mOp AM (AC 1) (mC (.int 1))) (AC 5)) (mC (.int 0))) (AD (AC 7) AN))) AN)))) (AR 9))
  (Am (AJ As (AD (AJ du (AD (AJ As (AD (AJ C9 (AD (AC 8) AN)) (AD (AC 9) (AD (mOp AM (AC 1) (mC (.int 2))) AN)))) (AD (AC 2) (AD (AJ eG (AD (AC 4) (AD (AJ As AN) AN))) AN)))) (AD (mC .non) (AD (AJ BM AN) AN)))))))))))))
noncomputable def Hn(w:World)(di:List D->M D)(eA:List D->M D):Sl->M (Fl×Sl):=
  (AY (Ai (mOp AM (mOp AM (AC 1) (mC (.int 0))) (AC 2)) (AR 5))
  (AY (Ai (AJ As (AD (mOp AM (AC 1) (mC (.int 0))) (AD (AJ di (AD (mOp AM (AC 1) (mC (.int 1))) (AD (AC 3) (AD (AJ As (AD (AC 4) (AD (mC DB) AN))) AN)))) (AD (mOp AM (AC 1) (mC (.int 2))) AN)))) (AR 6))
  (Am (AJ eA (AD (AC 0) (AD (AC 6) (AD (AC 2) (AD (AJ As (AD (mOp A5 (mOp AM (AC 5) (mC (.int 0))) (mC (.int 1))) (AD (mOp AM (AC 5) (mC (.int 2))) (AD (mOp A5 (mOp AM (AC 5) (mC (.int 3))) (mC (.int 1))) (AD (mOp AM (AC 5) (mC (.int 4))) AN))))) (AD (AJ BM AN) AN)))))))))
noncomputable def Ku(w:World): Sl->M (Fl×Sl):=
  (Am (AJ As (AD (mOp AM (AC 0) (mC (.int 0))) (AD (AC 1) (AD (mOp AM (AC 0) (mC (.int 2))) (AD (mOp A5 (mOp AM (AC 0) (mC (.int 3))) (mC (.int 1))) (AD (mOp AM (AC 0) (mC (.int 4))) AN)))))))
noncomputable def ET(w:World)(dq:List D->M D)(dj:List D->M D)(dw:List D->M D)(di:List D->M D):Sl->M (Fl×Sl):=
  (AY (sIf (AS (mOp (DK false) (mOp AM (AC 2) (mC (.int 1))) (mC .non))) (Am (AC 2)) BB)
  (AY (Ai (CN "Plan" "row_at" dq (AC 0) (AD (AC 1) (AD (mOp AM (AC 2) (mC (.int 0))) AN))) (AR 5))
  (AY (sIf (mOr (AS (mOp Ce (mOp AM (AC 5) (mC (.int 0))) (mC (.str "get")))) (AS (mOp Ce (CN "Plan" "place_of" dj (AC 0) (AD (AC 5) AN)) (AC 3)))) (Am (AC 2)) BB)
  (AY (Ai (mOp AM (mOp AM (mUn (By "Plan" "making") (AC 0)) (mC (.int 3))) (AC 3)) (AR 6))
  (Am (AJ di (AD (AC 2) (AD (mC (.int 1)) (AD (AJ dw (AD (mOp AM (AC 6) (mC (.int 1))) (AD (mOp AM (AC 6) (mC (.int 2))) (AD (mOp AM (AC 2) (mC (.int 1))) (AD (AC 4) AN))))) AN)))))))))
noncomputable def Hm(w:World)(di:List D->M D):Sl->M (Fl×Sl):=
  (Am (AJ As (AD (AJ di (AD (mOp AM (AC 0) (mC (.int 0))) (AD (AC 1) (AD (AC 2) AN)))) (AD (mOp AM (AC 0) (mC (.int 1))) (AD (mOp AM (AC 0) (mC (.int 2))) AN)))))
noncomputable def HD(w:World)(eQ:List D->M D)(du:List D->M D)(d8:List D->M D)(d7:List D->M D):Sl->M (Fl×Sl):=
  (AY (Ai (CN "Plan" "way_on" eQ (AC 0) (AD (AC 2) (AD (mOp AM (AC 3) (mC (.int 0))) (AD (mOp AM (AC 3) (mC (.int 1))) (AD (mOp AM (AC 3) (mC (.int 3))) AN))))) (AR 5))
  (AY (sIf (AS (mOp A7 (mOp AM (AC 5) (mC (.int 0))) (mC (.str "stands")))) (Am (AJ As (AD (AJ du (AD (AC 1) (AD (AC 2) (AD (AJ As (AD (mOp AM (AC 5) (mC (.int 1))) (AD (mC .non) (AD (mOp AM (AC 3) (mC (.int 1))) (AD (mOp AM (AC 3) (mC (.int 2))) (AD (mOp AM (AC 5) (mC (.int 2))) AN)))))) AN)))) (AD (mC .non) (AD (AC 4) AN))))) BB)
  (AY (sIf (AS (mOp Ce (mOp AM (AC 5) (mC (.int 0))) (mC (.str "ends")))) (Am (AJ d8 (AD (mOp AM (AC 5) (mC (.int 0))) (AD (AC 0) (AD (AC 2) (AD (AC 4) AN)))))) BB)
  (AY (Ai (mOp AM (mUn (By "Plan" "names") (AC 0)) (AC 2)) (AR 6))
  (AY (Ai (mOp A5 (AC 4) (AJ BM (AD (mIf (AS (mOp A7 (AC 2) (mC (.int 0)))) (AJ As (AD (mC (.str "end")) (AD (AC 6) AN))) (AJ As (AD (mC (.str "end")) (AD (AC 6) (AD (mOp AM (AC 5) (mC (.int 3))) AN))))) AN))) (AR 7))
  (AY (Ai (CN "Plan" "claim_on" d7 (AC 0) (AD (mOp AM (AC 1) (mC (.int 2))) (AD (mC (.str "end")) (AD (AC 2) (AD (mOp AM (AC 5) (mC (.int 3))) AN))))) (AR 8))
  (AY (sIf (AS (mOp (DK false) (AC 8) (mC .non))) (Am (AJ d8 (AD (mC (.str "tells")) (AD (AC 0) (AD (AC 2) (AD (AC 7) AN)))))) BB)
  (AY (Ai (AJ As (AD (mC Jt) (AD (mC .non) (AD (mC (.int 0)) (AD (mC (.int 0)) (AD (mOp AM (AC 5) (mC (.int 2))) AN)))))) (AR 9))
  (Am (AJ As (AD (AJ du (AD (AJ As (AD (mOp AM (AC 1) (mC (.int 0))) (AD (mOp AM (AC 1) (mC (.int 1))) (AD (AC 8) AN)))) (AD (AC 2) (AD (AC 9) AN)))) (AD (mC .non) (AD (AC 7) AN)))))))))))))
noncomputable def Ja(w:World): Sl->M (Fl×Sl):=
  (AY (sIf (AS (mOp NE (AC 1) (AJ Jf (AD (AC 0) AN)))) (Am (mOp AM (AC 0) (AC 1))) BB)
  (Am (mC (.int 0))))
noncomputable def Kv(w:World): Sl->M (Fl×Sl):=
  (AY (Ai (AJ GS AN) (AR 2))
  (AY (sIf (AS (mOp Rb (AC 0) (mOp UK (mC (.int 10)) (mC (.int 40))))) (AY (Ai (mOp DS (AC 0) (mC (.int 7))) (AR 3))
  (AY (G6 (NX (AD (AC 1) AN)) (AR 4) (AY (D4 (BT Hb (AC 2) (AD (mOp C1 (AC 3) (mC (.int 10000019))) AN)))
  (Ai (mOp DS (AC 3) (mC (.int 10000019))) (AR 3))))
  (Am (mOp UB (AC 2) (mUn FC (mC (.int 1))))))) BB)
  (AY (Ai (mOp C1 (mOp GP (mOp A5 (mOp C1 (AC 0) (mC (.int 2147483647))) (mC (.int 1))) (mC (.int 48271))) (mC (.int 2147483647))) (AR 5))
  (AY (Ai (mOp C1 (mOp GP (mOp A5 (mOp C1 (AC 0) (mC (.int 1000003))) (mC (.int 1))) (mC (.int 69621))) (mC (.int 2147483629))) (AR 6))
  (AY (G6 (NX (AD (AC 1) AN)) (AR 4) (AY (Ai (mOp A5 (mOp A5 (mOp C1 (mOp GP (AC 5) (mOp A5 (mOp DS (AC 5) (mC (.int 1009))) (mC (.int 69621)))) (mC (.int 2147483647))) (AC 4)) (mC (.int 1))) (AR 5))
  (AY (Ai (mOp C1 (mOp GP (AC 6) (mC (.int 48271))) (mC (.int 2147483629))) (AR 6))
  (D4 (BT Hb (AC 2) (AD (mOp A5 (AC 5) (AC 6)) AN))))))
  (Am (AC 2)))))))
noncomputable def Kw(w:World): Sl->M (Fl×Sl):=
  (AY (Ai (AJ As (AD (mC (.str "a")) (AD (AC 0) (AD (AC 1) (AD (AC 2) (AD (mC (.str "w")) AN)))))) (AR 3))
  (AY (Ai (AJ As (AD (AJ As (AD (mC (.str "get")) (AD (mC (.str "x")) (AD (mC (.str "a")) AN)))) (AD (AJ As (AD (mC (.str "get")) (AD (mC (.str "y")) (AD (mC (.str "b")) AN)))) (AD (AJ As (AD (mC (.str "tell")) (AD (AJ As (AD (mC (.str "var")) (AD (mC (.str "x")) AN))) AN))) AN)))) (AR 4))
  (AY (Ai (AJ As (AD (AJ As (AD (mC (.str "w")) (AD (mC (.int 9)) (AD (AJ As (AD (AJ As (AD (mC (.str "put")) (AD (mC (.str "a")) (AD (AJ As (AD (mC (.str "var")) (AD (mC (.str "v")) AN))) AN)))) AN)) AN)))) (AD (AJ As (AD (mC (.str "r")) (AD (mC (.int 9)) (AD (AC 4) AN)))) (AD (AJ As (AD (mC (.str "s")) (AD (mC (.int 9)) (AD (AC 4) AN)))) AN)))) (AR 5))
  (Am (AJ As (AD (mC (.str "safe")) (AD (mC (.int 10)) (AD (AC 2) (AD (AJ As (AD (AC 3) (AD (AJ As (AD (mC (.str "b")) (AD (mC (.str "whole")) (AD (mC (.int 2)) (AD (mC (.int 0)) (AD (mC (.str "w")) AN)))))) AN))) (AD (AC 5) AN))))))))))
noncomputable def Uw(w:World): Sl->M (Fl×Sl):=
  (AY (Ai (AC 2) (AR 5))
  (AY (Ai (AJ GS AN) (AR 6))
  (AY (Tu 1000 (AC 3) (Eg [7,8,9]) (sIf (DA (AS (mOp (DK true) (AC 9) (mC .non))) (AS (mOp NE (AC 9) (AC 4)))) (Ai (AC 7) (AR 5)) (D4 (BT Hb (AC 6) (AD (AC 7) AN)))))
  (AY (sIf (DA (AS (mOp A7 (AC 1) (mC (.str "safe")))) (AS (mOp Ce (AC 6) (AJ BM AN)))) (Am (mUn (JI D.lst) (AC 0))) BB)
  (Am (mUn CV (mOp Lp (AJ BM (AD (AC 5) AN)) (AC 6))))))))
noncomputable def QZ(w:World)(fF:List D->M D)(eP:List D->M D)(eo:List D->M D)(fJ:List D->M D)(fB:List D->M D):Sl->M (Fl×Sl):=
  (AY (Ai (AJ fF (AD (AC 1) (AD (AC 2) (AD (AC 3) AN)))) (AR 4))
  (AY (Ai (AJ eP (AD (AC 4) AN)) (AR 5))
  (AY (Ai (AJ GS AN) (AR 6))
  (AY (Ai (Jc [.inr "r",.inr "s"] (AD (mC .non) (AD (mC .non) AN))) (AR 7))
  (AY (G6 (NX (AD (mC (.int 30)) AN)) (AR 8) (AY (Ai (AJ eo (AD (AC 4) (AD (AC 5) AN))) (AR 9))
  (AY (G6 (EA (AJ BM (AD (mC (.int 1)) (AD (mC (.int 2)) AN)))) (AR 10) (AY (Ai (mOp AM (mC (.str "rs")) (mOp Kk (AC 10) (mC (.int 1)))) (AR 11))
  (sIf (DA (AS (mOp A7 (mOp AM (mOp AM (mOp AM (AC 5) (mC (.int 0))) (AC 10)) (mC (.int 0))) (mC (.int 0)))) (AS (mOp (DK true) (mOp AM (mOp AM (mOp AM (AC 5) (mC (.int 0))) (AC 10)) (mC (.int 1))) (mC .non)))) (AY (Ai (AJ fJ (AD (AC 2) (AD (AC 1) (AD (AC 3) (AD (AC 6) (AD (mOp Gg (AC 7) (AC 11)) AN)))))) (AR 12))
  (sIf (mOr (AS (mOp Ce (Bp 2 [11] (EA (AC 9)) (Eg [0,1]) (AS (mOp A7 (AC 0) (AC 2))) (AC 1) BM) (AC 12))) (AS (mOp Ce (mOp AM (mOp AM (mOp AM (AC 5) (mC (.int 0))) (AC 10)) (mC (.int 1))) (AJ C9 (AD (AC 12) AN))))) (Am (mC (.bl false))) BB)) BB)))
  (AY (Ai (mOp AM (AC 9) (mOp C1 (mOp DS (Cq Lq (AC 0)) (mC (.int 3))) (AJ Jf (AD (AC 9) AN)))) (Eg [11,13]))
  (AY (Ai (Jb Ka (mC (.str "wrs")) (AD (AC 11) AN)) (AR 10))
  (AY (sIf (DA (AS (mOp A7 (AC 10) (mC (.int 0)))) (AS (mOp A7 (mOp AM (mOp AM (mOp AM (AC 5) (mC (.int 0))) (mC (.int 0))) (mC (.int 0))) (mUn FC (mC (.int 1)))))) (Ai (mOp C1 (AC 13) (AC 2)) (AR 13)) BB)
  (AY (Ai (Fa (mOp AM (mOp AM (AC 5) (mC (.int 0))) (AC 10)) Ch (EB (mC (.int 2)))) (Eg [14,15]))
  (AY (Ai (AJ fB (AD (AC 4) (AD (AC 5) (AD (AJ As (AD (AC 11) (AD (AC 13) AN))) AN)))) (Eg [16,17,18]))
  (AY (sIf (AS (mOp (DK true) (AC 17) (mC .non))) (Am (mC (.bl false))) BB)
  (AY (sIf (DA (AS (mOp A7 (AC 10) (mC (.int 0)))) (DA (AS (mOp A7 (AC 14) (mC (.int 0)))) (AS (mOp (DK false) (AC 15) (mC .non))))) (D4 (BT Hb (AC 6) (AD (AJ As (AD (mOp AM (mOp AM (mOp AM (AC 5) (mC (.int 0))) (mC (.int 0))) (mC (.int 2))) (AD (AC 8) (AD (mOp AM (AJ BM (AD (mC .non) (AD (AC 8) AN))) (AJ VA (AD (mOp A7 (AC 1) (mC (.str "whole"))) AN))) AN)))) AN))) (sIf (DA (AS (mOp A7 (AC 10) (mC (.int 0)))) (AS (mOp A7 (AC 14) (mC (.int 0))))) (Ai (mOp A5 (Fa (mOp AM (AC 6) (mUn FC (mC (.int 1)))) Ch (EB (mC (.int 2)))) (AJ As (AD (AC 8) AN))) (Vk (AC 6) (mUn FC (mC (.int 1))))) (sIf (DA (AS (mOp NF (AC 10) (mC (.int 0)))) (DA (AS (mOp A7 (AC 14) (mC (.int 0)))) (DA (AS (mOp (DK false) (AC 15) (mC .non))) (AS (mOp Ce (AC 1) (mC (.str "whole"))))))) (GO (AC 7) (AC 11) (AC 8)) (sIf (DA (AS (mOp NF (AC 10) (mC (.int 0)))) (AS (mOp A7 (AC 14) (mC (.int 0))))) (AY (Ai (AC 13) (AR 19))
  (AY (sIf (AS (mOp A7 (AC 1) (mC (.str "whole")))) (Ai (mOp AM (mOp A5 (AJ BM (AD (AC 3) AN)) (Bp 1 [] (Qa (AC 6)) (AR 0) C3 (mOp AM (AC 0) (mC (.int 0))) BM)) (mUn FC (mC (.int 1)))) (AR 19)) BB)
  (sIf (mOr (AS (mOp Ce (mOp AM (mOp AM (mOp AM (mOp AM (AC 16) (mC (.int 0))) (AC 10)) (mC (.int 4))) (mC (.int 0))) (AC 19))) (AS (mOp Ce (mOp AM (mOp AM (mOp AM (AC 16) (mC (.int 0))) (AC 10)) (mC (.int 0))) (mC (.int 1))))) (Am (mC (.bl false))) BB))) BB))))
  (Ai (AC 16) (AR 5))))))))))))
  (Am (mC (.bl true))))))))
noncomputable def Yh(w:World)(ee:List D->M D)(fD:List D->M D)(fH:List D->M D):Sl->M (Fl×Sl):=
  (AY (Ai (AJ fD (AD (AJ ee (AD (AC 0) (AD (mC (.int 0)) AN))) (AD (mC (.int 140)) AN))) (AR 1))
  (AY (G6 (EA (AJ BM (AD (mC (.str "safe")) (AD (mC (.str "steady")) (AD (mC (.str "whole")) AN))))) (AR 2) (AY (Ai (mOp A5 (mC (.int 2)) (mOp C1 (mOp DS (Cq Lq (AC 1)) (mC (.int 3))) (mC (.int 9)))) (AR 3))
  (sIf (Rq (AS (AJ fH (AD (AC 1) (AD (AC 2) (AD (AC 3) (AD (mOp C1 (mOp DS (Cq Lq (AC 1)) (mC (.int 3))) (AC 3)) AN))))))) (Am (mC (.bl false))) BB)))
  (Am (mC (.bl true)))))
noncomputable def YK:List Str:=["making", "names", "variables", "places", "ways", "claims"]
def top(i:Nat):Stmt:=PySem.Challenge.pw_strongboxes_k22_a_get_beside_puts.main.body.getD i (.Pass ⟨0,0,0,0⟩)
section
abbrev Tr:Stmt:=top 14
abbrev Lg:Stmt:=top 11
abbrev KG:Stmt:=top 13
abbrev G5:Stmt:=top 25
abbrev Mz:Stmt:=top 26
abbrev Ts:Stmt:=top 50
abbrev Ff:Stmt:=top 4
theorem sc_claim_begun:Ae ["making", "readers"] ["making"] (AO Ff):=⟨rfl,rfl,rfl,by decide +kernel,rfl,by decide +kernel,by decide +kernel⟩
abbrev E8:Stmt:=top 5
theorem sc_claim_writes:Ae ["making", "claim", "worth", "tells"] ["making", "claim", "worth"] (AO E8):=⟨rfl,rfl,rfl,by decide +kernel,rfl,by decide +kernel,by decide +kernel⟩
abbrev Ei:Stmt:=top 6
theorem sc_claim_written:Ae ["making", "claim"] ["making", "claim"] (AO Ei):=⟨rfl,rfl,rfl,by decide +kernel,rfl,by decide +kernel,by decide +kernel⟩
abbrev Fe:Stmt:=top 7
theorem sc_claim_reads:Ae ["making", "claim", "reader", "told"] ["making", "claim", "reader"] (AO Fe):=⟨rfl,rfl,rfl,by decide +kernel,rfl,by decide +kernel,by decide +kernel⟩
abbrev GM:Stmt:=top 8
theorem sc_claim_told:Ae ["making", "claim", "reader", "worth", "left"] ["making", "claim", "reader", "worth"] (AO GM):=⟨rfl,rfl,rfl,by decide +kernel,rfl,by decide +kernel,by decide +kernel⟩
abbrev M0:Stmt:=top 9
theorem sc_beside:Ae ["kind", "size", "worths", "coming"] ["kind", "size", "worths", "coming"] (AO M0):=⟨rfl,rfl,rfl,by decide +kernel,rfl,by decide +kernel,by decide +kernel⟩
abbrev GL:Stmt:=top 10
theorem sc_with_thing:Ae ["things", "place", "thing"] ["things", "place", "thing"] (AO GL):=⟨rfl,rfl,rfl,by decide +kernel,rfl,by decide +kernel,by decide +kernel⟩
abbrev JC:Stmt:=top 22
theorem sc_is_whole:Ae ["thing", "least", "most"] ["thing", "least", "most"] (AO JC):=⟨rfl,rfl,rfl,by decide +kernel,rfl,by decide +kernel,by decide +kernel⟩
abbrev E7:Stmt:=top 23
theorem sc_variables_in:Ae ["expression", "names", "part"] ["expression"] (AO E7):=⟨rfl,rfl,rfl,by decide +kernel,rfl,by decide +kernel,by decide +kernel⟩
abbrev Hj:Stmt:=top 24
theorem sc_number_of:Ae ["expression", "numbers", "word", "first"] ["expression", "numbers"] (AO Hj):=⟨rfl,rfl,rfl,by decide +kernel,rfl,by decide +kernel,by decide +kernel⟩
abbrev JD:Stmt:=top 29
theorem sc_is_tuple:Ae ["thing", "least", "most"] ["thing", "least", "most"] (AO JD):=⟨rfl,rfl,rfl,by decide +kernel,rfl,by decide +kernel,by decide +kernel⟩
abbrev E6:Stmt:=top 30
theorem sc_variables_of:Ae ["row", "names", "part", "thing"] ["row"] (AO E6):=⟨rfl,rfl,rfl,by decide +kernel,rfl,by decide +kernel,by decide +kernel⟩
abbrev E9:Stmt:=top 32
theorem sc_claim_behind:Ae ["making", "claim", "act", "begins", "reader"] ["making", "claim", "act"] (AO E9):=⟨rfl,rfl,rfl,by decide +kernel,rfl,by decide +kernel,by decide +kernel⟩
abbrev El:Stmt:=K4 (top 35) 0
theorem sc_Plan___init__:Ae ["self", "making", "place", "box"] ["self", "making"] (AO El):=⟨rfl,rfl,rfl,by decide +kernel,rfl,by decide +kernel,by decide +kernel⟩
abbrev Fh:Stmt:=K4 (top 35) 1
theorem sc_Plan_row_at:Ae ["self", "number", "at"] ["self", "number", "at"] (AO Fh):=⟨rfl,rfl,rfl,by decide +kernel,rfl,by decide +kernel,by decide +kernel⟩
abbrev Ej:Stmt:=K4 (top 35) 2
theorem sc_Plan_place_of:Ae ["self", "row"] ["self", "row"] (AO Ej):=⟨rfl,rfl,rfl,by decide +kernel,rfl,by decide +kernel,by decide +kernel⟩
abbrev C0:Stmt:=K4 (top 35) 3
theorem sc_Plan_named_numbers:Ae ["self", "number", "worth", "numbers", "named"] ["self", "number", "worth", "numbers"] (AO C0):=⟨rfl,rfl,rfl,by decide +kernel,rfl,by decide +kernel,by decide +kernel⟩
abbrev Fg:Stmt:=K4 (top 35) 4
theorem sc_Plan_way_on:Ae ["self", "number", "at", "worth", "numbers", "asked"] ["self", "number", "at", "worth", "numbers"] (AO Fg):=⟨rfl,rfl,rfl,by decide +kernel,rfl,by decide +kernel,by decide +kernel⟩
abbrev Ek:Stmt:=K4 (top 35) 5
theorem sc_Plan_claim_on:Ae ["self", "claim", "word", "number", "worth", "asked"] ["self", "claim", "word", "number", "worth"] (AO Ek):=⟨rfl,rfl,rfl,by decide +kernel,rfl,by decide +kernel,by decide +kernel⟩
abbrev DF:Stmt:=top 36
theorem sc_variables_of_rows:Ae ["rows", "names", "row"] ["rows"] (AO DF):=⟨rfl,rfl,rfl,by decide +kernel,rfl,by decide +kernel,by decide +kernel⟩
abbrev Hh:Stmt:=top 37
theorem sc_way_found:Ae ["plan", "number", "at", "worth", "numbers", "rows", "named", "later", "row", "told"] ["plan", "number", "at", "worth", "numbers"] (AO Hh):=⟨rfl,rfl,rfl,by decide +kernel,rfl,by decide +kernel,by decide +kernel⟩
abbrev JE:Stmt:=top 38
theorem sc_followed:Ae ["rows", "at", "named", "kept_at", "kept_named", "span", "left"] ["rows", "at", "named"] (AO JE):=⟨rfl,rfl,rfl,by decide +kernel,rfl,by decide +kernel,by decide +kernel⟩
abbrev Fd:Stmt:=top 42
theorem sc_first_stand:Ae ["making"] ["making"] (AO Fd):=⟨rfl,rfl,rfl,by decide +kernel,rfl,by decide +kernel,by decide +kernel⟩
abbrev Iz:Stmt:=top 43
theorem sc_steps_of:Ae ["making", "stand", "plan"] ["making", "stand"] (AO Iz):=⟨rfl,rfl,rfl,by decide +kernel,rfl,by decide +kernel,by decide +kernel⟩
abbrev Kb:Stmt:=top 44
theorem sc_stepped:Ae ["making", "stand", "step", "plan", "move"] ["making", "stand", "step"] (AO Kb):=⟨rfl,rfl,rfl,by decide +kernel,rfl,by decide +kernel,by decide +kernel⟩
abbrev Fc:Stmt:=top 45
theorem sc_stand_begun:Ae ["plan", "hands", "boxes"] ["plan"] (AO Fc):=⟨rfl,rfl,rfl,by decide +kernel,rfl,by decide +kernel,by decide +kernel⟩
abbrev JB:Stmt:=top 46
theorem sc_moves_of:Ae ["plan", "stand", "moves", "number", "hand", "pick"] ["plan", "stand"] (AO JB):=⟨rfl,rfl,rfl,by decide +kernel,rfl,by decide +kernel,by decide +kernel⟩
abbrev JA:Stmt:=top 47
theorem sc_picks_of:Ae ["plan", "number", "hand"] ["plan", "number", "hand"] (AO JA):=⟨rfl,rfl,rfl,by decide +kernel,rfl,by decide +kernel,by decide +kernel⟩
abbrev Kc:Stmt:=top 48
theorem sc_move_of:Ae ["plan", "stand", "step", "move"] ["plan", "stand", "step"] (AO Kc):=⟨rfl,rfl,rfl,by decide +kernel,rfl,by decide +kernel,by decide +kernel⟩
abbrev P5:Stmt:=top 49
theorem sc_moved:Ae ["plan", "stand", "move", "number", "hand", "row", "place"] ["plan", "stand", "move"] (AO P5):=⟨rfl,rfl,rfl,by decide +kernel,rfl,by decide +kernel,by decide +kernel⟩
abbrev P6:Stmt:=top 51
theorem sc_begun:Ae ["plan", "stand", "move", "number", "worth", "event", "claim"] ["plan", "stand", "move"] (AO P6):=⟨rfl,rfl,rfl,by decide +kernel,rfl,by decide +kernel,by decide +kernel⟩
abbrev Yd:Stmt:=top 52
theorem sc_got:Ae ["plan", "stand", "move", "row", "number", "hand", "place", "box", "there", "may", "worth", "numbers"] ["plan", "stand", "move", "row"] (AO Yd):=⟨rfl,rfl,rfl,by decide +kernel,rfl,by decide +kernel,by decide +kernel⟩
abbrev Yb:Stmt:=top 53
theorem sc_put:Ae ["plan", "stand", "number", "row", "hand", "place", "box", "worth", "hands", "boxes"] ["plan", "stand", "number", "row"] (AO Yb):=⟨rfl,rfl,rfl,by decide +kernel,rfl,by decide +kernel,by decide +kernel⟩
abbrev Hi:Stmt:=top 54
theorem sc_put_ended:Ae ["plan", "stand", "number", "place", "worth", "hand", "later"] ["plan", "stand", "number", "place", "worth"] (AO Hi):=⟨rfl,rfl,rfl,by decide +kernel,rfl,by decide +kernel,by decide +kernel⟩
abbrev Ke:Stmt:=top 55
theorem sc_between:Ae ["hand", "half"] ["hand", "half"] (AO Ke):=⟨rfl,rfl,rfl,by decide +kernel,rfl,by decide +kernel,by decide +kernel⟩
abbrev GN:Stmt:=top 56
theorem sc_beside_put:Ae ["plan", "number", "hand", "place", "worth", "row", "box"] ["plan", "number", "hand", "place", "worth"] (AO GN):=⟨rfl,rfl,rfl,by decide +kernel,rfl,by decide +kernel,by decide +kernel⟩
abbrev Hg:Stmt:=top 57
theorem sc_with_hand:Ae ["stand", "number", "hand"] ["stand", "number", "hand"] (AO Hg):=⟨rfl,rfl,rfl,by decide +kernel,rfl,by decide +kernel,by decide +kernel⟩
abbrev Kd:Stmt:=top 58
theorem sc_gone_on:Ae ["plan", "stand", "number", "deed", "events", "way", "name", "ended", "claim", "idle"] ["plan", "stand", "number", "deed", "events"] (AO Kd):=⟨rfl,rfl,rfl,by decide +kernel,rfl,by decide +kernel,by decide +kernel⟩
abbrev JF:Stmt:=top 60
theorem sc_Lcell_at:Ae ["_law_script", "_law_k"] ["_law_script", "_law_k"] (AO JF):=⟨rfl,rfl,rfl,by decide +kernel,rfl,by decide +kernel,by decide +kernel⟩
abbrev Kf:Stmt:=top 61
theorem sc_Lstream:Ae ["_law_cell", "_law_size", "_law_found", "_law_rest", "_law_k", "_law_number", "_law_other"] ["_law_cell", "_law_size"] (AO Kf):=⟨rfl,rfl,rfl,by decide +kernel,rfl,by decide +kernel,by decide +kernel⟩
abbrev Kg:Stmt:=top 62
theorem sc_Lmaking:Ae ["_law_kind", "_law_size", "_law_begin", "_law_box", "_law_rows", "_law_hands"] ["_law_kind", "_law_size", "_law_begin"] (AO Kg):=⟨rfl,rfl,rfl,by decide +kernel,rfl,by decide +kernel,by decide +kernel⟩
abbrev Tt:Stmt:=top 63
theorem sc_Lmay:Ae ["_law_size", "_law_kind", "_law_begin", "_law_puts", "_law_begun", "_law_last", "_law_beside", "_law_worth", "_law_start", "_law_end"] ["_law_size", "_law_kind", "_law_begin", "_law_puts", "_law_begun"] (AO Tt):=⟨rfl,rfl,rfl,by decide +kernel,rfl,by decide +kernel,by decide +kernel⟩
abbrev P7:Stmt:=top 64
theorem sc_Lwalk:Ae ["_law_xs", "_law_kind", "_law_size", "_law_begin", "_law_making_here", "_law_stand", "_law_puts", "_law_begun", "_law_time", "_law_steps", "_law_k", "_law_name", "_law_due", "_law_pick", "_law_at", "_law_half", "_law_later", "_law_broken", "_law_events", "_law_worth"] ["_law_xs", "_law_kind", "_law_size", "_law_begin"] (AO P7):=⟨rfl,rfl,rfl,by decide +kernel,rfl,by decide +kernel,by decide +kernel⟩
abbrev Yc:Stmt:=top 65
theorem sc_law:Ae ["_law_script", "_law_xs", "_law_kind", "_law_size"] ["_law_script"] (AO Yc):=⟨rfl,rfl,rfl,by decide +kernel,rfl,by decide +kernel,by decide +kernel⟩
end
noncomputable def Eb(w:World):List D->M D:=An .drop 2 2 (Ja w)
noncomputable def FW(w:World):List D->M D:=An .all 7 2 (Kv w)
noncomputable def FX(w:World):List D->M D:=An .drop 6 3 (Kw w)
noncomputable def Bz(w:World):Nat->List D->M D
 |0=>λ_=>BG
 |n+1=>An .frz 3 1 (FJ w (Bz w n))
noncomputable def Cc(w:World):List D->M D:=An .frz 4 1 (FI w (Bz w 6))
noncomputable def BE(w:World):List D->M D:=An .drop 3 1 (B9 w (Cc w))
noncomputable def BY(w:World):List D->M D:=An .all 4 2 (Er w (BE w))
noncomputable def Cu(w:World):List D->M D:=An .drop 2 1 (Fp w)
noncomputable def Dq(w:World):List D->M D:=An .drop 3 1 (Fk w (Cu w))
noncomputable def Cr(w:World):List D->M D:=An .drop 1 1 (Fm w (BY w) (Dq w))
noncomputable def BR(w:World):List D->M D:=An .drop 3 3 (Dl w)
noncomputable def Cj(w:World):List D->M D:=An .drop 3 3 (F5 w (BR w))
noncomputable def DV(w:World):List D->M D:=An .frz 6 2 (JV w (Cj w))
noncomputable def EX(w:World):List D->M D:=An .frz 3 2 (JU w (BY w) (DV w))
noncomputable def Jr(w:World):List D->M D:=An .drop 10 5 (Uw w)
noncomputable def EZ(w:World):List D->M D:=An .drop 3 3 (JX w)
noncomputable def EY(w:World):List D->M D:=An .drop 3 3 (JW w)
noncomputable def FV(w:World):List D->M D:=An .drop 4 3 (Kt w (EZ w) (EY w) (DV w))
noncomputable def Ea(w:World):List D->M D:=λ_=>BG
noncomputable def FP(w:World):List D->M D:=λ_=>BG
noncomputable def CF(w:World):List D->M D:=An .drop 4 4 (JZ w)
noncomputable def Cd(w:World):List D->M D:=An .drop 4 3 (FK w (Ea w) (FP w) (CF w))
noncomputable def Dr(w:World):List D->M D:=λ_=>BG
noncomputable def CH(w:World):List D->M D:=An .drop 2 2 (En w (Dr w) (FP w))
noncomputable def A6(w:World):List D->M D:=An .drop 3 3 (ER w)
noncomputable def Ct(w:World):List D->M D:=An .drop 4 3 (Fo w (Ea w) (FP w) (CF w) (A6 w))
noncomputable def DN(w:World):List D->M D:=An .drop 5 4 (GT w (Dr w) (FP w) (A6 w))
noncomputable def Av(w:World):List D->M D:=An .drop 5 3 (Bu w (Cd w) (CH w) (Ct w) (DN w))
noncomputable def Bm(w:World):List D->M D:=An .drop 6 5 (Ep w (Av w))
noncomputable def A4(w:World):List D->M D:=An .all 5 4 (Bv w)
noncomputable def Ck(w:World):List D->M D:=An .drop 7 3 (F6 w)
noncomputable def Hv(w:World):List D->M D:=λ_=>BG
noncomputable def EC(w:World):List D->M D:=λ_=>BG
noncomputable def CS(w:World):Nat->List D->M D
 |0=>λ_=>BG
 |n+1=>An .drop 4 2 (Ho w (CS w n) (Hv w) (EC w))
noncomputable def Ba(w:World):List D->M D:=An .drop 10 5 (FH w (A4 w) (Ck w) (CS w 6))
noncomputable def Cv(w:World):List D->M D:=An .drop 6 5 (Fq w (Ba w))
noncomputable def CQ(w:World):List D->M D:=An .drop 3 3 (Hm w (A6 w))
noncomputable def GY(w:World):List D->M D:=λ_=>BG
noncomputable def B3(w:World):List D->M D:=An .drop 10 5 (HD w (Cv w) (CQ w) (GY w) (Bm w))
noncomputable def IW(w:World):List D->M D:=An .drop 7 3 (Lz w (Bm w) (B3 w))
noncomputable def BO(w:World):List D->M D:=An .drop 2 2 (Eo w)
noncomputable def ED(w:World):List D->M D:=An .drop 2 2 (Ku w)
noncomputable def Jq(w:World):List D->M D:=An .drop 12 4 (NW w (BO w) (CF w) (ED w) (CQ w) (A6 w) (B3 w))
noncomputable def C6(w:World):List D->M D:=An .drop 7 5 (Hn w (A6 w) (B3 w))
noncomputable def B4(w:World):List D->M D:=An .drop 7 5 (ET w (BR w) (BO w) (CF w) (A6 w))
noncomputable def Qq(w:World):List D->M D:=An .drop 10 4 (Uu w (BO w) (A4 w) (CS w 6) (GY w) (C6 w) (B4 w) (A6 w) (ED w) (CQ w))
noncomputable def BQ(w:World):List D->M D:=An .drop 7 3 (ES w (IW w) (GY w) (BR w) (Jq w) (Qq w) (BO w) (C6 w))
noncomputable def BN(w:World):List D->M D:=An .drop 5 3 (Ks w (BY w) (FV w) (BQ w))
noncomputable def GZ(w:World):List D->M D:=An .drop 20 4 (QZ w (FX w) (Cr w) (EX w) (Jr w) (BN w))
noncomputable def No(w:World):List D->M D:=An .drop 4 1 (Yh w (Eb w) (FW w) (GZ w))
section
variable{α:Type}{P:List α->Prop}
theorem lq1(h:∀a,P [a]):∀us:List α,us.length=1->P us:=λus e=>by
 rcases us with _|⟨a,us⟩
 ·cases e
 ·cases List.eq_nil_of_length_eq_zero (Nat.succ.inj e);exact h a
theorem lqs{n:Nat}{P:List α->Prop}(h:∀a,∀us:List α,us.length=n->P (a::us)):∀us:List α,us.length=n+1->P us:=λus e=>by
 rcases us with _|⟨a,us⟩
 ·cases e
 ·exact h a us (Nat.succ.inj e)
theorem lq2(h:∀a b,P [a,b]):∀us:List α,us.length=2->P us:=lqs λa=>lq1 (P:=λl=>P (a::l)) (h a)
theorem lq3(h:∀a b c,P [a,b,c]):∀us:List α,us.length=3->P us:=lqs λa=>lq2 (P:=λl=>P (a::l)) (h a)
theorem lq4(h:∀a b c d,P [a,b,c,d]):∀us:List α,us.length=4->P us:=lqs λa=>lq3 (P:=λl=>P (a::l)) (h a)
theorem lq5(h:∀a b c d e,P [a,b,c,d,e]):∀us:List α,us.length=5->P us:=lqs λa=>lq4 (P:=λl=>P (a::l)) (h a)
end
structure Al(w:World)(K:PySem.W.Frag)(mg:Str->Option Value)(h:Heap):Prop where
 X:K.In h
 G:h.Ns mainGlobals mg
 e0:∃f fd,Df K "_law_cell_at" JF f fd
 e1:∃f fd,Df K "_law_stream" Kf f fd
 e2:∃f fd,Df K "_law_making" Kg f fd
 e3:∃f fd,Df K "variables_in" E7 f fd
 e4:∃f fd,Df K "variables_of" E6 f fd
 e5:∃f fd,Df K "variables_of_rows" DF f fd
 e6:∃C f fd,Di K "Plan" "Plan.__init__" El C f fd
 e7:∃f fd,Df K "claim_begun" Ff f fd
 e8:∃f fd,Df K "stand_begun" Fc f fd
 e9:∃f fd,Df K "first_stand" Fd f fd
 e10:∃C f fd,Dm K "Plan" "row_at" "Plan.row_at" Fh C f fd
 e11:∃f fd,Df K "picks_of" JA f fd
 e12:∃f fd,Df K "moves_of" JB f fd
 e13:∃f fd,Df K "steps_of" Iz f fd
 e14:∃f fd,Df K "_law_may" Tt f fd
 e15:∃f fd,Df K "is_tuple" JD f fd
 e16:∃f fd,Df K "is_whole" JC f fd
 e17:∃f fd,Df K "move_of" Kc f fd
 e18:∃f fd,Df K "case_begun" Lg f fd
 e19:∃f fd,Df K "closed" Tr f fd
 e20:∃f fd,Df K "beside" M0 f fd
 e21:∃f fd,Df K "claim_writes" E8 f fd
 e22:∃f fd,Df K "cases_ended" KG f fd
 e23:∃f fd,Df K "claim_written" Ei f fd
 e24:∃f fd,Df K "with_thing" GL f fd
 e25:∃f fd,Df K "claim_reads" Fe f fd
 e26:∃f fd,Df K "claim_told" GM f fd
 e27:∃f fd,Df K "claim_behind" E9 f fd
 e28:∃C f fd,Dm K "Plan" "claim_on" "Plan.claim_on" Ek C f fd
 e29:∃C f fd,Dm K "Plan" "named_numbers" "Plan.named_numbers" C0 C f fd
 e30:∃f fd,Df K "followed" JE f fd
 e31:∃f fd,Df K "one_where" Mz f fd
 e32:∃f fd,Df K "number_of_pair" G5 f fd
 e33:∃f fd,Df K "number_of" Hj f fd
 e34:∃f fd,Df K "way_found" Hh f fd
 e35:∃C f fd,Dm K "Plan" "way_on" "Plan.way_on" Fg C f fd
 e36:∃f fd,Df K "with_hand" Hg f fd
 e37:∃f fd,Df K "broken" Ts f fd
 e38:∃f fd,Df K "gone_on" Kd f fd
 e39:∃f fd,Df K "begun" P6 f fd
 e40:∃C f fd,Dm K "Plan" "place_of" "Plan.place_of" Ej C f fd
 e41:∃f fd,Df K "between" Ke f fd
 e42:∃f fd,Df K "got" Yd f fd
 e43:∃f fd,Df K "put_ended" Hi f fd
 e44:∃f fd,Df K "beside_put" GN f fd
 e45:∃f fd,Df K "put" Yb f fd
 e46:∃f fd,Df K "moved" P5 f fd
 e47:∃f fd,Df K "stepped" Kb f fd
 e48:∃f fd,Df K "_law_walk" P7 f fd
 e49:∃f fd,Df K "law" Yc f fd
 e50:∃C,Dc K "Plan" YK C
 y0:mg "bool" = none
 y1:mg "dict" = none
 y2:mg "enumerate" = none
 y3:mg "int" = none
 y4:mg "isinstance" = none
 y5:mg "len" = none
 y6:mg "list" = none
 y7:mg "range" = none
 y8:mg "set" = none
 y9:mg "sorted" = none
 y10:mg "tuple" = none
 y11:mg "zip" = none
 g0:Glo K mg "GREATEST" Ju
 g1:Glo K mg "IDLE" Jt
 g2:Glo K mg "NONE" DB
 g3:Glo K mg "UNCOUNTED" Hw
 g4:ao w K mg "PARTS" Pn
section
variable{P:Program}{w:World}{K:PySem.W.Frag}{mg:Str->Option Value}{base h:Heap}(a:Al w K mg h)
include a
theorem PR:Fn P w K mg base "_law_cell_at" ["_law_script", "_law_k"] 1 (Eb w):=by
 obtain⟨f,fd,d⟩:=a.e0;exact Ao (k:=0) .drop d.F sc_Lcell_at (PySem.W.mg_of a.X a.G d.a) (d.F.binds λ_ _ _ _ _ _=>lq2 λ_ _=>rfl) (λ_ _ _ _ _ _ hr=>have nd:=sc_Lcell_at.nd;(AF (Aw (AZ Xj (AA 1) (CD Jz a.y5 Mi.DY (AB (AA 0) AG))) (AL (Aa (AK AQ (AA 0) (AA 1)))) Ag) (AL (Aa AE))))
theorem SW:Fn P w K mg base "_law_stream" ["_law_cell", "_law_size"] 1 (FW w):=by
 obtain⟨f,fd,d⟩:=a.e1;exact Ao (k:=0) .all d.F sc_Lstream (PySem.W.mg_of a.X a.G d.a) (d.F.binds λ_ _ _ _ _ _=>lq2 λ_ _=>rfl) (λ_ _ _ _ _ _ hr=>have nd:=sc_Lstream.nd;(AF (AW 2 nd (EL AG)) (AF (Aw (AZ aC (AA 0) (A2 bp AE AE)) (AF (AW 3 nd (A2 HB (AA 0) AE)) (AF (DQ PassesOwn.never rfl (G9 a.y7 (AB (AA 1) AG)) (Db 4 nd) (AF (DJ (Bt PySem.F.slot_list_append PySem.F.type_list_append D9 (AA 2) (AB (A2 FE (AA 3) AE) AG))) (AL (AW 3 nd (A2 HB (AA 3) AE))))) (AL (Aa (Ze (AA 2) (M8 NL AE)))))) Ag) (AF (AW 5 nd (A2 FE (A2 NM (A2 BW (A2 FE (AA 0) AE) AE) AE) AE)) (AF (AW 6 nd (A2 FE (A2 NM (A2 BW (A2 FE (AA 0) AE) AE) AE) AE)) (AF (DQ PassesOwn.never rfl (G9 a.y7 (AB (AA 1) AG)) (Db 4 nd) (AF (AW 5 nd (A2 BW (A2 BW (A2 FE (A2 NM (AA 5) (A2 BW (A2 HB (AA 5) AE) AE)) AE) (AA 4)) AE)) (AF (AW 6 nd (A2 FE (A2 NM (AA 6) AE) AE)) (AL (DJ (Bt PySem.F.slot_list_append PySem.F.type_list_append D9 (AA 2) (AB (A2 BW (AA 5) (AA 6)) AG))))))) (AL (Aa (AA 2)))))))))
theorem SX:Fn P w K mg base "_law_making" ["_law_kind", "_law_size", "_law_begin"] 1 (FX w):=by
 obtain⟨f,fd,d⟩:=a.e2;exact Ao (k:=0) .drop d.F sc_Lmaking (PySem.W.mg_of a.X a.G d.a) (d.F.binds λ_ _ _ _ _ _=>lq3 λ_ _ _=>rfl) (λ_ _ _ _ _ _ hr=>have nd:=sc_Lmaking.nd;(AF (AW 3 nd (Ad (AB Ac (AB (AA 0) (AB (AA 1) (AB (AA 2) (AB Ac AG))))))) (AF (AW 4 nd (Ad (AB (Ad (AB Ac (AB Ac (AB Ac AG)))) (AB (Ad (AB Ac (AB Ac (AB Ac AG)))) (AB (Ad (AB Ac (AB (Ad (AB Ac (AB Ac AG))) AG))) AG))))) (AF (AW 5 nd (Ad (AB (Ad (AB Ac (AB AE (AB (Ad (AB (Ad (AB Ac (AB Ac (AB (Ad (AB Ac (AB Ac AG))) AG)))) AG)) AG)))) (AB (Ad (AB Ac (AB AE (AB (AA 4) AG)))) (AB (Ad (AB Ac (AB AE (AB (AA 4) AG)))) AG))))) (AL (Aa (Ad (AB Ac (AB AE (AB (AA 2) (AB (Ad (AB (AA 3) (AB (Ad (AB Ac (AB Ac (AB AE (AB AE (AB Ac AG)))))) AG))) (AB (AA 5) AG))))))))))))
theorem J9(n:Nat):Fn P w K mg base "variables_in" ["expression"] (n+1) (Bz w n):=by
 obtain⟨f,fd,d⟩:=a.e3
 induction n with
 |zero=>exact C5 d.F (PySem.W.mg_of a.X a.G d.a) (d.F.binds λ_ _ _ _ _ _=>lq1 λ_=>rfl)
 |succ n ih=>exact(Ao (k:=n+1) .frz d.F sc_variables_in (PySem.W.mg_of a.X a.G d.a) (d.F.binds λ_ _ _ _ _ _=>lq1 λ_=>rfl) (λ_ _ _ _ _ _ hr=>have nd:=sc_variables_in.nd;(AF (Aw (AZ (BV hr) (AK AQ (AA 0) AE) Ac) (AL (Aa (B8 AG))) Ag) (AF (Aw (AZ (BV hr) (AK AQ (AA 0) AE) Ac) (AL (Aa (B8 (AB (AK AQ (AA 0) AE) AG)))) Ag) (AF (AW 1 nd (EL AG)) (AF (DQ PassesOwn.never rfl (B7 (F1 (AA 0) (EJ AE) EK)) (Db 2 nd) (AL (DJ (Bt PySem.F.slot_list_extend PySem.F.type_list_extend JY (AA 1) (AB (Aj (hkj:=AAF _) ih hr (AB (AA 2) AG)) AG))))) (AL (Aa (AA 1))))))))).mono (by omega)
theorem J8:Fn P w K mg base "variables_of" ["row"] 8 (Cc w):=by
 obtain⟨f,fd,d⟩:=a.e4;exact Ao (k:=7) .frz d.F sc_variables_of (PySem.W.mg_of a.X a.G d.a) (d.F.binds λ_ _ _ _ _ _=>lq1 λ_=>rfl) (λ_ _ _ _ _ _ hr=>have nd:=sc_variables_of.nd;(AF (AW 1 nd (EL AG)) (AF (DQ PassesOwn.never rfl (W3 a.y11 (AB (W5 a.g4 (AK AQ (AA 0) AE)) (AB (F1 (AA 0) (EJ AE) EK) AG))) (F0 (is:=[2,3]) rfl (A8 (Au (i:=2) nd rfl (by first|exact Or.inl rfl|exact Or.inr rfl)) (A8 (Au (i:=3) nd rfl (by first|exact Or.inl rfl|exact Or.inr rfl)) Cp))) (AF (Aw (AZ (BV hr) (AA 2) Ac) (AL (DJ (Bt PySem.F.slot_list_append PySem.F.type_list_append D9 (AA 1) (AB (AA 3) AG)))) Ag) (AL (Aw (AZ (BV hr) (AA 2) Ac) (AL (DJ (Bt PySem.F.slot_list_extend PySem.F.type_list_extend JY (AA 1) (AB (Aj (J9 a 6) hr (AB (AA 3) AG)) AG)))) Ag)))) (AL (Aa (AA 1))))))
theorem Fb:Fn P w K mg base "variables_of_rows" ["rows"] 9 (BE w):=by
 obtain⟨f,fd,d⟩:=a.e5;exact Ao (k:=8) .drop d.F sc_variables_of_rows (PySem.W.mg_of a.X a.G d.a) (d.F.binds λ_ _ _ _ _ _=>lq1 λ_=>rfl) (λ_ _ _ _ _ _ hr=>have nd:=sc_variables_of_rows.nd;(AF (AW 1 nd (EL AG)) (AF (DQ PassesOwn.never rfl (B7 (AA 0)) (Db 2 nd) (AL (DJ (Bt PySem.F.slot_list_extend PySem.F.type_list_extend JY (AA 1) (AB (Aj (J8 a) hr (AB (AA 2) AG)) AG))))) (AL (Aa (FU (tgs:=["name"]) (ix:=[]) (i:=0) (n:=1) ⟨rfl,by decide +kernel,by decide +kernel,trivial,rfl,by decide +kernel⟩ rfl (B7 (M9 a.y9 a.y8 (AA 1))) (λ_ _ _ _=>Au (i:=0) (show List.Nodup (["name"]:List Str) from by decide +kernel) rfl (Or.inl rfl)) (λ_ _ _ _=>T5 (AZ (IE hr) (AA 0) Ac)) (λ_ _ _ _=>(AA 0))))))))
theorem DE:Ini P w K mg base "Plan" ["self", "making"] 10 (BY w):=by
 obtain⟨C,f,fd,d⟩:=a.e6;obtain⟨dk,dh⟩:=a.e50;exact VB (k:=9) .all d sc_Plan___init__ (PySem.W.mg_of a.X a.G d.at_) (d.F.binds λ_ _ _ _ _ _=>lq2 λ_ _=>rfl) (λ_ _ _ _ _ _ hr=>have nd:=sc_Plan___init__.nd;(AF (G8 dh.ca (dh.na "making" (by decide +kernel)) (AA 0) (AA 1)) (AF (G8 dh.ca (dh.na "names" (by decide +kernel)) (AA 0) (FU (tgs:=["hand"]) (ix:=[]) (i:=0) (n:=1) ⟨rfl,by decide +kernel,by decide +kernel,trivial,rfl,by decide +kernel⟩ rfl (B7 (AK AQ (AA 1) AE)) (λ_ _ _ _=>Au (i:=0) (show List.Nodup (["hand"]:List Str) from by decide +kernel) rfl (Or.inl rfl)) (λ_ _ _ _=>CZ) (λ_ _ _ _=>(AK AQ (AA 0) AE)))) (AF (G8 dh.ca (dh.na "variables" (by decide +kernel)) (AA 0) (FU (tgs:=["hand"]) (ix:=[]) (i:=0) (n:=1) ⟨rfl,by decide +kernel,by decide +kernel,trivial,rfl,by decide +kernel⟩ rfl (B7 (AK AQ (AA 1) AE)) (λ_ _ _ _=>Au (i:=0) (show List.Nodup (["hand"]:List Str) from by decide +kernel) rfl (Or.inl rfl)) (λ_ _ _ _=>CZ) (λ_ _ _ _=>(Aj (Fb a) hr (AB (AK AQ (AA 0) AE) AG))))) (AF (G8 dh.ca (dh.na "places" (by decide +kernel)) (AA 0) W8) (AF (DQ PassesOwn.never rfl (JJ a.y2 (AB (AK AQ (AA 1) AE) AG)) (F0 (is:=[2,3]) rfl (A8 (Au (i:=2) nd rfl (by first|exact Or.inl rfl|exact Or.inr rfl)) (A8 (Au (i:=3) nd rfl (by first|exact Or.inl rfl|exact Or.inr rfl)) Cp))) (AL (Lk hr (BD dh.ca (dh.na "places" (by decide +kernel)) (AA 0)) (AK AQ (AA 3) AE) (AA 2)))) (AF (G8 dh.ca (dh.na "ways" (by decide +kernel)) (AA 0) NA) (AL (G8 dh.ca (dh.na "claims" (by decide +kernel)) (AA 0) NA)))))))))
theorem KP:Fn P w K mg base "claim_begun" ["making"] 1 (Cu w):=by
 obtain⟨f,fd,d⟩:=a.e7;exact Ao (k:=0) .drop d.F sc_claim_begun (PySem.W.mg_of a.X a.G d.a) (d.F.binds λ_ _ _ _ _ _=>lq1 λ_=>rfl) (λ_ _ _ _ _ _ hr=>have nd:=sc_claim_begun.nd;(AF (AW 1 nd (A2 Uo (CD Jz a.y5 Mi.DY (AB (AK AQ (AA 0) AE) AG)) AE)) (AF (Aw (AZ (BV hr) (AK AQ (AA 0) AE) Ac) (AL (Aa (Ad (AB (Ad (AB (AK AQ (AA 0) AE) (AB (DG a.g2) (AB (A2 Om (Ad (AB (DG a.g2) AG)) (AA 1)) AG)))) AG)))) Ag) (AL (Aa (Ad (AB (AK AQ (AA 0) AE) (AB (DG a.g2) (AB (A2 Om (Ad (AB Ax AG)) (AA 1)) AG)))))))))
theorem KM:Fn P w K mg base "stand_begun" ["plan"] 2 (Dq w):=by
 obtain⟨f,fd,d⟩:=a.e8;obtain⟨dk,dh⟩:=a.e50;exact Ao (k:=1) .drop d.F sc_stand_begun (PySem.W.mg_of a.X a.G d.a) (d.F.binds λ_ _ _ _ _ _=>lq1 λ_=>rfl) (λ_ _ _ _ _ _ hr=>have nd:=sc_stand_begun.nd;(AF (Fz 1 (tgs:=["names"]) (ix:=[]) (i:=0) (n:=1) nd ⟨rfl,by decide +kernel,by decide +kernel,trivial,rfl,by decide +kernel⟩ rfl (B7 (BD dh.ca (dh.na "variables" (by decide +kernel)) (AA 0))) (λ_ _ _ _=>Au (i:=0) (show List.Nodup (["names"]:List Str) from by decide +kernel) rfl (Or.inl rfl)) (λ_ _ _ _=>CZ) (λ_ _ _ _=>(Ad (AB (DG a.g1) (AB Ax (AB AE (AB AE (AB (A2 Om (Ad (AB AE AG)) (CD Jz a.y5 Mi.DY (AB (AA 0) AG))) AG))))))) (λ_ _ _ _ _ _ _ _ R i e q=>Ca R i e q)) (AF (Fz 2 (tgs:=["box"]) (ix:=[]) (i:=0) (n:=1) nd ⟨rfl,by decide +kernel,by decide +kernel,trivial,rfl,by decide +kernel⟩ rfl (B7 (AK AQ (BD dh.ca (dh.na "making" (by decide +kernel)) (AA 0)) AE)) (λ_ _ _ _=>Au (i:=0) (show List.Nodup (["box"]:List Str) from by decide +kernel) rfl (Or.inl rfl)) (λ_ _ _ _=>CZ) (λ_ _ _ _=>(Ad (AB (AK AQ (AA 0) AE) (AB (DG a.g2) AG)))) (λ_ _ _ _ _ _ _ _ R i e q=>Ca R i e q)) (AL (Aa (Ad (AB (CP Ee a.y10 Mi.Bj (AB (AA 1) AG)) (AB (CP Ee a.y10 Mi.Bj (AB (AA 2) AG)) (AB (Aj (KP a) hr (AB (BD dh.ca (dh.na "making" (by decide +kernel)) (AA 0)) AG)) AG)))))))))
theorem KN:Fn P w K mg base "first_stand" ["making"] 12 (Cr w):=by
 obtain⟨f,fd,d⟩:=a.e9;exact Ao (k:=11) .drop d.F sc_first_stand (PySem.W.mg_of a.X a.G d.a) (d.F.binds λ_ _ _ _ _ _=>lq1 λ_=>rfl) (λ_ _ _ _ _ _ hr=>have nd:=sc_first_stand.nd;(AL (Aa (Aj (KM a) hr (AB (Ln (DE a) hr (AB (AA 0) AG)) AG)))))
theorem Du:Mth P w K mg base "Plan" "row_at" ["self", "number", "at"] 1 (BR w):=by
 obtain⟨C,f,fd,d⟩:=a.e10;obtain⟨dk,dh⟩:=a.e50;exact FG (k:=0) .drop d sc_Plan_row_at (d.F.binds λ_ _ _ _ _ _=>lq3 λ_ _ _=>rfl) (λ_ _ _ _ _ _ hr=>have nd:=sc_Plan_row_at.nd;(AL (Aa (AK AQ (AK AQ (AK AQ (AK AQ (BD dh.ca (dh.na "making" (by decide +kernel)) (AA 0)) AE) (AA 1)) AE) (AA 2)))))
theorem PM:Fn P w K mg base "picks_of" ["plan", "number", "hand"] 2 (Cj w):=by
 obtain⟨f,fd,d⟩:=a.e11;obtain⟨dk,dh⟩:=a.e50;exact Ao (k:=1) .drop d.F sc_picks_of (PySem.W.mg_of a.X a.G d.a) (d.F.binds λ_ _ _ _ _ _=>lq3 λ_ _ _=>rfl) (λ_ _ _ _ _ _ hr=>have nd:=sc_picks_of.nd;(AF (Aw (AZ (BV hr) (AK AQ (AA 2) AE) (DG a.g1)) (AL (Aa (D6 (AZ (BV hr) (AA 1) AE) (Ki a.y10 a.y7 (AK AQ (BD dh.ca (dh.na "making" (by decide +kernel)) (AA 0)) AE)) (Ad (AB AE AG))))) Ag) (AF (Aw (RW.rt (CY (AZ IT (AK AQ (AA 2) AE) Ax) (CW (AZ (BV hr) (AK AQ (CG (Du a) hr (AA 0) (AB (AA 1) (AB (AK AQ (AA 2) AE) AG))) AE) Ac)))) (AL (Aa (AK AQ (AA 2) AE))) Ag) (AL (Aa (Ad (AB AE AG)))))))
theorem KA:Fn P w K mg base "moves_of" ["plan", "stand"] 3 (DV w):=by
 obtain⟨f,fd,d⟩:=a.e12;exact Ao (k:=2) .frz d.F sc_moves_of (PySem.W.mg_of a.X a.G d.a) (d.F.binds λ_ _ _ _ _ _=>lq2 λ_ _=>rfl) (λ_ _ _ _ _ _ hr=>have nd:=sc_moves_of.nd;(AF (AW 2 nd (EL AG)) (AF (DQ PassesOwn.never rfl (JJ a.y2 (AB (AK AQ (AA 1) AE) AG)) (F0 (is:=[3,4]) rfl (A8 (Au (i:=3) nd rfl (by first|exact Or.inl rfl|exact Or.inr rfl)) (A8 (Au (i:=4) nd rfl (by first|exact Or.inl rfl|exact Or.inr rfl)) Cp))) (AL (DQ PassesOwn.never rfl (B7 (Aj (PM a) hr (AB (AA 0) (AB (AA 3) (AB (AA 4) AG))))) (Db 5 nd) (AL (DJ (Bt PySem.F.slot_list_append PySem.F.type_list_append D9 (AA 2) (AB (Ad (AB (AA 3) (AB (AA 5) AG))) AG))))))) (AL (Aa (AA 2))))))
theorem PL:Fn P w K mg base "steps_of" ["making", "stand"] 12 (EX w):=by
 obtain⟨f,fd,d⟩:=a.e13;obtain⟨dk,dh⟩:=a.e50;exact Ao (k:=11) .frz d.F sc_steps_of (PySem.W.mg_of a.X a.G d.a) (d.F.binds λ_ _ _ _ _ _=>lq2 λ_ _=>rfl) (λ_ _ _ _ _ _ hr=>have nd:=sc_steps_of.nd;(AF (AW 2 nd (Ln (DE a) hr (AB (AA 0) AG))) (AL (Aa (NB none (tgs:=["number", "pick"]) (ix:=[2]) (is:=[0,1]) (n:=2)  ⟨rfl,by decide +kernel,by decide +kernel,⟨Or.inl rfl,trivial⟩,rfl,by decide +kernel⟩ rfl (B7 (Aj (KA a) hr (AB (AA 2) (AB (AA 1) AG)))) (λ_ _ _ _=>(A8 (Au (i:=0) (show List.Nodup (["number", "pick", "plan"]:List Str) from by decide +kernel) rfl (Or.inl rfl)) (A8 (Au (i:=1) (show List.Nodup (["number", "pick", "plan"]:List Str) from by decide +kernel) rfl (Or.inl rfl)) Cp))) (λ_ _ _ _=>Kl) (λ_ _ _ _=>(Ad (AB (AK AQ (BD dh.ca (dh.na "names" (by decide +kernel)) (AA 2)) (AA 0)) (AB (AA 1) AG)))))))))
theorem aq:Fn P w K mg base "_law_may" ["_law_size", "_law_kind", "_law_begin", "_law_puts", "_law_begun"] 1 (Jr w):=by
 obtain⟨f,fd,d⟩:=a.e14;exact Ao (k:=0) .drop d.F sc_Lmay (PySem.W.mg_of a.X a.G d.a) (d.F.binds λ_ _ _ _ _ _=>lq5 λ_ _ _ _ _=>rfl) (λ_ _ _ _ _ _ hr=>have nd:=sc_Lmay.nd;(AF (AW 5 nd (AA 2)) (AF (AW 6 nd (EL AG)) (AF (Ww 1000 PassesOwn.never rfl (AA 3) (F0 (is:=[7,8,9]) rfl (A8 (Au (i:=7) nd rfl (by first|exact Or.inl rfl|exact Or.inr rfl)) (A8 (Au (i:=8) nd rfl (by first|exact Or.inl rfl|exact Or.inr rfl)) (A8 (Au (i:=9) nd rfl (by first|exact Or.inl rfl|exact Or.inr rfl)) Cp)))) (AL (Aw (RW.rt (CY (AZ IT (AA 9) Ax) (CW (AZ Xj (AA 9) (AA 4))))) (AL (AW 5 nd (AA 7))) (AL (DJ (Bt PySem.F.slot_list_append PySem.F.type_list_append D9 (AA 6) (AB (AA 7) AG))))))) (AF (Aw (RW.rt (CY (AZ (BV hr) (AA 1) Ac) (CW (AZ (IE hr) (AA 6) (B8 AG))))) (AL (Aa (Oc a.y6 a.y7 (AA 0)))) Ag) (AL (Aa (JM a.y9 a.y8 (A2 aD (B8 (AB (AA 5) AG)) (AA 6))))))))))
theorem PP:Fn P w K mg base "is_tuple" ["thing", "least", "most"] 1 (EZ w):=by
 obtain⟨f,fd,d⟩:=a.e15;exact Ao (k:=0) .drop d.F sc_is_tuple (PySem.W.mg_of a.X a.G d.a) (d.F.binds λ_ _ _ _ _ _=>lq3 λ_ _ _=>rfl) (λ_ _ _ _ _ _ hr=>have nd:=sc_is_tuple.nd;(AL (Aa (Oe (CD PB a.y4 Mi.DD (AB (AA 0) (AB (Lo a.y10 Mi.Bj) AG))) (UE (NC Xk Xk (AA 1) (CD Jz a.y5 Mi.DY (AB (AA 0) AG)) (AA 2)))))))
theorem PN:Fn P w K mg base "is_whole" ["thing", "least", "most"] 1 (EY w):=by
 obtain⟨f,fd,d⟩:=a.e16;exact Ao (k:=0) .drop d.F sc_is_whole (PySem.W.mg_of a.X a.G d.a) (d.F.binds λ_ _ _ _ _ _=>lq3 λ_ _ _=>rfl) (λ_ _ _ _ _ _ hr=>have nd:=sc_is_whole.nd;(AL (Aa (Oe (CD PB a.y4 Mi.DD (AB (AA 0) (AB (Lo a.y3 Mi.N9) AG))) (Oe (Zf (CD PB a.y4 Mi.DD (AB (AA 0) (AB (Lo a.y0 Mi.SQ) AG)))) (UE (NC Xk Xk (AA 1) (AA 0) (AA 2))))))))
theorem SV:Fn P w K mg base "move_of" ["plan", "stand", "step"] 4 (FV w):=by
 obtain⟨f,fd,d⟩:=a.e17;obtain⟨dk,dh⟩:=a.e50;exact Ao (k:=3) .drop d.F sc_move_of (PySem.W.mg_of a.X a.G d.a) (d.F.binds λ_ _ _ _ _ _=>lq3 λ_ _ _=>rfl) (λ_ _ _ _ _ _ hr=>have nd:=sc_move_of.nd;(AF (Aw (RW.rt (M3 (OZ (G7 (Aj (PP a) hr (AB (AA 2) (AB AE (AB AE AG)))))) (M3 (AZ QN (AK AQ (AA 2) AE) (BD dh.ca (dh.na "names" (by decide +kernel)) (AA 0))) (Lj (OZ (G7 (Aj (PN a) hr (AB (AK AQ (AA 2) AE) (AB AE (AB (DG a.g0) AG)))))))))) (AL (Aa Ax)) Ag) (AF (AW 3 nd (Ad (AB (Bt PySem.F.slot_list_index PySem.F.type_list_index NV (BD dh.ca (dh.na "names" (by decide +kernel)) (AA 0)) (AB (AK AQ (AA 2) AE) AG)) (AB (AK AQ (AA 2) AE) AG)))) (AL (Aa (D6 (AZ (bq hr) (AA 3) (Aj (KA a) hr (AB (AA 0) (AB (AA 1) AG)))) (AA 3) Ax))))))
theorem Gp:Fn P w K mg base "case_begun" ["case", "hand", "worth"] 1 (Ea w):=by
 obtain⟨f,fd,d⟩:=a.e18;exact C5 d.F (PySem.W.mg_of a.X a.G d.a) (d.F.binds λ_ _ _ _ _ _=>lq3 λ_ _ _=>rfl)
theorem Go:Fn P w K mg base "closed" ["cases"] 1 (FP w):=by
 obtain⟨f,fd,d⟩:=a.e19;exact C5 d.F (PySem.W.mg_of a.X a.G d.a) (d.F.binds λ_ _ _ _ _ _=>lq1 λ_=>rfl)
theorem Gr:Fn P w K mg base "beside" ["kind", "size", "worths", "coming"] 1 (CF w):=by
 obtain⟨f,fd,d⟩:=a.e20;exact Ao (k:=0) .drop d.F sc_beside (PySem.W.mg_of a.X a.G d.a) (d.F.binds λ_ _ _ _ _ _=>lq4 λ_ _ _ _=>rfl) (λ_ _ _ _ _ _ hr=>have nd:=sc_beside.nd;(AF (Aw (AZ (BV hr) (AA 0) Ac) (AL (Aa (Ki a.y10 a.y7 (AA 1)))) Ag) (AL (Aa (CP Ee a.y10 Mi.Bj (AB (JM a.y9 a.y8 (A2 BW (AA 2) (Ad (AB (AA 3) AG)))) AG))))))
theorem KB:Fn P w K mg base "claim_writes" ["making", "claim", "worth"] 2 (Cd w):=by
 obtain⟨f,fd,d⟩:=a.e21;exact Ao (k:=1) .drop d.F sc_claim_writes (PySem.W.mg_of a.X a.G d.a) (d.F.binds λ_ _ _ _ _ _=>lq3 λ_ _ _=>rfl) (λ_ _ _ _ _ _ hr=>have nd:=sc_claim_writes.nd;(AF (Aw (AZ (BV hr) (AK AQ (AA 0) AE) Ac) (AL (Aa (Aj (Go a) hr (AB (FU (tgs:=["case"]) (ix:=[2]) (i:=0) (n:=1) ⟨rfl,by decide +kernel,by decide +kernel,⟨Or.inl rfl,trivial⟩,rfl,by decide +kernel⟩ rfl (B7 (AA 1)) (λ_ _ _ _=>Au (i:=0) (show List.Nodup (["case", "worth"]:List Str) from by decide +kernel) rfl (Or.inl rfl)) (λ_ _ _ _=>CZ) (λ_ _ _ _=>(Aj (Gp a) hr (AB (AA 0) (AB AE (AB (AA 1) AG)))))) AG)))) Ag) (AF (Fz 3 (tgs:=["told"]) (ix:=[0,2]) (i:=0) (n:=1) nd ⟨rfl,by decide +kernel,by decide +kernel,⟨Or.inl rfl,Or.inl rfl,trivial⟩,rfl,by decide +kernel⟩ rfl (B7 (AK AQ (AA 1) AE)) (λ_ _ _ _=>Au (i:=0) (show List.Nodup (["told", "making", "worth"]:List Str) from by decide +kernel) rfl (Or.inl rfl)) (λ_ _ _ _=>CZ) (λ_ _ _ _=>(D6 (AZ Ly (AA 0) Ax) (AA 0) (Aj (Gr a) hr (AB (AK AQ (AA 1) AE) (AB (AK AQ (AA 1) AE) (AB (AA 0) (AB (AA 2) AG))))))) (λ_ _ _ _ _ _ _ _ R i e q=>Ca R i e q)) (AL (Aa (Ad (AB (AK AQ (AA 1) AE) (AB (AA 2) (AB (CP Ee a.y10 Mi.Bj (AB (AA 3) AG)) AG)))))))))
theorem Fs:Fn P w K mg base "cases_ended" ["cases", "hand", "worth"] 1 (Dr w):=by
 obtain⟨f,fd,d⟩:=a.e22;exact C5 d.F (PySem.W.mg_of a.X a.G d.a) (d.F.binds λ_ _ _ _ _ _=>lq3 λ_ _ _=>rfl)
theorem II:Fn P w K mg base "claim_written" ["making", "claim"] 2 (CH w):=by
 obtain⟨f,fd,d⟩:=a.e23;exact Ao (k:=1) .drop d.F sc_claim_written (PySem.W.mg_of a.X a.G d.a) (d.F.binds λ_ _ _ _ _ _=>lq2 λ_ _=>rfl) (λ_ _ _ _ _ _ hr=>have nd:=sc_claim_written.nd;(AF (Aw (AZ (BV hr) (AK AQ (AA 0) AE) Ac) (AL (Aa (Aj (Go a) hr (AB (Aj (Fs a) hr (AB (AA 1) (AB AE (AB (DG a.g2) AG)))) AG)))) Ag) (AL (Aa (Ad (AB (AK AQ (AA 1) AE) (AB (DG a.g2) (AB (AK AQ (AA 1) AE) AG))))))))
theorem Bl:Fn P w K mg base "with_thing" ["things", "place", "thing"] 1 (A6 w):=by
 obtain⟨f,fd,d⟩:=a.e24;exact Ao (k:=0) .drop d.F sc_with_thing (PySem.W.mg_of a.X a.G d.a) (d.F.binds λ_ _ _ _ _ _=>lq3 λ_ _ _=>rfl) (λ_ _ _ _ _ _ hr=>have nd:=sc_with_thing.nd;(AL (Aa (A2 BW (A2 BW (F1 (AA 0) EK (EJ (AA 1))) (Ad (AB (AA 2) AG))) (F1 (AA 0) (EJ (A2 BW (AA 1) AE)) EK)))))
theorem KO:Fn P w K mg base "claim_reads" ["making", "claim", "reader"] 2 (Ct w):=by
 obtain⟨f,fd,d⟩:=a.e25;exact Ao (k:=1) .drop d.F sc_claim_reads (PySem.W.mg_of a.X a.G d.a) (d.F.binds λ_ _ _ _ _ _=>lq3 λ_ _ _=>rfl) (λ_ _ _ _ _ _ hr=>have nd:=sc_claim_reads.nd;(AF (Aw (AZ (BV hr) (AK AQ (AA 0) AE) Ac) (AL (Aa (Aj (Go a) hr (AB (FU (tgs:=["case"]) (ix:=[2]) (i:=0) (n:=1) ⟨rfl,by decide +kernel,by decide +kernel,⟨Or.inl rfl,trivial⟩,rfl,by decide +kernel⟩ rfl (B7 (AA 1)) (λ_ _ _ _=>Au (i:=0) (show List.Nodup (["case", "reader"]:List Str) from by decide +kernel) rfl (Or.inl rfl)) (λ_ _ _ _=>CZ) (λ_ _ _ _=>(Aj (Gp a) hr (AB (AA 0) (AB (A2 BW (AA 1) AE) (AB (DG a.g2) AG)))))) AG)))) Ag) (AF (AW 3 nd (Ad (AB (AK AQ (AA 1) AE) AG))) (AF (Aw (AZ (IE hr) (AK AQ (AA 1) AE) (DG a.g2)) (AL (AW 3 nd (Aj (Gr a) hr (AB (AK AQ (AA 0) AE) (AB (AK AQ (AA 0) AE) (AB (AA 3) (AB (AK AQ (AA 1) AE) AG))))))) Ag) (AL (Aa (Ad (AB (AK AQ (AA 1) AE) (AB (AK AQ (AA 1) AE) (AB (Aj (Bl a) hr (AB (AK AQ (AA 1) AE) (AB (AA 2) (AB (AA 3) AG)))) AG))))))))))
theorem MM:Fn P w K mg base "claim_told" ["making", "claim", "reader", "worth"] 2 (DN w):=by
 obtain⟨f,fd,d⟩:=a.e26;exact Ao (k:=1) .drop d.F sc_claim_told (PySem.W.mg_of a.X a.G d.a) (d.F.binds λ_ _ _ _ _ _=>lq4 λ_ _ _ _=>rfl) (λ_ _ _ _ _ _ hr=>have nd:=sc_claim_told.nd;(AF (Aw (AZ (BV hr) (AK AQ (AA 0) AE) Ac) (AF (AW 4 nd (Aj (Fs a) hr (AB (AA 1) (AB (A2 BW (AA 2) AE) (AB (AA 3) AG))))) (AL (Aa (D6 (G7 (AA 4)) (Aj (Go a) hr (AB (AA 4) AG)) Ax)))) Ag) (AF (Aw (AZ QN (AA 3) (AK AQ (AK AQ (AA 1) AE) (AA 2))) (AL (Aa Ax)) Ag) (AL (Aa (Ad (AB (AK AQ (AA 1) AE) (AB (AK AQ (AA 1) AE) (AB (Aj (Bl a) hr (AB (AK AQ (AA 1) AE) (AB (AA 2) (AB Ax AG)))) AG)))))))))
theorem KC:Fn P w K mg base "claim_behind" ["making", "claim", "act"] 3 (Av w):=by
 obtain⟨f,fd,d⟩:=a.e27;exact Ao (k:=2) .drop d.F sc_claim_behind (PySem.W.mg_of a.X a.G d.a) (d.F.binds λ_ _ _ _ _ _=>lq3 λ_ _ _=>rfl) (λ_ _ _ _ _ _ hr=>have nd:=sc_claim_behind.nd;(AF (AW 3 nd (Od (BV hr) (AK AQ (AA 2) AE) Ac)) (AF (Aw (AZ (BV hr) (AK AQ (AA 2) AE) AE) (AL (Aa (D6 (G7 (AA 3)) (Aj (KB a) hr (AB (AA 0) (AB (AA 1) (AB (AK AQ (AA 2) AE) AG)))) (Aj (II a) hr (AB (AA 0) (AB (AA 1) AG)))))) Ag) (AF (AW 4 nd (A2 Uo (AK AQ (AA 2) AE) AE)) (AL (Aa (D6 (G7 (AA 3)) (Aj (KO a) hr (AB (AA 0) (AB (AA 1) (AB (AA 4) AG)))) (Aj (MM a) hr (AB (AA 0) (AB (AA 1) (AB (AA 4) (AB (AK AQ (AA 2) AE) AG))))))))))))
theorem Eu:Mth P w K mg base "Plan" "claim_on" ["self", "claim", "word", "number", "worth"] 4 (Bm w):=by
 obtain⟨C,f,fd,d⟩:=a.e28;obtain⟨dk,dh⟩:=a.e50;exact FG (k:=3) .drop d sc_Plan_claim_on (d.F.binds λ_ _ _ _ _ _=>lq5 λ_ _ _ _ _=>rfl) (λ_ _ _ _ _ _ hr=>have nd:=sc_Plan_claim_on.nd;(AF (AW 5 nd (Ad (AB (AA 1) (AB (AA 2) (AB (AA 3) (AB (AA 4) AG)))))) (AF (Aw (AZ (NJ hr) (AA 5) (BD dh.ca (dh.na "claims" (by decide +kernel)) (AA 0))) (AL (P9 hr (BD dh.ca (dh.na "claims" (by decide +kernel)) (AA 0)) (AA 5) (Aj (KC a) hr (AB (BD dh.ca (dh.na "making" (by decide +kernel)) (AA 0)) (AB (AA 1) (AB (Ad (AB (AA 2) (AB (AA 3) (AB (AA 4) AG)))) AG)))))) Ag) (AL (Aa (QF hr (BD dh.ca (dh.na "claims" (by decide +kernel)) (AA 0)) (AA 5)))))))
theorem C7:Mth P w K mg base "Plan" "named_numbers" ["self", "number", "worth", "numbers"] 1 (A4 w):=by
 obtain⟨C,f,fd,d⟩:=a.e29;obtain⟨dk,dh⟩:=a.e50;exact FG (k:=0) .all d sc_Plan_named_numbers (d.F.binds λ_ _ _ _ _ _=>lq4 λ_ _ _ _=>rfl) (λ_ _ _ _ _ _ hr=>have nd:=sc_Plan_named_numbers.nd;(AF (AW 4 nd (W7 a.y1 a.y11 (AB (AK AQ (BD dh.ca (dh.na "variables" (by decide +kernel)) (AA 0)) (AA 1)) (AB (AA 3) AG)))) (AF (Aw (AZ (BV hr) (AA 1) AE) (AL (Lk hr (AA 4) Ac (AA 2))) Ag) (AL (Aa (AA 4))))))
theorem PQ:Fn P w K mg base "followed" ["rows", "at", "named"] 1 (Ck w):=by
 obtain⟨f,fd,d⟩:=a.e30;exact Ao (k:=0) .drop d.F sc_followed (PySem.W.mg_of a.X a.G d.a) (d.F.binds λ_ _ _ _ _ _=>lq3 λ_ _ _=>rfl) (λ_ _ _ _ _ _ hr=>have nd:=sc_followed.nd;(AF (AW 3 nd Ax) (AF (AW 4 nd Ax) (AF (AW 5 nd AE) (AF (AW 6 nd AE) (AF (Tx Bf PassesOwn.never (RW.rt (CY (AZ Xj (AA 1) (CD Jz a.y5 Mi.DY (AB (AA 0) AG))) (CW (AZ br (AK AQ (AK AQ (AA 0) (AA 1)) AE) (DG a.g3))))) RX) (AL (Aa (AA 1)))))))))
theorem OF:Fn P w K mg base "one_where" ["holds"] 1 (Hv w):=by
 obtain⟨f,fd,d⟩:=a.e31;exact C5 d.F (PySem.W.mg_of a.X a.G d.a) (d.F.binds λ_ _ _ _ _ _=>lq1 λ_=>rfl)
theorem Hd:Fn P w K mg base "number_of_pair" ["word", "first", "second"] 1 (EC w):=by
 obtain⟨f,fd,d⟩:=a.e32;exact C5 d.F (PySem.W.mg_of a.X a.G d.a) (d.F.binds λ_ _ _ _ _ _=>lq3 λ_ _ _=>rfl)
theorem IC(n:Nat):Fn P w K mg base "number_of" ["expression", "numbers"] (n+2) (CS w n):=by
 obtain⟨f,fd,d⟩:=a.e33
 induction n with
 |zero=>exact C5 d.F (PySem.W.mg_of a.X a.G d.a) (d.F.binds λ_ _ _ _ _ _=>lq2 λ_ _=>rfl)
 |succ n ih=>exact(Ao (k:=n+2) .drop d.F sc_number_of (PySem.W.mg_of a.X a.G d.a) (d.F.binds λ_ _ _ _ _ _=>lq2 λ_ _=>rfl) (λ_ _ _ _ _ _ hr=>have nd:=sc_number_of.nd;(AF (AW 2 nd (AK AQ (AA 0) AE)) (AF (Aw (AZ (BV hr) (AA 2) Ac) (AL (Aa (AK AQ (AA 0) AE))) Ag) (AF (Aw (AZ (BV hr) (AA 2) Ac) (AL (Aa (IQ hr (AA 1) (AK AQ (AA 0) AE)))) Ag) (AF (AW 3 nd (Aj (hkj:=AAF _) ih hr (AB (AK AQ (AA 0) AE) (AB (AA 1) AG)))) (AF (Aw (AZ (BV hr) (AA 2) Ac) (AL (Aa (Aj (hkj:=by omega) (OF a) hr (AB (Od (BV hr) (AA 3) AE) AG)))) Ag) (AL (Aa (Aj (hkj:=by omega) (Hd a) hr (AB (AA 2) (AB (AA 3) (AB (Aj (hkj:=AAF _) ih hr (AB (AK AQ (AA 0) AE) (AB (AA 1) AG))) AG))))))))))))).mono (by omega)
theorem OE:Fn P w K mg base "way_found" ["plan", "number", "at", "worth", "numbers"] 9 (Ba w):=by
 obtain⟨f,fd,d⟩:=a.e34;obtain⟨dk,dh⟩:=a.e50;exact Ao (k:=8) .drop d.F sc_way_found (PySem.W.mg_of a.X a.G d.a) (d.F.binds λ_ _ _ _ _ _=>lq5 λ_ _ _ _ _=>rfl) (λ_ _ _ _ _ _ hr=>have nd:=sc_way_found.nd;(AF (AW 5 nd (AK AQ (AK AQ (AK AQ (BD dh.ca (dh.na "making" (by decide +kernel)) (AA 0)) AE) (AA 1)) AE)) (AF (AW 6 nd (CG (C7 a) hr (AA 0) (AB (AA 1) (AB (AA 3) (AB (AA 4) AG))))) (AF (AW 2 nd (Aj (PQ a) hr (AB (AA 5) (AB (AA 2) (AB (AA 6) AG))))) (AF (Aw (AZ Ly (AA 2) Ax) (AL (Aa (Ad (AB Ac (AB Ax (AB Ax (AB Ax AG))))))) Ag) (AF (AW 7 nd (CP Ee a.y10 Mi.Bj (AB (FU (tgs:=["name"]) (ix:=[6]) (i:=0) (n:=1) ⟨rfl,by decide +kernel,by decide +kernel,⟨Or.inl rfl,trivial⟩,rfl,by decide +kernel⟩ rfl (B7 (AK AQ (BD dh.ca (dh.na "variables" (by decide +kernel)) (AA 0)) (AA 1))) (λ_ _ _ _=>Au (i:=0) (show List.Nodup (["name", "named"]:List Str) from by decide +kernel) rfl (Or.inl rfl)) (λ_ _ _ _=>CZ) (λ_ _ _ _=>(IQ hr (AA 1) (AA 0)))) AG))) (AF (Aw (AZ (BV hr) (AA 2) (CD Jz a.y5 Mi.DY (AB (AA 5) AG))) (AL (Aa (Ad (AB (D6 (AZ (BV hr) (AA 1) AE) Ac Ac) (AB Ax (AB (AA 7) (AB Ax AG))))))) Ag) (AF (AW 8 nd (AK AQ (AA 5) (AA 2))) (AF (Aw (AZ br (AK AQ (AA 8) AE) (Ad (AB Ac (AB Ac AG)))) (AL (Aa (Ad (AB Ac (AB (AA 2) (AB (AA 7) (AB Ax AG))))))) Ag) (AF (Aw (AZ (BV hr) (AK AQ (AA 8) AE) Ac) (AL (Aa (Ad (AB Ac (AB Ax (AB (AA 7) (AB Ax AG))))))) Ag) (AF (AW 9 nd (Aj (IC a 6) hr (AB (AK AQ (AA 8) AE) (AB (AA 6) AG)))) (AL (Aa (Ad (AB (D6 (AZ Xj (AA 9) (AK AQ (BD dh.ca (dh.na "making" (by decide +kernel)) (AA 0)) AE)) Ac Ac) (AB Ax (AB (AA 7) (AB (AA 9) AG))))))))))))))))))
theorem KQ:Mth P w K mg base "Plan" "way_on" ["self", "number", "at", "worth", "numbers"] 10 (Cv w):=by
 obtain⟨C,f,fd,d⟩:=a.e35;obtain⟨dk,dh⟩:=a.e50;exact FG (k:=9) .drop d sc_Plan_way_on (d.F.binds λ_ _ _ _ _ _=>lq5 λ_ _ _ _ _=>rfl) (λ_ _ _ _ _ _ hr=>have nd:=sc_Plan_way_on.nd;(AF (AW 5 nd (Ad (AB (AA 1) (AB (AA 2) (AB (AA 3) (AB (AA 4) AG)))))) (AF (Aw (AZ (NJ hr) (AA 5) (BD dh.ca (dh.na "ways" (by decide +kernel)) (AA 0))) (AL (P9 hr (BD dh.ca (dh.na "ways" (by decide +kernel)) (AA 0)) (AA 5) (Aj (OE a) hr (AB (AA 0) (AB (AA 1) (AB (AA 2) (AB (AA 3) (AB (AA 4) AG)))))))) Ag) (AL (Aa (QF hr (BD dh.ca (dh.na "ways" (by decide +kernel)) (AA 0)) (AA 5)))))))
theorem Dj:Fn P w K mg base "with_hand" ["stand", "number", "hand"] 2 (CQ w):=by
 obtain⟨f,fd,d⟩:=a.e36;exact Ao (k:=1) .drop d.F sc_with_hand (PySem.W.mg_of a.X a.G d.a) (d.F.binds λ_ _ _ _ _ _=>lq3 λ_ _ _=>rfl) (λ_ _ _ _ _ _ hr=>have nd:=sc_with_hand.nd;(AL (Aa (Ad (AB (Aj (Bl a) hr (AB (AK AQ (AA 0) AE) (AB (AA 1) (AB (AA 2) AG)))) (AB (AK AQ (AA 0) AE) (AB (AK AQ (AA 0) AE) AG)))))))
theorem Gq:Fn P w K mg base "broken" ["word", "plan", "number", "events"] 1 (GY w):=by
 obtain⟨f,fd,d⟩:=a.e37;exact C5 d.F (PySem.W.mg_of a.X a.G d.a) (d.F.binds λ_ _ _ _ _ _=>lq4 λ_ _ _ _=>rfl)
theorem He:Fn P w K mg base "gone_on" ["plan", "stand", "number", "deed", "events"] 11 (B3 w):=by
 obtain⟨f,fd,d⟩:=a.e38;obtain⟨dk,dh⟩:=a.e50;exact Ao (k:=10) .drop d.F sc_gone_on (PySem.W.mg_of a.X a.G d.a) (d.F.binds λ_ _ _ _ _ _=>lq5 λ_ _ _ _ _=>rfl) (λ_ _ _ _ _ _ hr=>have nd:=sc_gone_on.nd;(AF (AW 5 nd (CG (KQ a) hr (AA 0) (AB (AA 2) (AB (AK AQ (AA 3) AE) (AB (AK AQ (AA 3) AE) (AB (AK AQ (AA 3) AE) AG)))))) (AF (Aw (AZ (BV hr) (AK AQ (AA 5) AE) Ac) (AL (Aa (Ad (AB (Aj (Dj a) hr (AB (AA 1) (AB (AA 2) (AB (Ad (AB (AK AQ (AA 5) AE) (AB Ax (AB (AK AQ (AA 3) AE) (AB (AK AQ (AA 3) AE) (AB (AK AQ (AA 5) AE) AG)))))) AG)))) (AB Ax (AB (AA 4) AG)))))) Ag) (AF (Aw (AZ (IE hr) (AK AQ (AA 5) AE) Ac) (AL (Aa (Aj (Gq a) hr (AB (AK AQ (AA 5) AE) (AB (AA 0) (AB (AA 2) (AB (AA 4) AG))))))) Ag) (AF (AW 6 nd (AK AQ (BD dh.ca (dh.na "names" (by decide +kernel)) (AA 0)) (AA 2))) (AF (AW 7 nd (A2 BW (AA 4) (B8 (AB (D6 (AZ (BV hr) (AA 2) AE) (Ad (AB Ac (AB (AA 6) AG))) (Ad (AB Ac (AB (AA 6) (AB (AK AQ (AA 5) AE) AG))))) AG)))) (AF (AW 8 nd (CG (Eu a) hr (AA 0) (AB (AK AQ (AA 1) AE) (AB Ac (AB (AA 2) (AB (AK AQ (AA 5) AE) AG)))))) (AF (Aw (AZ Ly (AA 8) Ax) (AL (Aa (Aj (Gq a) hr (AB Ac (AB (AA 0) (AB (AA 2) (AB (AA 7) AG))))))) Ag) (AF (AW 9 nd (Ad (AB (DG a.g1) (AB Ax (AB AE (AB AE (AB (AK AQ (AA 5) AE) AG))))))) (AL (Aa (Ad (AB (Aj (Dj a) hr (AB (Ad (AB (AK AQ (AA 1) AE) (AB (AK AQ (AA 1) AE) (AB (AA 8) AG)))) (AB (AA 2) (AB (AA 9) AG)))) (AB Ax (AB (AA 7) AG)))))))))))))))
theorem YV:Fn P w K mg base "begun" ["plan", "stand", "move"] 12 (IW w):=by
 obtain⟨f,fd,d⟩:=a.e39;obtain⟨dk,dh⟩:=a.e50;exact Ao (k:=11) .drop d.F sc_begun (PySem.W.mg_of a.X a.G d.a) (d.F.binds λ_ _ _ _ _ _=>lq3 λ_ _ _=>rfl) (λ_ _ _ _ _ _ hr=>have nd:=sc_begun.nd;(AF (AW 3 nd (AK AQ (AA 2) AE)) (AF (AW 4 nd (AK AQ (AA 2) AE)) (AF (AW 5 nd (D6 (AZ (BV hr) (AA 3) AE) (Ad (AB Ac (AB (AK AQ (BD dh.ca (dh.na "names" (by decide +kernel)) (AA 0)) (AA 3)) (AB (AA 4) AG)))) (Ad (AB Ac (AB (AK AQ (BD dh.ca (dh.na "names" (by decide +kernel)) (AA 0)) (AA 3)) AG))))) (AF (AW 6 nd (CG (Eu a) hr (AA 0) (AB (AK AQ (AA 1) AE) (AB Ac (AB (AA 3) (AB (AA 4) AG)))))) (AL (Aa (Aj (He a) hr (AB (AA 0) (AB (Ad (AB (AK AQ (AA 1) AE) (AB (AK AQ (AA 1) AE) (AB (AA 6) AG)))) (AB (AA 3) (AB (Ad (AB AE (AB (AA 4) (AB AE (AB (AK AQ (AK AQ (AK AQ (AA 1) AE) (AA 3)) AE) AG))))) (AB (B8 (AB (AA 5) AG)) AG)))))))))))))
theorem CI:Mth P w K mg base "Plan" "place_of" ["self", "row"] 1 (BO w):=by
 obtain⟨C,f,fd,d⟩:=a.e40;obtain⟨dk,dh⟩:=a.e50;exact FG (k:=0) .drop d sc_Plan_place_of (d.F.binds λ_ _ _ _ _ _=>lq2 λ_ _=>rfl) (λ_ _ _ _ _ _ hr=>have nd:=sc_Plan_place_of.nd;(AL (Aa (IQ hr (BD dh.ca (dh.na "places" (by decide +kernel)) (AA 0)) (D6 (AZ (BV hr) (AK AQ (AA 1) AE) Ac) (AK AQ (AA 1) AE) (AK AQ (AA 1) AE))))))
theorem LM:Fn P w K mg base "between" ["hand", "half"] 1 (ED w):=by
 obtain⟨f,fd,d⟩:=a.e41;exact Ao (k:=0) .drop d.F sc_between (PySem.W.mg_of a.X a.G d.a) (d.F.binds λ_ _ _ _ _ _=>lq2 λ_ _=>rfl) (λ_ _ _ _ _ _ hr=>have nd:=sc_between.nd;(AL (Aa (Ad (AB (AK AQ (AA 0) AE) (AB (AA 1) (AB (AK AQ (AA 0) AE) (AB (A2 BW (AK AQ (AA 0) AE) AE) (AB (AK AQ (AA 0) AE) AG)))))))))
theorem cY:Fn P w K mg base "got" ["plan", "stand", "move", "row"] 12 (Jq w):=by
 obtain⟨f,fd,d⟩:=a.e42;obtain⟨dk,dh⟩:=a.e50;exact Ao (k:=11) .drop d.F sc_got (PySem.W.mg_of a.X a.G d.a) (d.F.binds λ_ _ _ _ _ _=>lq4 λ_ _ _ _=>rfl) (λ_ _ _ _ _ _ hr=>have nd:=sc_got.nd;(AF (AW 4 nd (AK AQ (AA 2) AE)) (AF (AW 5 nd (AK AQ (AK AQ (AA 1) AE) (AA 4))) (AF (AW 6 nd (CG (CI a) hr (AA 0) (AB (AA 3) AG))) (AF (AW 7 nd (AK AQ (AK AQ (BD dh.ca (dh.na "making" (by decide +kernel)) (AA 0)) AE) (AA 6))) (AF (AW 8 nd (AK AQ (AK AQ (AA 1) AE) (AA 6))) (AF (Aw (RW.rt (CY (AZ (IE hr) (AK AQ (AA 7) AE) Ac) (CW (AZ Ly (AK AQ (AA 5) AE) Ax)))) (AF (AW 9 nd (D6 (AZ (BV hr) (AK AQ (AA 8) AE) (DG a.g2)) (Ad (AB (AK AQ (AA 8) AE) AG)) (Aj (Gr a) hr (AB (AK AQ (AA 7) AE) (AB (AK AQ (AA 7) AE) (AB (F1 (AA 8) EK (EJ AE)) (AB (AK AQ (AA 8) AE) AG))))))) (AL (Aa (Ad (AB (Aj (Dj a) hr (AB (AA 1) (AB (AA 4) (AB (Aj (LM a) hr (AB (AA 5) (AB (AA 9) AG))) AG)))) (AB Ax (AB (B8 AG) AG))))))) Ag) (AF (AW 10 nd (D6 (AZ (BV hr) (AK AQ (AA 7) AE) Ac) (AK AQ (AA 8) AE) (AK AQ (AA 2) AE))) (AF (AW 11 nd (Aj (Bl a) hr (AB (AK AQ (AA 5) AE) (AB (Bt PySem.F.slot_list_index PySem.F.type_list_index NV (AK AQ (BD dh.ca (dh.na "variables" (by decide +kernel)) (AA 0)) (AA 4)) (AB (AK AQ (AA 3) AE) AG)) (AB (AA 10) AG))))) (AL (Aa (Aj (He a) hr (AB (AA 0) (AB (AA 1) (AB (AA 4) (AB (Ad (AB (A2 BW (AK AQ (AA 5) AE) AE) (AB (AK AQ (AA 5) AE) (AB (A2 BW (AK AQ (AA 5) AE) AE) (AB (AA 11) AG))))) (AB (B8 AG) AG)))))))))))))))))
theorem IB:Fn P w K mg base "put_ended" ["plan", "stand", "number", "place", "worth"] 12 (C6 w):=by
 obtain⟨f,fd,d⟩:=a.e43;exact Ao (k:=11) .drop d.F sc_put_ended (PySem.W.mg_of a.X a.G d.a) (d.F.binds λ_ _ _ _ _ _=>lq5 λ_ _ _ _ _=>rfl) (λ_ _ _ _ _ _ hr=>have nd:=sc_put_ended.nd;(AF (AW 5 nd (AK AQ (AK AQ (AA 1) AE) (AA 2))) (AF (AW 6 nd (Ad (AB (AK AQ (AA 1) AE) (AB (Aj (Bl a) hr (AB (AK AQ (AA 1) AE) (AB (AA 3) (AB (Ad (AB (AA 4) (AB (DG a.g2) AG))) AG)))) (AB (AK AQ (AA 1) AE) AG))))) (AL (Aa (Aj (He a) hr (AB (AA 0) (AB (AA 6) (AB (AA 2) (AB (Ad (AB (A2 BW (AK AQ (AA 5) AE) AE) (AB (AK AQ (AA 5) AE) (AB (A2 BW (AK AQ (AA 5) AE) AE) (AB (AK AQ (AA 5) AE) AG))))) (AB (B8 AG) AG)))))))))))
theorem MN:Fn P w K mg base "beside_put" ["plan", "number", "hand", "place", "worth"] 2 (B4 w):=by
 obtain⟨f,fd,d⟩:=a.e44;obtain⟨dk,dh⟩:=a.e50;exact Ao (k:=1) .drop d.F sc_beside_put (PySem.W.mg_of a.X a.G d.a) (d.F.binds λ_ _ _ _ _ _=>lq5 λ_ _ _ _ _=>rfl) (λ_ _ _ _ _ _ hr=>have nd:=sc_beside_put.nd;(AF (Aw (AZ Ly (AK AQ (AA 2) AE) Ax) (AL (Aa (AA 2))) Ag) (AF (AW 5 nd (CG (Du a) hr (AA 0) (AB (AA 1) (AB (AK AQ (AA 2) AE) AG)))) (AF (Aw (RW.rt (M3 (AZ (IE hr) (AK AQ (AA 5) AE) Ac) (Lj (AZ (IE hr) (CG (CI a) hr (AA 0) (AB (AA 5) AG)) (AA 3))))) (AL (Aa (AA 2))) Ag) (AF (AW 6 nd (AK AQ (AK AQ (BD dh.ca (dh.na "making" (by decide +kernel)) (AA 0)) AE) (AA 3))) (AL (Aa (Aj (Bl a) hr (AB (AA 2) (AB AE (AB (Aj (Gr a) hr (AB (AK AQ (AA 6) AE) (AB (AK AQ (AA 6) AE) (AB (AK AQ (AA 2) AE) (AB (AA 4) AG))))) AG)))))))))))
theorem cX:Fn P w K mg base "put" ["plan", "stand", "number", "row"] 13 (Qq w):=by
 obtain⟨f,fd,d⟩:=a.e45;obtain⟨dk,dh⟩:=a.e50;exact Ao (k:=12) .drop d.F sc_put (PySem.W.mg_of a.X a.G d.a) (d.F.binds λ_ _ _ _ _ _=>lq4 λ_ _ _ _=>rfl) (λ_ _ _ _ _ _ hr=>have nd:=sc_put.nd;(AF (AW 4 nd (AK AQ (AK AQ (AA 1) AE) (AA 2))) (AF (AW 5 nd (CG (CI a) hr (AA 0) (AB (AA 3) AG))) (AF (AW 6 nd (AK AQ (AK AQ (BD dh.ca (dh.na "making" (by decide +kernel)) (AA 0)) AE) (AA 5))) (AF (AW 7 nd (Aj (IC a 6) hr (AB (AK AQ (AA 3) AE) (AB (CG (C7 a) hr (AA 0) (AB (AA 2) (AB (AK AQ (AA 4) AE) (AB (AK AQ (AA 4) AE) AG)))) AG)))) (AF (Aw (AZ aC (AA 7) (AK AQ (AA 6) AE)) (AL (Aa (Aj (Gq a) hr (AB Ac (AB (AA 0) (AB (AA 2) (AB (B8 AG) AG))))))) Ag) (AF (Aw (AZ (BV hr) (AK AQ (AA 6) AE) Ac) (AL (Aa (Aj (IB a) hr (AB (AA 0) (AB (AA 1) (AB (AA 2) (AB (AA 5) (AB (AA 7) AG)))))))) Ag) (AF (M5 none 8 (tgs:=["getter", "other"]) (ix:=[5,0,7]) (is:=[0,1]) (n:=2) nd ⟨rfl,by decide +kernel,by decide +kernel,⟨Or.inl rfl,Or.inl rfl,Or.inl rfl,trivial⟩,rfl,by decide +kernel⟩ rfl (JJ a.y2 (AB (AK AQ (AA 1) AE) AG)) (λ_ _ _ _=>(A8 (Au (i:=0) (show List.Nodup (["getter", "other", "place", "plan", "worth"]:List Str) from by decide +kernel) rfl (Or.inl rfl)) (A8 (Au (i:=1) (show List.Nodup (["getter", "other", "place", "plan", "worth"]:List Str) from by decide +kernel) rfl (Or.inl rfl)) Cp))) (λ_ _ _ _=>Kl) (λ_ _ _ _=>(Aj (MN a) hr (AB (AA 3) (AB (AA 0) (AB (AA 1) (AB (AA 2) (AB (AA 4) AG))))))) (λ_ _ _ _ _ _ _ _ R i e q=>Ca R i e q)) (AF (AW 9 nd (Aj (Bl a) hr (AB (AK AQ (AA 1) AE) (AB (AA 5) (AB (Ad (AB (AK AQ (AK AQ (AK AQ (AA 1) AE) (AA 5)) AE) (AB (AA 7) AG))) AG))))) (AL (Aa (Ad (AB (Aj (Dj a) hr (AB (Ad (AB (CP Ee a.y10 Mi.Bj (AB (AA 8) AG)) (AB (AA 9) (AB (AK AQ (AA 1) AE) AG)))) (AB (AA 2) (AB (Aj (LM a) hr (AB (AA 4) (AB (Ad AG) AG))) AG)))) (AB Ax (AB (B8 AG) AG)))))))))))))))
theorem YU:Fn P w K mg base "moved" ["plan", "stand", "move"] 14 (BQ w):=by
 obtain⟨f,fd,d⟩:=a.e46;obtain⟨dk,dh⟩:=a.e50;exact Ao (k:=13) .drop d.F sc_moved (PySem.W.mg_of a.X a.G d.a) (d.F.binds λ_ _ _ _ _ _=>lq3 λ_ _ _=>rfl) (λ_ _ _ _ _ _ hr=>have nd:=sc_moved.nd;(AF (AW 3 nd (AK AQ (AA 2) AE)) (AF (AW 4 nd (AK AQ (AK AQ (AA 1) AE) (AA 3))) (AF (Aw (AZ (BV hr) (AK AQ (AA 4) AE) (DG a.g1)) (AL (Aa (Aj (YV a) hr (AB (AA 0) (AB (AA 1) (AB (AA 2) AG)))))) Ag) (AF (Aw (AZ aC (AK AQ (AA 4) AE) (AK AQ (AK AQ (AK AQ (BD dh.ca (dh.na "making" (by decide +kernel)) (AA 0)) AE) (AA 3)) AE)) (AL (Aa (Aj (Gq a) hr (AB Ac (AB (AA 0) (AB (AA 3) (AB (B8 AG) AG))))))) Ag) (AF (AW 5 nd (CG (Du a) hr (AA 0) (AB (AA 3) (AB (AK AQ (AA 4) AE) AG)))) (AF (Aw (AZ (BV hr) (AK AQ (AA 5) AE) Ac) (AL (Aa (Aj (cY a) hr (AB (AA 0) (AB (AA 1) (AB (AA 2) (AB (AA 5) AG))))))) Ag) (AF (Aw (AZ Ly (AK AQ (AA 4) AE) Ax) (AL (Aa (Aj (cX a) hr (AB (AA 0) (AB (AA 1) (AB (AA 3) (AB (AA 5) AG))))))) Ag) (AF (AW 6 nd (CG (CI a) hr (AA 0) (AB (AA 5) AG))) (AL (Aa (Aj (IB a) hr (AB (AA 0) (AB (AA 1) (AB (AA 3) (AB (AA 6) (AB (AK AQ (AK AQ (AK AQ (AA 1) AE) (AA 6)) AE) AG)))))))))))))))))
theorem SU:Fn P w K mg base "stepped" ["making", "stand", "step"] 15 (BN w):=by
 obtain⟨f,fd,d⟩:=a.e47;exact Ao (k:=14) .drop d.F sc_stepped (PySem.W.mg_of a.X a.G d.a) (d.F.binds λ_ _ _ _ _ _=>lq3 λ_ _ _=>rfl) (λ_ _ _ _ _ _ hr=>have nd:=sc_stepped.nd;(AF (AW 3 nd (Ln (DE a) hr (AB (AA 0) AG))) (AF (AW 4 nd (Aj (SV a) hr (AB (AA 3) (AB (AA 1) (AB (AA 2) AG))))) (AF (Aw (AZ Ly (AA 4) Ax) (AL Ty) Ag) (AL (Aa (Aj (YU a) hr (AB (AA 3) (AB (AA 1) (AB (AA 4) AG))))))))))
theorem YW:Fn P w K mg base "_law_walk" ["_law_xs", "_law_kind", "_law_size", "_law_begin"] 16 (GZ w):=by
 obtain⟨f,fd,d⟩:=a.e48;exact Ao (k:=15) .drop d.F sc_Lwalk (PySem.W.mg_of a.X a.G d.a) (d.F.binds λ_ _ _ _ _ _=>lq4 λ_ _ _ _=>rfl) (λ_ _ _ _ _ _ hr=>have nd:=sc_Lwalk.nd;(AF (AW 4 nd (Aj (SX a) hr (AB (AA 1) (AB (AA 2) (AB (AA 3) AG))))) (AF (AW 5 nd (Aj (KN a) hr (AB (AA 4) AG))) (AF (AW 6 nd (EL AG)) (AF (AW 7 nd (UG (QA Ax (QA Ax ZX)))) (AF (DQ PassesOwn.never rfl (G9 a.y7 (AB AE AG)) (Db 8 nd) (AF (AW 9 nd (Aj (PL a) hr (AB (AA 4) (AB (AA 5) AG)))) (AF (DQ PassesOwn.never rfl (B7 (B8 (AB AE (AB AE AG)))) (Db 10 nd) (AF (AW 11 nd (AK AQ Ac (A2 Uo (AA 10) AE))) (AL (Aw (RW.rt (CY (AZ (BV hr) (AK AQ (AK AQ (AK AQ (AA 5) AE) (AA 10)) AE) AE) (CW (AZ IT (AK AQ (AK AQ (AK AQ (AA 5) AE) (AA 10)) AE) Ax)))) (AF (AW 12 nd (Aj (aq a) hr (AB (AA 2) (AB (AA 1) (AB (AA 3) (AB (AA 6) (AB (IQ hr (AA 7) (AA 11)) AG))))))) (AL (Aw (RW.rt (M3 (AZ (IE hr) (NB (some _) (tgs:=["_law_one", "_law_pick"]) (ix:=[11]) (is:=[0,1]) (n:=2)  ⟨rfl,by decide +kernel,by decide +kernel,⟨Or.inl rfl,trivial⟩,rfl,by decide +kernel⟩ rfl (B7 (AA 9)) (λ_ _ _ _=>(A8 (Au (i:=0) (show List.Nodup (["_law_one", "_law_pick", "_law_name"]:List Str) from by decide +kernel) rfl (Or.inl rfl)) (A8 (Au (i:=1) (show List.Nodup (["_law_one", "_law_pick", "_law_name"]:List Str) from by decide +kernel) rfl (Or.inl rfl)) Cp))) (λ_ _ _ _=>UM (AZ (BV hr) (AA 0) (AA 2))) (λ_ _ _ _=>(AA 1))) (AA 12)) (Lj (AZ (IE hr) (AK AQ (AK AQ (AK AQ (AA 5) AE) (AA 10)) AE) (CP Ee a.y10 Mi.Bj (AB (AA 12) AG)))))) (AL (Aa Kj)) Ag))) Ag)))) (AF (Ll (AK AQ (AA 9) (A2 FE (A2 HB (HA PySem.F.slot_list_pop PySem.F.type_list_pop Uv (AA 0)) AE) (CD Jz a.y5 Mi.DY (AB (AA 9) AG)))) (F0 (is:=[11,13]) rfl (A8 (Au (i:=11) nd rfl (by first|exact Or.inl rfl|exact Or.inr rfl)) (A8 (Au (i:=13) nd rfl (by first|exact Or.inl rfl|exact Or.inr rfl)) Cp)))) (AF (AW 10 nd (UF PySem.F.slot_str_index PySem.F.type_str_index Ut Ac (AB (AA 11) AG))) (AF (Aw (RW.rt (CY (AZ (BV hr) (AA 10) AE) (CW (AZ (BV hr) (AK AQ (AK AQ (AK AQ (AA 5) AE) AE) AE) (M8 NL AE))))) (AL (AW 13 nd (A2 FE (AA 13) (AA 2)))) Ag) (AF (Ll (F1 (AK AQ (AK AQ (AA 5) AE) (AA 10)) EK (EJ AE)) (F0 (is:=[14,15]) rfl (A8 (Au (i:=14) nd rfl (by first|exact Or.inl rfl|exact Or.inr rfl)) (A8 (Au (i:=15) nd rfl (by first|exact Or.inl rfl|exact Or.inr rfl)) Cp)))) (AF (Ll (Aj (SU a) hr (AB (AA 4) (AB (AA 5) (AB (Ad (AB (AA 11) (AB (AA 13) AG))) AG)))) (F0 (is:=[16,17,18]) rfl (A8 (Au (i:=16) nd rfl (by first|exact Or.inl rfl|exact Or.inr rfl)) (A8 (Au (i:=17) nd rfl (by first|exact Or.inl rfl|exact Or.inr rfl)) (A8 (Au (i:=18) nd rfl (by first|exact Or.inl rfl|exact Or.inr rfl)) Cp))))) (AF (Aw (AZ IT (AA 17) Ax) (AL (Aa Kj)) Ag) (AF (Aw (RW.rt (CY (AZ (BV hr) (AA 10) AE) (CY (AZ (BV hr) (AA 14) AE) (CW (AZ Ly (AA 15) Ax))))) (AL (DJ (Bt PySem.F.slot_list_append PySem.F.type_list_append D9 (AA 6) (AB (Ad (AB (AK AQ (AK AQ (AK AQ (AA 5) AE) AE) AE) (AB (AA 8) (AB (AK AQ (B8 (AB Ax (AB (AA 8) AG))) (CP cU a.y3 Mi.N9 (AB (Od (BV hr) (AA 1) Ac) AG))) AG)))) AG)))) (AL (Aw (RW.rt (CY (AZ (BV hr) (AA 10) AE) (CW (AZ (BV hr) (AA 14) AE)))) (AL (Ll (A2 BW (F1 (AK AQ (AA 6) (M8 NL AE)) EK (EJ AE)) (Ad (AB (AA 8) AG))) (Zc (AA 6) (M8 NL AE)))) (AL (Aw (RW.rt (CY (AZ bu (AA 10) AE) (CY (AZ (BV hr) (AA 14) AE) (CY (AZ Ly (AA 15) Ax) (CW (AZ (IE hr) (AA 1) Ac)))))) (AL (Lk hr (AA 7) (AA 11) (AA 8))) (AL (Aw (RW.rt (CY (AZ bu (AA 10) AE) (CW (AZ (BV hr) (AA 14) AE)))) (AF (AW 19 nd (AA 13)) (AF (Aw (AZ (BV hr) (AA 1) Ac) (AL (AW 19 nd (AK AQ (A2 BW (B8 (AB (AA 3) AG)) (UH (by wtm_at "k") (by wtm_at "k") (tgs:=["_law_put"]) (ix:=[]) (i:=0) (n:=1) ⟨rfl,by decide +kernel,by decide +kernel,trivial,rfl,by decide +kernel⟩ rfl (Zb (AA 6)) (λ_ _ _ _=>Au (i:=0) (show List.Nodup (["_law_put"]:List Str) from by decide +kernel) rfl (Or.inl rfl)) (λ_ _ _ _=>CZ) (λ_ _ _ _=>(AK AQ (AA 0) AE)))) (M8 NL AE)))) Ag) (AL (Aw (RW.rt (M3 (AZ (IE hr) (AK AQ (AK AQ (AK AQ (AK AQ (AA 16) AE) (AA 10)) AE) AE) (AA 19)) (Lj (AZ (IE hr) (AK AQ (AK AQ (AK AQ (AA 16) AE) (AA 10)) AE) AE)))) (AL (Aa Kj)) Ag)))) Ag))))))) (AL (AW 5 nd (AA 16))))))))))))) (AL (Aa Kj))))))))
end
theorem ak{l:PySem.W.OpenLaw}{w:World}{K:PySem.W.Frag}{h:Heap}{mg:Str->Option Value}{fa:Addr}(hφ:∀ns:List Int,ns.length<=63->∃μ',No w [.scr ns] []=some (.bl true,μ'))(a:Al w K mg h)(hfa:mg "law" = some (.ref fa)):
  ∃fd:FuncData,(∀(s:Shared) (v:Value),BindsTo s fd ⟨[v],[]⟩ [("_law_script",v)])/\∀base:Heap,K.In base->base.Ns mainGlobals mg->FnOk l.prog w K mg base CX0 17 fa fd ["_law_script"] (Py K):=by
 obtain⟨fa_law,fd_law,d⟩:=a.e49;have e:=hfa.symm.trans (PySem.W.mg_of a.X a.G d.a);cases e;refine⟨fd_law,λs v=>?_,λbase _ _=>?_⟩
 ·obtain⟨oc,od,kV,doc,pm,an,cdv,ct,osl,rfl,lk,hcd⟩:=d.F.ex;exact .of_eq rfl
 exact ZN (φ:=No w) (Jn (k:=16) .drop d.F sc_law (λ_ _ _ _ _ _ hr=>have nd:=sc_law.nd;(AF (AW 1 nd (Aj (SW a) hr (AB (Aj (PR a) hr (AB (AA 0) (AB AE AG))) (AB AE AG)))) (AF (DQ PassesOwn.never rfl (B7 (B8 (AB Ac (AB Ac (AB Ac AG))))) (Db 2 nd) (AF (AW 3 nd (A2 BW AE (A2 FE (A2 HB (HA PySem.F.slot_list_pop PySem.F.type_list_pop Uv (AA 1)) AE) AE))) (AL (Aw (OZ (G7 (Aj (YW a) hr (AB (AA 1) (AB (AA 2) (AB (AA 3) (AB (A2 FE (A2 HB (HA PySem.F.slot_list_pop PySem.F.type_list_pop Uv (AA 1)) AE) (AA 3)) AG))))))) (AL (Aa Kj)) Ag)))) (AL (Aa Kj)))))) hφ
end K22
namespace Mi
open PySem L2
section
variable{τ τ1:Sl}{μ μ1 μ2 μ3:Mh}{d x y:D}{ds:List D}{ma mb:Sl->M D}{tc:Sl->M Bool}{b:Bool}{m1 m2:Sl->M (Fl×Sl)}{g:D->D->M D}{r:Fl×Sl}
theorem FY(h:τ[i]?=some (some d)):AC i τ μ=some (d,μ):=by unfold AC;rw[h]
theorem Np(h1:ma τ μ=some (x,μ1))(h2:mb τ μ1=some (y,μ2))(h3:g x y μ2=some (d,μ3)):mOp g ma mb τ μ=some (d,μ3):=by unfold mOp;rw[Ap h1,Ap h2,h3]
theorem VL(h1:ma τ μ=some (x,μ1))(h3:u x μ1=some (d,μ3)):mUn u ma τ μ=some (d,μ3):=by unfold mUn;rw[Ap h1,h3]
theorem Nq(h1:ma τ μ=some (x,μ1))(h2:as τ μ1=some (ds,μ2)):AD ma as τ μ=some (x::ds,μ2):=by unfold AD;rw[Ap h1,Ap h2];rfl
theorem Qs(h1:as τ μ=some (ds,μ1))(h2:f ds μ1=some (d,μ2)):AJ f as τ μ=some (d,μ2):=by unfold AJ;rw[Ap h1,h2]
theorem MB(h:ma τ μ=some (.bl b,μ1)):AS ma τ μ=some (b,μ1):=by unfold AS;rw[Ap h];rfl
theorem VM(h1:m1 τ μ=some ((.next,τ1),μ1))(h2:m2 τ1 μ1=some (r,μ2)):AY m1 m2 τ μ=some (r,μ2):=by unfold AY;rw[Ap h1];exact h2
theorem Qr(h1:m1 τ μ=some ((.rt d,τ1),μ1)):AY m1 m2 τ μ=some ((.rt d,τ1),μ1):=by unfold AY;rw[Ap h1];rfl
theorem MC(h1:ma τ μ=some (d,μ1)):Am ma τ μ=some ((.rt d,τ),μ1):=by unfold Am;rw[Ap h1];rfl
theorem VN(h1:tc τ μ=some (true,μ1))(h2:m1 τ μ1=some (r,μ2)):sIf tc m1 m2 τ μ=some (r,μ2):=by unfold sIf;rw[Ap h1,if_pos rfl,h2]
theorem VO(h1:tc τ μ=some (false,μ1))(h2:m2 τ μ1=some (r,μ2)):sIf tc m1 m2 τ μ=some (r,μ2):=by unfold sIf;rw[Ap h1,if_neg (by decide),h2]
theorem Yl(h:0<j):C1 (.int i) (.int j) μ=some (.int (i % j),μ):=by show (if 0<j then some (D.int (i % j),μ) else none)=_;rw[if_pos h]
theorem U1(h:0<j)(h2:j<1073741824):DS (.int i) (.int j) μ=some (.int (i / j),μ):=by show (if 0<j/\j<1073741824 then some (D.int (i / j),μ) else none)=_;rw[if_pos ⟨h,h2⟩]
theorem Yk(h:(-(2 ^ 64)<i/\i<2 ^ 64)∨(-(2 ^ 64)<j/\j<2 ^ 64)):GP (.int i) (.int j) μ=some (.int (i * j),μ):=by show (if (-(2 ^ 64)<i/\i<2 ^ 64)∨(-(2 ^ 64)<j/\j<2 ^ 64) then some (D.int (i * j),μ) else none)=_;rw[if_pos h]
theorem Xx(h:μ[n]?=some (.lst ds))(h2:atI ds i=some d):AM (.ref n) (.int i) μ=some (d,μ):=by
 show bnd (BU (.ref n)) (λds=>ixD ds i) μ=_;rw[Ap (show BU (.ref n) μ=some (ds,μ) from by show (match μ[n]? with|some (.lst ds)=>some (ds,μ)|_=>none)=_;rw[h])];unfold ixD;rw[h2];rfl
theorem Ym(h2:atI ds i=some d):AM (.tup ds) (.int i) μ=some (d,μ):=by
 show bnd (BU (.tup ds)) (λds=>ixD ds i) μ=_;rw[Ap (show BU (.tup ds) μ=some (ds,μ) from rfl)];unfold ixD;rw[h2];rfl
theorem Yn(h2:atI ds i=some d):AM (.lst ds) (.int i) μ=some (d,μ):=by
 show bnd (BU (.lst ds)) (λds=>ixD ds i) μ=_;rw[Ap (show BU (.lst ds) μ=some (ds,μ) from rfl)];unfold ixD;rw[h2];rfl
theorem Yj(h:μ[n]?=some (.lst ds))(h2:ixN ds.length k=some j):Wv (.ref n) (.int k) d μ=some ((),μ.set n (.lst (ds.set j d))):=by
 show (match μ[n]? with|some (.lst ds)=>(ixN ds.length k).map λj=>((),μ.set n (.lst (ds.set j d)))|_=>none)=_;rw[h];show (ixN ds.length k).map _=_;rw[h2];rfl
end
end Mi
local macro_rules | `(tactic| wtm_at "l")=>`(tactic| first|rfl|assumption)
local macro_rules | `(tactic| wtm_at "b")=>`(tactic| first
 |(with_reducible apply Mi.ev_nil)|(with_reducible apply Mi.ev_nilA)|(with_reducible apply Mi.ev_c)|(with_reducible apply Mi.ev_noPart)|(with_reducible apply Mi.ev_retN)
 |((with_reducible apply Mi.FY);first|rfl|assumption)
 |((with_reducible apply Mi.Qr);wtm_at "b")
 |((with_reducible apply Mi.VM);(wtm_at "b");(wtm_at "b"))
 |((with_reducible apply Mi.ev_asg);(wtm_at "b");(wtm_at "b"))
 |((with_reducible apply Mi.ev_name);rfl)
 |((with_reducible apply Mi.ev_sub);(wtm_at "b");(wtm_at "b");(wtm_at "b"))
 |((with_reducible apply Mi.ev_expr);wtm_at "b")
 |((with_reducible apply Mi.MC);wtm_at "b")
 |((with_reducible apply Mi.VN);(wtm_at "b");(wtm_at "b"))
 |((with_reducible apply Mi.VO);(wtm_at "b");(wtm_at "b"))
 |((with_reducible apply Mi.Np);(wtm_at "b");(wtm_at "b");(wtm_at "b"))
 |((with_reducible apply Mi.VL);(wtm_at "b");(wtm_at "b"))
 |((with_reducible apply Mi.Qs);(wtm_at "b");(wtm_at "b"))
 |((with_reducible apply Mi.Nq);(wtm_at "b");(wtm_at "b"))
 |((with_reducible apply Mi.ev_meth);(wtm_at "b");(wtm_at "b");(wtm_at "b");(wtm_at "b"))
 |((with_reducible apply Mi.MB);wtm_at "b")
 |((with_reducible apply Mi.ev_notT);wtm_at "b")
 |((with_reducible apply Mi.ev_notF);wtm_at "b")
 |((with_reducible apply Mi.ev_andT);(wtm_at "b");(wtm_at "b"))
 |((with_reducible apply Mi.ev_andF);wtm_at "b")
 |((with_reducible apply Mi.ev_orF);(wtm_at "b");(wtm_at "b"))
 |((with_reducible apply Mi.ev_orT);wtm_at "b")
 |((with_reducible apply Mi.ev_andVT);(wtm_at "b");(wtm_at "b"))
 |((with_reducible apply Mi.ev_andVF);wtm_at "b")
 |((with_reducible apply Mi.ev_orVF);(wtm_at "b");(wtm_at "b"))
 |((with_reducible apply Mi.ev_orVT);wtm_at "b")
 |((with_reducible apply Mi.ev_notVT);wtm_at "b")
 |((with_reducible apply Mi.ev_notVF);wtm_at "b")
 |((with_reducible apply Mi.ev_chainT);(wtm_at "b");(wtm_at "b");(wtm_at "b");(wtm_at "b");(wtm_at "b"))
 |((with_reducible apply Mi.ev_chainF);(wtm_at "b");(wtm_at "b");(wtm_at "b"))
 |((with_reducible apply Mi.ev_part);wtm_at "b")
 |((with_reducible apply Mi.ev_sl);(wtm_at "b");(wtm_at "b");(wtm_at "b");(wtm_at "b"))
 |wtm_at "l")
local macro_rules | `(tactic| wtm_at "g")=>`(tactic| first|assumption|decide|omega)
local macro_rules | `(tactic| wtm_at "l")=>`(tactic| first
 |((with_reducible apply Mi.l_le);wtm_at "g")|((with_reducible apply Mi.l_leF);wtm_at "g")|((with_reducible apply Mi.l_lt);wtm_at "g")|((with_reducible apply Mi.l_ltF);wtm_at "g")|((with_reducible apply Mi.l_gt);wtm_at "g")|((with_reducible apply Mi.l_gtF);wtm_at "g")
 |(with_reducible apply Mi.l_inst_ii)|(with_reducible apply Mi.l_inst_ib)|(with_reducible apply Mi.l_inst_ss)|(with_reducible apply Mi.l_inst_tt)|(with_reducible apply Mi.l_add)|(with_reducible apply Mi.l_sub)|((with_reducible apply Mi.Yl);wtm_at "g")|((with_reducible apply Mi.U1);(wtm_at "g");(wtm_at "g"))|((with_reducible apply Mi.Yk);first|(left;omega)|(right;omega))
 |((with_reducible apply Mi.Ym);rfl)|((with_reducible apply Mi.Yn);rfl)|((with_reducible apply Mi.Xx);(first|assumption|rfl);(rfl))|((with_reducible apply Mi.Yj);(first|assumption|rfl);(rfl)))
namespace Mi
open PySem L2
def WP{α:Type}(m:M α)(μ:Mh)(Q:α->Mh->Prop):Prop:=∃a μ',m μ=some (a,μ')/\Q a μ'
section
variable{α β:Type}{m:M α}{f:α->M β}{μ μ':Mh}{Q Q':α->Mh->Prop}{R:β->Mh->Prop}{a:α}
theorem AV(h:m μ=some (a,μ'))(q:Q a μ'):WP m μ Q:=⟨a,μ',h,q⟩
theorem AU(h:WP m μ Q)(k:∀a μ',Q a μ'->Q' a μ'):WP m μ Q':=by
 obtain⟨a,μ',e,q⟩:=h;exact⟨a,μ',e,k a μ' q⟩
theorem AT(h:WP m μ λa μ1=>WP (f a) μ1 R):WP (bnd m f) μ R:=by
 obtain⟨a,μ1,e,b,μ2,e2,q⟩:=h;exact⟨b,μ2,by rw[Ap e];exact e2,q⟩
theorem BA(q:Q a μ):WP (ret a) μ Q:=⟨a,μ,rfl,q⟩
end
section
variable{τ τ1:Sl}{μ μ1:Mh}{d x y:D}{ds:List D}{ma mb:Sl->M D}{ra:Sl->M (List D)}{tc tb:Sl->M Bool}{m1 m2:Sl->M (Fl×Sl)}{g:D->D->M D}{QD:D->Mh->Prop}{QB:Bool->Mh->Prop}{QL:List D->Mh->Prop}{QS:Fl×Sl->Mh->Prop}{QO:Option Int->Mh->Prop}{i j:Int}{k n:Nat}
theorem Co{i:Nat}(h:τ[i]?=some (some d))(q:QD d μ):WP (AC i τ) μ QD:=AV (FY h) q
theorem aw(q:QD d μ):WP (mC d τ) μ QD:=⟨d,μ,rfl,q⟩
theorem S6(h:WP (ma τ) μ λx μ1=>WP (mb τ) μ1 λy μ2=>WP (g x y) μ2 QD):WP (mOp g ma mb τ) μ QD:=AT (AU h λ_ _ z=>AT z)
theorem YX(h:WP (ma τ) μ λx μ1=>WP (u x) μ1 QD):WP (mUn u ma τ) μ QD:=AT h
theorem WZ(h:WP (ra τ) μ λds μ1=>WP (f ds) μ1 QD):WP (AJ f ra τ) μ QD:=AT h
theorem WI(q:QL [] μ):WP (AN τ) μ QL:=⟨[],μ,rfl,q⟩
theorem TJ(h:WP (ma τ) μ λx μ1=>WP (ra τ) μ1 λds μ2=>QL (x::ds) μ2):WP (AD ma ra τ) μ QL:=AT (AU h λ_ _ z=>AT (AU z λ_ _ z=>BA z))
theorem Y3(z:WP (ma τ) μ λx μ1=>WP (l τ) μ1 λa μ2=>WP (h τ) μ2 λb μ3=>WP (ND a b x) μ3 QD):WP (Fa ma l h τ) μ QD:=AT (AU z λ_ _ z=>AT (AU z λ_ _ z=>AT z))
theorem Q7(q:QO none μ):WP (Ch τ) μ QO:=⟨none,μ,rfl,q⟩
theorem WH(h:WP (ma τ) μ λd μ1=>∃i,d=.int i/\QO (some i) μ1):WP (EB ma τ) μ QO:=AT (AU h λ_ _ ⟨i,e,q⟩=>by subst e;exact BA q)
theorem ZA(h:WP (mc τ) μ λb μ1=>(b=true->WP (ma τ) μ1 QD)/\(b=false->WP (mb τ) μ1 QD)):WP (mIf mc ma mb τ) μ QD:=AT (AU h λb _ z=>by cases b;exact z.2 rfl;exact z.1 rfl)
theorem LP(h:WP (ma τ) μ λd μ1=>∃b,d=.bl b/\QB b μ1):WP (AS ma τ) μ QB:=AT (AU h λ_ _ ⟨b,e,q⟩=>by subst e;exact BA q)
theorem Y9(h:WP (tc τ) μ λb μ1=>QB (!b) μ1):WP (Rq tc τ) μ QB:=AT (AU h λ_ _ q=>BA q)
noncomputable def aj(m:M Bool)(QB:Bool->Mh->Prop):Bool->Mh->Prop
 |true,μ=>WP m μ QB
 |false,μ=>QB false μ
noncomputable def orK(m:M Bool)(QB:Bool->Mh->Prop):Bool->Mh->Prop
 |true,μ=>QB true μ
 |false,μ=>WP m μ QB
theorem TQ(h:WP (tc τ) μ (aj (tb τ) QB)):WP (DA tc tb τ) μ QB:=AT (AU h λb _ z=>by cases b;exact BA z;exact z)
theorem au(h:WP (tc τ) μ (orK (tb τ) QB)):WP (mOr tc tb τ) μ QB:=AT (AU h λb _ z=>by cases b;exact z;exact BA z)
theorem Wf(h:WP (ma τ) μ λd μ1=>∃b,d=.bl b/\(b=true->WP (mb τ) μ1 QD)/\(b=false->QD (.bl false) μ1)):WP (Kx ma mb τ) μ QD:=AT (AU h λd μ1 ⟨b,e,z⟩=>by
 subst e;refine AT (BA ?_);cases b
 ·exact BA (z.2 rfl)
 ·exact z.1 rfl)
noncomputable def Ta(m2:Sl->M (Fl×Sl))(QS:Fl×Sl->Mh->Prop):Fl×Sl->Mh->Prop
 |(.next,τ1),μ1=>WP (m2 τ1) μ1 QS
 |r,μ1=>QS r μ1
theorem Ez(h:WP (m2 τ1) μ1 QS):Ta m2 QS (.next,τ1) μ1:=h
theorem ZH(h:QS (.rt d,τ1) μ1):Ta m2 QS (.rt d,τ1) μ1:=h
theorem OJ(h:WP (m1 τ) μ (Ta m2 QS)):WP (AY m1 m2 τ) μ QS:=AT (AU h λr _ z=>by
 obtain⟨fl,τ1⟩:=r;cases fl
 ·exact z
 ·exact BA z
 ·exact BA z
 ·exact BA z)
theorem We{i:Nat}(h:WP (ma τ) μ λd μ1=>QS (.next,τ.set i (some d)) μ1):WP (Ai ma (AR i) τ) μ QS:=AT (AU h λ_ _ q=>AT (BA (BA q)))
theorem Be(h:WP (ma τ) μ λd μ1=>WP (bf d τ) μ1 λτ1 μ2=>QS (.next,τ1) μ2):WP (Ai ma bf τ) μ QS:=AT (AU h λ_ _ q=>AT (AU q λ_ _ z=>BA z))
theorem Y4(h:WP (ma τ) μ λd μ1=>QS (.rt d,τ) μ1):WP (Am ma τ) μ QS:=AT (AU h λ_ _ q=>BA q)
theorem WY(h:WP (ma τ) μ λ_ μ1=>QS (.next,τ) μ1):WP (D4 ma τ) μ QS:=AT (AU h λ_ _ q=>BA q)
theorem OL(q:QS (.next,τ) μ):WP (BB τ) μ QS:=⟨_,μ,rfl,q⟩
noncomputable def ifK(m1 m2:Sl->M (Fl×Sl))(τ:Sl)(QS:Fl×Sl->Mh->Prop):Bool->Mh->Prop
 |true,μ=>WP (m1 τ) μ QS
 |false,μ=>WP (m2 τ) μ QS
theorem Ph(h:WP (m1 τ) μ QS):ifK m1 m2 τ QS true μ:=h
theorem EF(h:WP (m2 τ) μ QS):ifK m1 m2 τ QS false μ:=h
theorem YY(h:WP (tc τ) μ (ifK m1 m2 τ QS)):WP (sIf tc m1 m2 τ) μ QS:=AT (AU h λb _ z=>by cases b;exact z;exact z)
theorem ZF(h:WP (src τ) μ λds μ1=>WP (FO bf m1 ds τ) μ1 QS):WP (G6 src bf m1 τ) μ QS:=AT h
noncomputable def Ky(I:Sl->Mh->Prop)(QS:Fl×Sl->Mh->Prop):Fl×Sl->Mh->Prop
 |(.next,τ),μ=>I τ μ
 |(.cont,τ),μ=>I τ μ
 |(.brk,τ),μ=>QS (.next,τ) μ
 |(.rt d,τ),μ=>QS (.rt d,τ) μ
theorem A0(h:I τ μ):Ky I QS (.next,τ) μ:=h
theorem LW(I:List D->Sl->Mh->Prop)(step:∀x xs τ μ,I (x::xs) τ μ->WP (bf x τ) μ λτ1 μ1=>WP (m1 τ1) μ1 (Ky (I xs) QS))(fin:∀τ μ,I [] τ μ->QS (.next,τ) μ):∀{ds:List D} {τ:Sl} {μ:Mh},I ds τ μ->WP (FO bf m1 ds τ) μ QS
 |[],τ,μ,h=>BA (fin τ μ h)
 |x::xs,τ,μ,h=>AT (AU (step x xs τ μ h) λτ1 μ1 z=>AT (AU z λr μ2 z=>by
   obtain⟨fl,τ2⟩:=r;cases fl
   ·exact LW I step fin z
   ·exact BA z
   ·exact LW I step fin z
   ·exact BA z))
theorem Dy{QT:Sl->Mh->Prop}{i:Nat}(q:QT (τ.set i (some d)) μ):WP (AR i d τ) μ QT:=⟨_,μ,rfl,q⟩
theorem Az{QT:Sl->Mh->Prop}{i j:Nat}(q:QT ((τ.set i (some x)).set j (some y)) μ):WP (Eg [i,j] (.tup [x,y]) τ) μ QT:=⟨_,μ,rfl,q⟩
theorem CC{QT:Sl->Mh->Prop}{i j k:Nat}(q:QT (((τ.set i (some x)).set j (some y)).set k (some d)) μ):WP (Eg [i,j,k] (.tup [x,y,d]) τ) μ QT:=⟨_,μ,rfl,q⟩
theorem Wa(h:WP (src τ) μ λds μ1=>ds.length<=sizeLine/\WP (CB bf tc ma (CU N ix τ) ds []) μ1 λes μ2=>WP (fin es) μ2 QD):WP (Bp N ix src bf tc ma fin τ) μ QD:=AT (AU h λds μ1 z=>AT (AV (HH z.1 μ1) (AT z.2)))
theorem LX(I:List D->List D->Mh->Prop)(step:∀x xs ys μ,I (x::xs) ys μ->WP (bf x τ0) μ λτ1 μ1=>WP (tc τ1) μ1 λc μ2=>(c=true->WP (ma τ1) μ2 λy μ3=>I xs (ys++[y]) μ3)/\(c=false->I xs ys μ2))(fin:∀ys μ,I [] ys μ->QL ys μ):∀{ds ys:List D} {μ:Mh},I ds ys μ->WP (CB bf tc ma τ0 ds ys) μ QL
 |[],ys,μ,h=>BA (fin ys μ h)
 |x::xs,ys,μ,h=>AT (AU (step x xs ys μ h) λτ1 μ1 z=>AT (AU z λc μ2 z=>by
   cases c
   ·exact LX I step fin (z.2 rfl)
   ·exact AT (AU (z.1 rfl) λy μ3 z=>LX I step fin z)))
theorem V2(q:QB true μ):WP (C3 τ) μ QB:=⟨true,μ,rfl,q⟩
theorem Wg(q:QD (.int (i+j)) μ):WP (A5 (.int i) (.int j)) μ QD:=⟨_,μ,rfl,q⟩
theorem Y1(q:QD (.int (i-j)) μ):WP (Kk (.int i) (.int j)) μ QD:=⟨_,μ,rfl,q⟩
theorem S8(h:0<j)(q:QD (.int (i % j)) μ):WP (C1 (.int i) (.int j)) μ QD:=AV (Yl h) q
theorem WX(h:0<j)(h2:j<1073741824)(q:QD (.int (i / j)) μ):WP (DS (.int i) (.int j)) μ QD:=AV (U1 h h2) q
theorem LT(h:(-(2 ^ 64)<i/\i<2 ^ 64)∨(-(2 ^ 64)<j/\j<2 ^ 64))(q:QD (.int (i * j)) μ):WP (GP (.int i) (.int j)) μ QD:=AV (Yk h) q
theorem TB(q:QD (.bl (decide (i<j))) μ):WP (NE (.int i) (.int j)) μ QD:=⟨_,μ,rfl,q⟩
theorem TD(q:QD (.bl (decide (j<i))) μ):WP (NF (.int i) (.int j)) μ QD:=⟨_,μ,rfl,q⟩
theorem YZ(q:QD (.bl (decide (j<=i))) μ):WP (Rb (.int i) (.int j)) μ QD:=⟨_,μ,rfl,q⟩
theorem OP(q:QD (.bl (i==j)) μ):WP (A7 (.int i) (.int j)) μ QD:=⟨_,μ,rfl,q⟩
theorem ON(q:QD (.bl (!(i==j))) μ):WP (Ce (.int i) (.int j)) μ QD:=⟨_,μ,rfl,q⟩
theorem ZD(q:QD (.bl (isN d)) μ):WP (DK false d .non) μ QD:=by cases d<;>exact⟨_,μ,rfl,q⟩
theorem WS(q:QD (.int (if b then 1 else 0)) μ):WP (VA [.bl b]) μ QD:=⟨_,μ,rfl,q⟩
theorem WJ(h:ds.length<=sizeLine)(q:QD (.tup ds) μ):WP (As ds) μ QD:=by
 refine AV (a:=.tup ds) (μ':=μ) ?_ q;unfold As;rw[Ap (HH h _)];rfl
theorem Bc(h:ds.length<=sizeLine)(q:QD (.lst ds) μ):WP (BM ds) μ QD:=by
 refine AV (a:=.lst ds) (μ':=μ) ?_ q;unfold BM;rw[Ap (HH h _)];rfl
theorem WL(h:ds.length<=sizeLine)(q:QD (.ref μ.length) (μ++[.lst ds])):WP (GS ds) μ QD:=by
 refine AV (a:=.ref μ.length) (μ':=μ++[.lst ds]) ?_ q;unfold GS;rw[Ap (HH h _)]
theorem Aq(h2:atI ds i=some d)(q:QD d μ):WP (AM (.tup ds) (.int i)) μ QD:=AV (Ym h2) q
theorem C8(h2:atI ds i=some d)(q:QD d μ):WP (AM (.lst ds) (.int i)) μ QD:=AV (Yn h2) q
theorem Y2(h:WP (ma τ) μ λd μ1=>WP (Qz d) μ1 QL):WP (EA ma τ) μ QL:=AT h
theorem WD(q:QL ds μ):WP (Qz (.tup ds)) μ QL:=⟨_,μ,rfl,q⟩
theorem WE(q:QL ds μ):WP (Qz (.lst ds)) μ QL:=⟨_,μ,rfl,q⟩
theorem WG(h:WP (ra τ) μ λds μ1=>∃j:Nat,ds=[.int j]/\j<1000000/\QL ((List.range j).map λ(i:Nat)=>.int (i:Int)) μ1):WP (NX ra τ) μ QL:=AT (AU h λds μ1 ⟨j,e,hj,q⟩=>by
 subst e;refine AV (a:=M7 0 j) (μ':=μ1) ?_ ?_
 ·have hj2:-(2 ^ 62)<=(j:Int)/\(j:Int)<2 ^ 62:=⟨by omega,by omega⟩;unfold T3;simp only[];rw[if_pos hj2]
 ·have e:M7 0 (j:Int)=(List.range j).map λ(i:Nat)=>.int (i:Int):=by
   unfold M7;rw[show ((j:Int)-0).toNat=j by omega];congr 1
   funext i
   rw[Int.zero_add]
  rw[e];exact q)
theorem V1(q:QD (.tup ds) μ):WP (C9 [.lst ds]) μ QD:=⟨_,μ,rfl,q⟩
theorem WO(q:QD (.int ds.length) μ):WP (Jf [.tup ds]) μ QD:=⟨_,μ,rfl,q⟩
def Xs(μ:Mh)(n k:Nat):Prop:=∃xs:List Int,μ[n]?=some (.lst (xs.map D.int))/\k<=xs.length
def XU(n:Nat)(μ μ':Mh):Prop:=∃xs:List Int,μ'=μ.set n (.lst (xs.map D.int))
theorem Xs.lt(h:Xs μ n k):n<μ.length:=by
 obtain⟨_,h,_⟩:=h;exact(AAU.mp h).1
theorem Xs.mono(h:Xs μ n k)(le:k'<=k):Xs μ n k':=by
 obtain⟨xs,h1,h2⟩:=h;exact⟨xs,h1,by omega⟩
theorem Xs.refl(h:Xs μ n k):XU n μ μ:=by
 obtain⟨xs,h1,_⟩:=h;refine⟨xs,?_⟩;apply List.ext_getElem?;intro j;rw[List.getElem?_set];split
 ·rename_i e;subst e;rw[if_pos (AAU.mp h1).1];exact h1
 ·rfl
theorem XU.trans(h:XU n μ μ1)(h2:XU n μ1 μ2):XU n μ μ2:=by
 obtain⟨xs,rfl⟩:=h;obtain⟨ys,rfl⟩:=h2;exact⟨ys,by rw[List.set_set]⟩
theorem XU.len(h:XU n μ μ1):μ1.length=μ.length:=by
 obtain⟨xs,rfl⟩:=h;simp
theorem XU.other(h:XU n μ μ1){j:Nat}(hj:j≠n):μ1[j]?=μ[j]?:=by
 obtain⟨xs,rfl⟩:=h;rw[AAq λe=>hj e.symm]
theorem ag:∀xs:List Int,ClL k (xs.map D.int)
 |[]=>by unfold List.map ClL;trivial
 |x::xs=>by unfold List.map ClL;exact⟨by unfold Cl;trivial,ag xs⟩
theorem Pc{gs:Mh}{i:Nat}(ht:τ[i]?=some (some (.ref n)))(x:Xs μ n k)(hk:1<=k)(q:∀v μ1,XU n μ μ1->Xs μ1 n (k-1)->QD (.int v) (μ1++gs)):WP (Cq Lq (AC i) τ) (μ++gs) QD:=by
 have hlt:=x.lt;obtain⟨xs,h1,h2⟩:=x;have hne:xs≠[]:=λe=>by rw[e] at h2;simp at h2;omega
 have h1':(μ++gs)[n]?=some (.lst (xs.map D.int)):=by rw[AAT hlt];exact h1
 have hlast:(xs.map D.int)[(xs.map D.int).length-1]?=some (.int (xs.getLast hne)):=by
  rw[AAG,AAW,←List.getLast?_eq_getElem?,List.getLast?_eq_some_getLast hne];rfl
 refine AV (a:=.int (xs.getLast hne)) (μ':=μ.set n (.lst (xs.dropLast.map D.int))++gs) ?_ (q _ _ ⟨_,rfl⟩ ⟨xs.dropLast,by rw[List.getElem?_set_self hlt],by rw[List.length_dropLast];omega⟩);unfold Cq;rw[Ap (FY ht)];have hg:Cb (.ref n) (μ++gs)=some ((),μ++gs):=by
  unfold Cb;rw[Ap (show Bo (.ref n) (μ++gs)=some (xs.map D.int,μ++gs) from by show (match (μ++gs)[n]? with|some (.lst ds)=>some (ds,μ++gs)|_=>none)=_;rw[h1'])];rfl
 rw[Ap hg];show Gy n (λds=>(ds[ds.length-1]?).map λd=>(d,ds.dropLast)) (μ++gs)=_;unfold Gy;rw[h1'];dsimp only;rw[hlast];show some (D.int (xs.getLast hne),(μ++gs).set n (.lst (xs.map D.int).dropLast))=_;rw[List.set_append_left _ _ hlt,List.map_dropLast]
theorem Sz{k:Nat}{i:Nat}(ht:τ[i]?=some (some (.ref n)))(x:Xs μ n k)(hk:1<=k)(q:∀v μ1,XU n μ μ1->Xs μ1 n (k-1)->QD (.int v) μ1):WP (Cq Lq (AC i) τ) μ QD:=by
 have:=Pc (gs:=[]) (QD:=QD) ht x hk λv μ1 u x=>by rw[AAb];exact q v μ1 u x
 rw[AAb] at this;exact this
theorem GF{gs:Mh}{i:Nat}(ht:τ[i]?=some (some (.ref gs.length)))(hs:ds.length<sizeLine)(h:WP (ra τ) (gs++[.lst ds]) λes μ1=>∃gs' y,es=[y]/\μ1=gs'++[.lst ds]/\gs'.length=gs.length/\QD .non (gs'++[.lst (ds++[y])])):WP (BT Hb (AC i) ra τ) (gs++[.lst ds]) QD:=by
 unfold BT;refine AT (AV (FY ht) ?_);have hg:Cb (.ref gs.length) (gs++[.lst ds])=some ((),gs++[.lst ds]):=by
  unfold Cb;rw[Ap (show Bo (.ref gs.length) (gs++[.lst ds])=some (ds,gs++[.lst ds]) from by show (match (gs++[MO.lst ds])[gs.length]? with|some (.lst ds')=>some (ds',gs++[MO.lst ds])|_=>none)=some (ds,gs++[MO.lst ds]);rw[AAS (AAF _)];simp)];rfl
 refine AT (AV hg (AT (AU h ?_)));rintro es μ1 ⟨gs',y,rfl,rfl,hl,q⟩;refine AV (a:=.non) (μ':=gs'++[.lst (ds++[y])]) ?_ q;show Gy gs.length (λds=>if ds.length<sizeLine then some (.non,ds++[y]) else none) (gs'++[.lst ds])=_;unfold Gy;rw[←hl,AAS (AAF _)];simp[hs]
theorem TR{N ps:Nat}{mb:Sl->M (Fl×Sl)}(hl:ds.length=ps)(h:WP (mb (Bi N ds)) μ λr μ2=>∃d τ2 μ1 gs,r=(.rt d,τ2)/\μ2=μ1++gs/\XU n μ μ1/\Cl μ.length d/\QD d μ1):WP (An .drop N ps mb ds) μ QD:=by
 obtain⟨r,μ2,e,d,τ2,μ1,gs,rfl,rfl,u,c,q⟩:=h;have t:Lv μ (μ1++gs) .drop=μ1:=by show (μ1++gs).take μ.length=μ1;rw[←u.len,List.take_left]
 refine AV (a:=d) (μ':=μ1) ?_ q;have hh:=DX (hw:=.drop) e hl (.inr ⟨d,rfl⟩) (by
  rw[t];refine⟨⟨gs,rfl⟩,by rw[u.len];exact AAF _,λj o e=>?_,.inl ⟨rfl,by rw[u.len];exact c⟩⟩;by_cases hj:j=n
  ·subst hj;obtain⟨xs,rfl⟩:=u;right;rw[List.getElem?_set] at e;simp at e;obtain⟨_,rfl⟩:=e;exact ag xs
  ·left;rw[←u.other hj];exact e)
 rw[t] at hh;exact hh
theorem Ar{N ps:Nat}{mb:Sl->M (Fl×Sl)}(hl:ds.length=ps)(h:WP (mb (Bi N ds)) μ λr μ2=>∃d τ2 gs,r=(.rt d,τ2)/\μ2=μ++gs/\Cl μ.length d/\QD d μ):WP (An .drop N ps mb ds) μ QD:=by
 obtain⟨r,μ2,e,d,τ2,gs,rfl,rfl,c,q⟩:=h;exact AV (F9 e hl c) q
end
mutual
def Pz:D->Prop
 | .non=>True
 | .int _=>True
 | .str x=>PyData.strOk x=true
 | .tup ds=>PzL ds
 | .lst ds=>PzL ds
 |_=>False
def PzL:List D->Prop
 |[]=>True
 |d::ds=>Pz d/\PzL ds
end
mutual
def dpt:D->Nat
 | .tup ds=>HV ds+1
 | .lst ds=>HV ds+1
 |_=>0
def HV:List D->Nat
 |[]=>0
 |d::ds=>max (dpt d) (HV ds)
end
mutual
def toZ:D->PyData
 | .int i=>.int i
 | .str x=>.str x
 | .tup ds=>.tuple (DZ ds)
 | .lst ds=>.list (DZ ds)
 |_=>.none
def DZ:List D->List PyData
 |[]=>[]
 |d::ds=>toZ d::DZ ds
end
mutual
theorem OU(μ:Mh):∀{d:D},Pz d->toP μ d=some (toZ d)
 | .non,_=>rfl
 | .int _,_=>rfl
 | .str _,_=>rfl
 | .tup ds,h=>by unfold Pz at h;unfold toP toZ;rw[Lb μ h];rfl
 | .lst ds,h=>by unfold Pz at h;unfold toP toZ;rw[Lb μ h];rfl
 | .bl _,h | .ty _,h | .scr _,h | .ref _,h=>by unfold Pz at h;exact h.elim
theorem Lb(μ:Mh):∀{ds:List D},PzL ds->Fx μ ds=some (DZ ds)
 |[],_=>by unfold Fx DZ;rfl
 |d::ds,h=>by
  unfold PzL at h;unfold Fx DZ;rw[OU μ h.1,Lb μ h.2];rfl
end
mutual
theorem La:∀{d:D},Pz d->PyData.canLay0 (toZ d)=true/\PyData.depth (toZ d)=dpt d
 | .non,_=>⟨rfl,rfl⟩
 | .int _,_=>⟨rfl,rfl⟩
 | .str _,h=>by unfold Pz at h;exact⟨h,rfl⟩
 | .tup ds,h=>by
  unfold Pz at h;obtain⟨h1,h2⟩:=Io h;unfold toZ dpt;exact⟨h1,by show PyData.depthAll (DZ ds)+1=_;rw[h2]⟩
 | .lst ds,h=>by
  unfold Pz at h;obtain⟨h1,h2⟩:=Io h;unfold toZ dpt;exact⟨h1,by show PyData.depthAll (DZ ds)+1=_;rw[h2]⟩
 | .bl _,h | .ty _,h | .scr _,h | .ref _,h=>by unfold Pz at h;exact h.elim
theorem Io:∀{ds:List D},PzL ds->PyData.canLayAll0 (DZ ds)=true/\PyData.depthAll (DZ ds)=HV ds
 |[],_=>by unfold DZ HV;exact⟨rfl,rfl⟩
 |d::ds,h=>by
  unfold PzL at h;obtain⟨h1,h2⟩:=La h.1;obtain⟨h3,h4⟩:=Io h.2;unfold DZ HV;refine⟨?_,?_⟩
  ·show (PyData.canLay0 (toZ d)&&PyData.canLayAll0 (DZ ds))=true;rw[h1,h3];rfl
  ·show max (PyData.depth (toZ d)) (PyData.depthAll (DZ ds))=_;rw[h2,h4]
end
mutual
theorem eqZ:∀{a b:D},Pz a->Pz b->(PyData.eqv (toZ a) (toZ b)=true↔a=b)
 | .non,b,_,hb=>by
  cases b<;>first|exact⟨λ_=>rfl,λ_=>rfl⟩|(unfold Pz at hb;exact hb.elim)|(unfold toZ;exact⟨λz=>(by cases z),λz=>(by cases z)⟩)
 | .int i,b,_,hb=>by
  cases b with
  |int j=>exact⟨λz=>by have:(i==j)=true:=z;rw[beq_iff_eq.mp this],λz=>by cases z;show (i==i)=true;simp⟩
  |_=>first|(unfold Pz at hb;exact hb.elim)|(unfold toZ;exact⟨λz=>(by cases z),λz=>(by cases z)⟩)
 | .str i,b,_,hb=>by
  cases b with
  |str j=>exact⟨λz=>by have:(i==j)=true:=z;rw[beq_iff_eq.mp this],λz=>by cases z;show (i==i)=true;simp⟩
  |_=>first|(unfold Pz at hb;exact hb.elim)|(unfold toZ;exact⟨λz=>(by cases z),λz=>(by cases z)⟩)
 | .tup xs,b,ha,hb=>by
  cases b with
  |tup ys=>
   unfold Pz at ha hb;unfold toZ;have:=ab ha hb;exact⟨λz=>by rw[this.mp z],λz=>by cases z;exact this.mpr rfl⟩
  |_=>first|(unfold Pz at hb;exact hb.elim)|(unfold toZ;exact⟨λz=>(by cases z),λz=>(by cases z)⟩)
 | .lst xs,b,ha,hb=>by
  cases b with
  |lst ys=>
   unfold Pz at ha hb;unfold toZ;have:=ab ha hb;exact⟨λz=>by rw[this.mp z],λz=>by cases z;exact this.mpr rfl⟩
  |_=>first|(unfold Pz at hb;exact hb.elim)|(unfold toZ;exact⟨λz=>(by cases z),λz=>(by cases z)⟩)
 | .bl _,_,h,_ | .ty _,_,h,_ | .scr _,_,h,_ | .ref _,_,h,_=>by unfold Pz at h;exact h.elim
theorem ab:∀{as bs:List D},PzL as->PzL bs->(PyData.eqvAll (DZ as) (DZ bs)=true↔as=bs)
 |[],[],_,_=>by unfold DZ;exact⟨λ_=>rfl,λ_=>rfl⟩
 |[],_::_,_,_=>by unfold DZ;exact⟨λz=>(by cases z),λz=>(by cases z)⟩
 |_::_,[],_,_=>by unfold DZ;exact⟨λz=>(by cases z),λz=>(by cases z)⟩
 |a::as,b::bs,ha,hb=>by
  unfold PzL at ha hb;unfold DZ;have h1:=eqZ ha.1 hb.1;have h2:=ab ha.2 hb.2;show (PyData.eqv (toZ a) (toZ b)&&PyData.eqvAll (DZ as) (DZ bs))=true↔_;rw[Bool.and_eq_true,h1,h2];exact⟨λ⟨x,y⟩=>by rw[x,y],λz=>by cases z;exact⟨rfl,rfl⟩⟩
end
section
variable{μ:Mh}{a b:D}{QD:D->Mh->Prop}
theorem VQ(ha:Pz a)(hb:Pz b)(da:dpt a<=64)(db:dpt b<=64):∃e:Bool,(e=true↔a=b)/\GQ neg a b μ=some (.bl (if neg then !e else e),μ):=by
 refine⟨PyData.eqv (toZ a) (toZ b),eqZ ha hb,?_⟩;obtain⟨a1,a2⟩:=La ha;obtain⟨b1,b2⟩:=La hb;have s1:SeqAt.shaped (toZ a)=true:=by
  show (PyData.canLay0 (toZ a)&&decide (PyData.depth (toZ a)<=64))=true;rw[a1,AAP (by omega)];rfl
 have s2:SeqAt.shaped (toZ b)=true:=by
  show (PyData.canLay0 (toZ b)&&decide (PyData.depth (toZ b)<=64))=true;rw[b1,AAP (by omega)];rfl
 have e1:KD μ a=some (toZ a):=by
  cases a with
  |ref n=>unfold Pz at ha;exact ha.elim
  |_=>exact OU μ ha
 have e2:KD μ b=some (toZ b):=by
  cases b with
  |ref n=>unfold Pz at hb;exact hb.elim
  |_=>exact OU μ hb
 unfold GQ;rw[e1,e2];exact if_pos ⟨s1,s2⟩
theorem ZG(ha:Pz a)(hb:Pz b)(da:dpt a<=64)(db:dpt b<=64)(q:∀e:Bool,(e=true↔a=b)->QD (.bl e) μ):WP (A7 a b) μ QD:=by
 obtain⟨e,h1,h2⟩:=VQ (μ:=μ) (neg:=false) ha hb da db;exact AV h2 (q e h1)
theorem OM(ha:Pz a)(hb:Pz b)(da:dpt a<=64)(db:dpt b<=64)(q:∀e:Bool,(e=true↔a=b)->QD (.bl (!e)) μ):WP (Ce a b) μ QD:=by
 obtain⟨e,h1,h2⟩:=VQ (μ:=μ) (neg:=true) ha hb da db;exact AV h2 (q e h1)
end
theorem IR:∀xs:List Int,PzL (xs.map D.int)
 |[]=>by unfold List.map PzL;trivial
 |x::xs=>by unfold List.map PzL;exact⟨by unfold Pz;trivial,IR xs⟩
theorem Gf:∀xs:List Int,HV (xs.map D.int)=0
 |[]=>by unfold List.map HV;rfl
 |x::xs=>by unfold List.map HV;rw[Gf xs];rfl
end Mi
namespace Mi
section
variable{b:Bool}{i:Int}
theorem Ig{P:Bool->Prop}(h:P b):∃b',D.bl b=D.bl b'/\P b':=⟨b,rfl,h⟩
theorem Wh{P:Int->Prop}(h:P i):∃i',D.int i=D.int i'/\P i':=⟨i,rfl,h⟩
theorem LY{n:Nat}{P:Nat->Prop}(e:i=n)(hn:n<1000000)(h:P n):∃j:Nat,[D.int i]=[D.int j]/\j<1000000/\P j:=⟨n,by rw[e],hn,h⟩
end
end Mi
local macro_rules | `(tactic| wtm_at "i")=>`(tactic| first|assumption|decide|omega|exact AAE rfl)
local macro_rules | `(tactic| wtm_at "n")=>`(tactic| first
 |(with_reducible apply Mi.OJ)|(with_reducible apply Mi.Ez)|(with_reducible apply Mi.We)|(with_reducible apply Mi.Y4)|(with_reducible apply Mi.ZH)|(with_reducible apply Mi.WY)|(with_reducible apply Mi.OL)|(with_reducible apply Mi.YY)|(with_reducible apply Mi.Ph)|(with_reducible apply Mi.EF)|(with_reducible apply Mi.S6)|(with_reducible apply Mi.aw)|((with_reducible apply Mi.Co);rfl)|(with_reducible apply Mi.TJ)|(with_reducible apply Mi.WI)|(with_reducible apply Mi.WZ)|(with_reducible apply Mi.YX)
 |(with_reducible apply Mi.LP)|(with_reducible apply Mi.Ig)|(with_reducible apply Mi.Y9)|(with_reducible apply Mi.TQ)|(with_reducible apply Mi.au)|(with_reducible apply Mi.ZF)|(with_reducible apply Mi.Wa)|(with_reducible apply Mi.Y2)|(with_reducible apply Mi.WD)|(with_reducible apply Mi.WE)|(with_reducible apply Mi.WG)|(with_reducible apply Mi.Y3)|(with_reducible apply Mi.Q7)|(with_reducible apply Mi.WH)|(with_reducible apply Mi.Wh)
 |(with_reducible apply Mi.Wg)|(with_reducible apply Mi.wq_add)|(with_reducible apply Mi.Y1)|(with_reducible apply Mi.TB)|(with_reducible apply Mi.TD)|(with_reducible apply Mi.YZ)|(with_reducible apply Mi.OP)|(with_reducible apply Mi.ON)|(with_reducible apply Mi.ZD)|(with_reducible apply Mi.wq_isT)|(with_reducible apply Mi.WS)|(with_reducible apply Mi.wq_neB)|(with_reducible apply Mi.wq_tupT)|(with_reducible apply Mi.V1)|(with_reducible apply Mi.WO)|(with_reducible apply Mi.V2)|(with_reducible apply Mi.Dy)
 |((with_reducible apply Mi.S8);(wtm_at "i"))|((with_reducible apply Mi.WX);(wtm_at "i");(wtm_at "i"))|((with_reducible apply Mi.WJ);(wtm_at "i"))|((with_reducible apply Mi.Bc);(wtm_at "i"))|((with_reducible apply Mi.WL);(wtm_at "i"))|((with_reducible apply Mi.Aq);rfl)|((with_reducible apply Mi.C8);rfl))
local macro_rules | `(tactic| wtm_at "d")=>`(tactic| repeat wtm_at "n")
namespace Mi
open PySem L2
section
variable{τ τ1:Sl}{μ μ1:Mh}{x y:D}{ds:List D}{ma:Sl->M D}{ra:Sl->M (List D)}{tc:Sl->M Bool}{QD:D->Mh->Prop}{QL:List D->Mh->Prop}
theorem Bs{α:Type}(f:α->D)(p:α->Bool)(F:α->D){bf:D->Sl->M Sl}{xs:List α}(h:∀a∈xs,WP (bf (f a) τ0) μ λτ1 μ1=>μ1=μ/\WP (tc τ1) μ λc μ2=>c=p a/\μ2=μ/\(p a=true->WP (ma τ1) μ λy μ3=>y=F a/\μ3=μ))(q:QL ((xs.filter p).map F) μ):WP (CB bf tc ma τ0 (xs.map f) []) μ QL:=by
 refine LX (I:=λrest ys μ'=>∃a b,a++b=xs/\rest=b.map f/\ys=(a.filter p).map F/\μ'=μ) (λz zs ys μ' hI=>?_) (λys μ' hI=>?_) ⟨[],xs,rfl,rfl,rfl,rfl⟩
 ·obtain⟨a,b,hab,hr,rfl,rfl⟩:=hI;cases b with
  |nil=>cases hr
  |cons w b=>
   rw[AAX] at hr;obtain⟨e1,e2⟩:=List.cons.inj hr;subst e1;have hw:w∈xs:=by rw[←hab];simp
   refine AU (h w hw) λτ1 μ1 ⟨e,z⟩=>?_;subst e;refine AU z λc μ2 ⟨e3,e4,z2⟩=>?_;subst e3 e4;refine⟨λhc=>AU (z2 hc) λy μ3 ⟨e5,e6⟩=>?_,λhc=>?_⟩
   ·subst e5 e6;exact⟨a++[w],b,by rw[←hab];simp,e2,by rw[List.filter_append,AAY,List.filter_cons_of_pos hc];rfl,rfl⟩
   ·exact⟨a++[w],b,by rw[←hab];simp,e2,by rw[List.filter_append,AAY,List.filter_cons_of_neg (by rw[hc];exact AAi)];simp,rfl⟩
 ·obtain⟨a,b,hab,hr,rfl,rfl⟩:=hI;cases b with
  |cons w b=>cases hr
  |nil=>
   rw[AAb] at hab;subst hab;exact q
theorem Yz(h:WP (ra τ) μ λds μ1=>∃xs ys,ds=[.tup xs,.tup ys]/\ys.length=xs.length/\QL (Gu xs ys) μ1):WP (Xq ra τ) μ QL:=AT (AU h λds μ1 ⟨xs,ys,e,hl,q⟩=>by
 subst e;refine AV (a:=Gu xs ys) (μ':=μ1) ?_ q;exact if_pos hl)
theorem LU{x y:Str}(h1:PyData.strOk x=true)(h2:PyData.strOk y=true)(q:QD (.bl (x==y)) μ):WP (A7 (.str x) (.str y)) μ QD:=by
 refine ZG (by unfold Pz;exact h1) (by unfold Pz;exact h2) (by show 0<=64;omega) (by show 0<=64;omega) λe he=>?_;have:e=(x==y):=by
  rw[Bool.eq_iff_iff,he,beq_iff_eq];exact⟨λz=>by cases z;rfl,λz=>by rw[z]⟩
 rw[this];exact q
end
end Mi
namespace K13
open PySem L2 Mi
noncomputable def JZ  : Sl->M (Fl×Sl):=
  (AY (sIf (AS (mOp A7 (AC 0) (mC (.str "safe")))) (Am (mUn (JI D.tup) (AC 1))) BB)
  (Am (AJ C9 (AD (mUn CV (mOp A5 (AC 2) (AJ As (AD (AC 3) AN)))) AN))))
noncomputable def ER  : Sl->M (Fl×Sl):=
  (Am (mOp A5 (mOp A5 (Fa (AC 0) Ch (EB (AC 1))) (AJ As (AD (AC 2) AN))) (Fa (AC 0) (EB (mOp A5 (AC 1) (mC (.int 1)))) Ch)))
noncomputable def CF:List D->M D:=An .drop 4 4 (JZ)
noncomputable def A6:List D->M D:=An .drop 3 3 (ER)
end K13
set_option maxHeartbeats 4000000
namespace K13
open PySem L2 Mi Ht
noncomputable def kdS:Bool->Str
 |true => "safe"
 |false => "steady"
def tD:Option (List Int)->D
 |none=>.non
 |some l=>.tup (l.map D.int)
def clD(w c:Int)(ts:List (Option (List Int))):D:=.tup [.int w,.int c,.tup (ts.map tD)]
def BI(n:Nat):List Int:=(List.range n).map Int.ofNat
noncomputable def bsd(sf:Bool)(sz:Int)(l:List Int)(v:Int):List Int:=if sf then BI sz.toNat else srt (l++[v])
theorem Ed{α:Type}{f:α->D}{k:Nat}(h:∀a,Cl k (f a)):∀xs:List α,ClL k (xs.map f)
 |[]=>by unfold ClL;trivial
 |x::xs=>by
  rw[AAX];unfold ClL;exact⟨h x,Ed h xs⟩
theorem HW(k:Nat)(i:Int):Cl k (.int i):=by unfold Cl;trivial
theorem Yw(k:Nat):∀t,Cl k (tD t)
 |none=>by unfold tD Cl;trivial
 |some l=>by unfold tD Cl;exact Ed (HW k) l
theorem HX(k:Nat)(w c:Int)(ts:List (Option (List Int))):Cl k (clD w c ts):=by
 unfold clD Cl ClL;refine⟨HW _ _,?_⟩;unfold ClL;refine⟨HW _ _,?_⟩;unfold ClL;refine⟨by unfold Cl;exact Ed (Yw k) ts,by unfold ClL;trivial⟩
section
variable{μ μ1 μ2 μ3 μ4:Mh}{τ:Sl}{x0 d:D}{ds es:List D}
theorem Xn(h:ds.length<=sizeLine):As ds μ=some (.tup ds,μ):=by
 unfold As;rw[Ap (show lim ds.length μ=some ((),μ) from by unfold lim;rw[if_pos h])];rfl
theorem Xo(h:ds.length<=sizeLine):BM ds μ=some (.lst ds,μ):=by
 unfold BM;rw[Ap (show lim ds.length μ=some ((),μ) from by unfold lim;rw[if_pos h])];rfl
theorem aa{ma:Sl->M D}{l h:Sl->M (Option Int)}{a b:Option Int}(h1:ma τ μ=some (x0,μ1))(h2:l τ μ1=some (a,μ2))(h3:h τ μ2=some (b,μ3))(h4:ND a b x0 μ3=some (d,μ4)):Fa ma l h τ μ=some (d,μ4):=by unfold Fa;rw[Ap h1,Ap h2,Ap h3,h4]
theorem L1(h:ds.length+es.length<=sizeLine):A5 (.tup ds) (.tup es) μ=some (.tup (ds++es),μ):=by
 cases ds with
 |nil=>rfl
 |cons a as=>exact Xn (by simp at h ⊢;omega)
theorem Iy{x:Str}(h:PyData.strOk x=true):SeqAt.shaped (.str x)=true:=by
 show (PyData.strOk x&&decide ((PyData.str x).depth<=64))=true;rw[h];rfl
theorem cB{x y:Str}(h1:PyData.strOk x=true)(h2:PyData.strOk y=true):A7 (.str x) (.str y) μ=some (.bl (x==y),μ):=by
 show (if SeqAt.shaped (.str x)=true/\SeqAt.shaped (.str y)=true then some (D.bl (x==y),μ) else none)=_;rw[if_pos ⟨Iy h1,Iy h2⟩]
theorem cD:∀sf,PyData.strOk (kdS sf)=true:=by decide +kernel
theorem X0:∀sf,(kdS sf==("safe" : Str))=sf:=by decide +kernel
theorem U0{sf:Bool}:A7 (.str (kdS sf)) (.str "safe") μ=some (.bl sf,μ):=by rw[cB (cD sf) (by decide +kernel),X0]
theorem bN:sizeLine=16777216:=by decide
theorem Xv{l:List Int}(h:(BX l).length<=18):CV (.tup (l.map D.int)) μ=some (.lst ((srt l).map D.int),μ):=by
 unfold CV;rw[Ap (show BU (.tup (l.map D.int)) μ=some (l.map D.int,μ) from rfl)];simp only[HN];rw[if_pos h]
theorem Xw{l:List Int}(h:(BX l).length<=18):CV (.lst (l.map D.int)) μ=some (.lst ((srt l).map D.int),μ):=by
 unfold CV;rw[Ap (show BU (.lst (l.map D.int)) μ=some (l.map D.int,μ) from rfl)];simp only[HN];rw[if_pos h]
theorem Mg{sf:Bool}{sz v:Int}{l:List Int}(h0:0<=sz)(h1:sz<=1000)(hl:l.length<=1000)(hr:(BX (l++[v])).length<=18):
  CF [.str (kdS sf),.int sz,.tup (l.map D.int),.int v] μ=some (.tup ((bsd sf sz l v).map D.int),μ):=by
 have hz:=bN;refine F9 (g:=[]) (τ2:=Bi 4 [.str (kdS sf),.int sz,.tup (l.map D.int),.int v]) ?_ rfl (by unfold Cl;exact Ed (HW _) _);rw[AAb];cases sf with
 |true=>
  refine Qr (VN (MB (Np (x:=.str (kdS true)) (y:=.str "safe") rfl rfl U0)) (MC (VL (x:=.int sz) rfl ?_)));show (if 0<=sz/\sz<=1000 then some (D.tup (QW sz.toNat),μ) else none)=_;rw[if_pos ⟨h0,h1⟩];rfl
 |false=>
  refine VM (VO (MB (Np (x:=.str (kdS false)) (y:=.str "safe") rfl rfl U0)) rfl) (MC (Qs (ds:=[.lst ((srt (l++[v])).map D.int)]) (Nq (ds:=[]) (VL (x:=.tup ((l++[v]).map D.int)) (Np (x:=.tup (l.map D.int)) (y:=.tup [.int v]) rfl rfl ?_) (Xv hr)) rfl) rfl));rw[L1 (by simp;omega),AAY];rfl
section
variable{ma mb:Sl->M D}{x y:D}{g:D->D->M D}{b:Bool}
theorem po(h1:ma τ μ=some (x,μ))(h2:mb τ μ=some (y,μ))(h3:g x y μ=some (d,μ)):mOp g ma mb τ μ=some (d,μ):=Np h1 h2 h3
theorem p2{l h:Sl->M (Option Int)}{a b:Option Int}(h1:ma τ μ=some (x,μ))(h2:l τ μ=some (a,μ))(h3:h τ μ=some (b,μ))(h4:ND a b x μ=some (d,μ)):Fa ma l h τ μ=some (d,μ):=aa h1 h2 h3 h4
theorem pr(h1:ma τ μ=some (d,μ)):Am ma τ μ=some ((.rt d,τ),μ):=MC h1
end
theorem af{α:D}{j:Nat}(h:j<=ds.length):Gh ds none (some (j:Int))=ds.take j:=by
 unfold Gh;rw[HT.M2,HT.P8,Nat.min_eq_left h];simp
theorem VY{j:Nat}(h:j<=ds.length):Gh ds (some (j:Int)) none=ds.drop j:=by
 unfold Gh;rw[HT.M2,HT.P8,Nat.min_eq_left h];exact List.take_of_length_le (by simp)
theorem ZJ{j:Nat}{x:D}(hj:j<ds.length)(hl:ds.length<=1000)(hc:∀k,ClL k ds)(hx:∀k,Cl k x):A6 [.tup ds,.int j,x] μ=some (.tup (ds.set j x),μ):=by
 have hz:=bN;have hcs:∀(k j:Nat) (ds:List D),ClL k ds->ClL k (ds.set j x):=by
  intro k j ds
  induction ds generalizing j with
  |nil=>intro h;exact h
  |cons a as ih=>
   intro h;unfold ClL at h;cases j with
   |zero=>show ClL k (x::as);unfold ClL;exact⟨hx k,h.2⟩
   |succ j=>show ClL k (a::as.set j x);unfold ClL;exact⟨h.1,ih j h.2⟩
 refine F9 (g:=[]) (τ2:=Bi 3 [.tup ds,.int j,x]) ?_ rfl (by unfold Cl;exact hcs _ _ _ (hc _));rw[AAb];refine pr (po (x:=.tup (ds.take j++[x])) (y:=.tup (ds.drop (j+1))) (po (x:=.tup (ds.take j)) (y:=.tup [x]) (p2 (x:=.tup ds) (a:=none) (b:=some (j:Int)) rfl rfl rfl ?_) rfl (L1 (by simp;omega))) (p2 (x:=.tup ds) (a:=some ((j:Int)+1)) (b:=none) rfl rfl rfl ?_) ?_)
 ·show some (D.tup (Gh ds none (some (j:Int))),μ)=_;rw[af (α:=x) (by omega)]
 ·show some (D.tup (Gh ds (some ((j:Int)+1)) none),μ)=_;rw[show ((j:Int)+1)=((j+1:Nat):Int) by omega,VY (by omega)]
 ·rw[L1 (by simp;omega),AAo];rw[List.set_eq_take_append_cons_drop,if_pos hj];rfl
end
end K13
set_option maxHeartbeats 4000000
namespace K13
open PySem L2 Mi Ht
section
variable{μ:Mh}
theorem Iw(h:∀x∈l,0<=x/\x<10):(BX l).length<=18:=by
 have h1:=JS (r:=(List.range 10).map Int.ofNat) (JR l) λx hx=>by
  obtain⟨a,b⟩:=h x ((NN l x).mp hx);exact AAM.mpr ⟨x.toNat,List.mem_range.mpr (by omega),by show ((x.toNat:Nat):Int)=x;omega⟩
 simp at h1;omega
theorem LA:∀xs:List Int,F7 (xs.map D.int)=some (xs.map V.int)
 |[]=>rfl
 |x::r=>by show (LB (.int x)).bind _=_;rw[LA r];rfl
theorem Ni:∀xs:List Int,inV (.int x) (xs.map V.int)=decide (x∈xs)
 |[]=>rfl
 |y::r=>by
  have h:=Ni (x:=x) r;unfold inV at h ⊢;rw[AAX,List.any_cons,h];show ((y==x)||decide (x∈r))=_;by_cases e:x=y
  ·subst e;simp
  ·have:(y==x)=false:=AAg.mpr λz=>e z.symm;rw[this,Bool.false_or];simp[e]
theorem cA{neg:Bool}{c:D}{xs:List Int}(h:BU c μ=some (xs.map D.int,μ)):KH neg (.int x) c μ=some (.bl (if neg then !decide (x∈xs) else decide (x∈xs)),μ):=by
 show Qp neg (.int x) c μ=_;unfold Qp;rw[Ap h];simp only[LA];show some (D.bl (if neg then !inV (.int x) (xs.map V.int) else inV (.int x) (xs.map V.int)),μ)=_;rw[Ni]
end
end K13
namespace K21
open PySem L2 Mi
theorem IN(q:QD (.int ds.length) μ):WP (Jf [.lst ds]) μ QD:=⟨_,μ,rfl,q⟩
theorem VP(h:μ[n]?=some (.lst ds)):GQ neg (.ref n) b μ=GQ neg (.lst ds) b μ:=by
 have:KD μ (.ref n)=KD μ (.lst ds):=by
  unfold KD;dsimp only;rw[h];unfold toP;rfl
 unfold GQ;rw[this]
theorem S7(hp:PzL ds)(hd:HV ds<=60)(q:QD (.bl (!ds.isEmpty)) μ):WP (Ce (.lst ds) (.lst [])) μ QD:=by
 refine OM (by unfold Pz;exact hp) (by unfold Pz PzL;trivial) (by unfold dpt;omega) (by unfold dpt HV;omega) λe he=>?_;have:e=ds.isEmpty:=by
  rw[Bool.eq_iff_iff,he,List.isEmpty_iff];exact⟨λz=>by cases z;rfl,λz=>by rw[z]⟩
 rw[this];exact q
theorem Q8(h:μ[n]?=some (.lst ds))(hp:PzL ds)(hd:HV ds<=60)(q:QD (.bl (!ds.isEmpty)) μ):WP (Ce (.ref n) (.lst [])) μ QD:=by
 obtain⟨a,μ',e,z⟩:=S7 (μ:=μ) (QD:=QD) hp hd q;exact⟨a,μ',(VP h).trans e,z⟩
theorem WC(ht:τ[i]?=some (some (.ref n)))(h:μ[n]?=some (.lst ds))(q:QL ds μ):WP (Qa (AC i) τ) μ QL:=by
 refine AT (AV (FY ht) ?_);refine AV (a:=ds) (μ':=μ) ?_ q;unfold Yx;dsimp only;rw[h]
end K21
namespace Mi
open PySem L2
theorem TN(h:WP (mo τ) μ λx μ1=>WP (mi τ) μ1 λy μ2=>∃n k ds j,x=.ref n/\y=.int k/\μ2[n]?=some (.lst ds)/\ixN ds.length k=some j/\QT τ (μ2.set n (.lst (ds.set j d)))):WP (Vk mo mi d τ) μ QT:=by
 unfold Vk;refine AT (AU h λx μ1 h=>AT (AU h λy μ2 ⟨n,k,ds,j,e1,e2,e3,e4,q⟩=>?_));subst e1 e2;exact AT (AV (Yj e3 e4) (BA q))
end Mi
namespace K21
open PySem L2 Mi
end K21
namespace K41
open PySem L2 Mi
end K41
namespace K41
open PySem L2 Mi Ht Nk Hs
end K41
namespace Mi
open PySem L2
theorem Ie(hl:ds.length=ps)(h:WP (mb (Bi N ds)) μ λr μ2=>∃d τ2,r=(.rt d,τ2)/\μ.length<=μ2.length/\(∀(j:Nat) (o:MO),μ2[j]?=some o->μ[j]?=some o∨ClO μ2.length o)/\Cl μ2.length d/\QD d μ2):WP (An .all N ps mb ds) μ QD:=by
 obtain⟨r,μ2,e,d,τ2,rfl,le,old,c,q⟩:=h;exact AV (DX (hw:=.all) e hl (.inr ⟨d,rfl⟩) ⟨⟨[],by show μ2=μ2++[];simp⟩,le,old,.inl ⟨rfl,c⟩⟩) q
theorem Y5(h:0<=j/\j<=1000000/\i.natAbs<2 ^ 64)(q:QD (.int (i ^ j.toNat)) μ):WP (UK (.int i) (.int j)) μ QD:=by
 refine AV (a:=.int (i ^ j.toNat)) (μ':=μ) ?_ q;exact if_pos h
theorem OQ(I:Nat->Sl->Mh->Prop)(step:∀(j:Nat) τ μ,j<m->I j τ μ->WP (bf (.int (j:Int)) τ) μ λτ1 μ1=>WP (m1 τ1) μ1 (Ky (I (j+1)) QS))(last:∀τ μ,I m τ μ->QS (.next,τ) μ)(h:I 0 τ μ):WP (FO bf m1 ((List.range m).map λ(i:Nat)=>D.int (i:Int)) τ) μ QS:=by
 refine LW (I:=λrest τ μ=>∃j,j<=m/\rest=(List.range' j (m-j)).map (λ(i:Nat)=>D.int (i:Int))/\I j τ μ) ?_ ?_ ⟨0,AAm _,by rw[Nat.sub_zero,←List.range_eq_range'],h⟩
 ·rintro x xs τ μ ⟨j,hj,hr,hI⟩;have hlt:j<m:=by
   rcases Nat.lt_or_ge j m with z|z
   ·exact z
   ·rw[show m-j=0 by omega] at hr;cases hr
  rw[show m-j=(m-(j+1))+1 by omega,List.range'_succ,AAX] at hr;obtain⟨e3,e4⟩:=List.cons.inj hr;subst e3;refine AU (step j τ μ hlt hI) λτ1 μ1 z=>AU z λr μ2 z2=>?_;obtain⟨fl,τ2⟩:=r;cases fl
  ·exact⟨j+1,hlt,e4,z2⟩
  ·exact z2
  ·exact⟨j+1,hlt,e4,z2⟩
  ·exact z2
 ·rintro τ μ ⟨j,hj,hr,hI⟩;have hj':j=m:=by
   have:=congrArg List.length hr;simp at this;omega
  subst hj';exact last τ μ hI
end Mi
namespace K41
open PySem L2 Mi Ht Nk Hs
end K41
namespace K21
open PySem L2 Mi
end K21
namespace Mi
open PySem L2
theorem GG(hl:ds.length=ps)(h:WP (mb (Bi N ds)) μ λr μ2=>∃es τ2 gs,μ2=μ++gs/\ClL μ.length es/\QD (.lst es) μ/\(r=(.rt (.lst es),τ2)∨∃j,r=(.rt (.ref j),τ2)/\μ.length<=j/\μ2[j]?=some (.lst es))):WP (An .frz N ps mb ds) μ QD:=by
 obtain⟨r,μ2,e,es,τ2,gs,rfl,c,q,z|⟨j,z,hj,hg⟩⟩:=h
 ·subst z;exact AV (O9 e hl c) q
 ·subst z;exact AV (SL e hl hj hg c) q
theorem FR(ht:τ[i]?=some (some (.ref gs.length)))(h:WP (ra τ) (gs++[.lst ds]) λes μ1=>∃zs,es=[.lst zs]/\μ1=gs++[.lst ds]/\ds.length+zs.length<=1000000/\QD .non (gs++[.lst (ds++zs)])):WP (BT SC (AC i) ra τ) (gs++[.lst ds]) QD:=by
 unfold BT;refine AT (AV (FY ht) ?_);have at_:(gs++[MO.lst ds])[gs.length]?=some (.lst ds):=by
  rw[AAS (AAF _),AA3];rfl
 have hg:Cb (.ref gs.length) (gs++[.lst ds])=some ((),gs++[.lst ds]):=by
  unfold Cb;rw[Ap (show Bo (.ref gs.length) (gs++[.lst ds])=some (ds,gs++[.lst ds]) from by unfold Bo;dsimp only;rw[at_])];rfl
 refine AT (AV hg (AT (AU h ?_)));rintro es μ1 ⟨zs,rfl,rfl,hl,q⟩;refine AV (a:=.non) (μ':=gs++[.lst (ds++zs)]) ?_ q;show Gy gs.length (λds=>if ds.length+zs.length<=sizeLine then some (.non,ds++zs) else none) (gs++[.lst ds])=_;unfold Gy;rw[at_];dsimp only;rw[if_pos (by rw[sizeLine_eq];omega)];simp
end Mi
namespace K21
open PySem L2 Mi
end K21
namespace Mi
open PySem L2
theorem BP(h:WP (bf x τ) μ λτ1 μ1=>WP (m1 τ1) μ1 (Ky (λτ2 μ2=>WP (FO bf m1 xs τ2) μ2 QS) QS)):WP (FO bf m1 (x::xs) τ) μ QS:=
 AT (AU h λτ1 μ1 z=>AT (AU z λr μ2 z=>by
  obtain⟨fl,τ2⟩:=r;cases fl
  ·exact z
  ·exact BA z
  ·exact z
  ·exact BA z))
theorem DH(h:QS (.next,τ) μ):WP (FO bf m1 [] τ) μ QS:=BA h
end Mi
namespace K21
open PySem L2 Mi
end K21
namespace K21
open PySem L2 Mi Xt
section
variable{μ:Mh}{QD:D->Mh->Prop}
theorem Pg(h:as.length+bs.length<=1000000)(q:QD (.lst (as++bs)) μ):WP (A5 (.lst as) (.lst bs)) μ QD:=by
 refine AV (a:=.lst (as++bs)) (μ':=μ) ?_ q;show BM (as++bs) μ=_;unfold BM;rw[Ap (HH (by rw[AAH,sizeLine_eq];omega) _)];rfl
end
end K21
namespace K21
open PySem L2 Mi
section
theorem Gi(l:List Int):ClO k (.lst (l.map D.int)):=by unfold ClO;exact ag l
end
end K21
namespace Mi
open PySem L2
section
variable{μ:Mh}{QD:D->Mh->Prop}{QS:Fl×Sl->Mh->Prop}{τ:Sl}{c f:Str}{n:Nat}{l:List (Str×D)}{d:D}
theorem OC(h:μ[n]?=some (.ins c l)):H9 c (.ref n) μ=some ((n,l),μ):=by
 unfold H9;dsimp only;rw[h];exact if_pos rfl
theorem WW(h:μ[n]?=some (.ins c l))(hl:l.lookup f=some d)(q:QD d μ):WP (By c f (.ref n)) μ QD:=by
 refine AV (a:=d) (μ':=μ) ?_ q;unfold By;rw[Ap (OC h)];show (l.lookup f).map _=_;rw[hl];rfl
theorem WF(h:WP (mv τ) μ λy μ1=>WP (mo τ) μ1 λx μ2=>∃n l,x=.ref n/\μ2[n]?=some (.ins c l)/\l.length<1000/\QS (.next,τ) (μ2.set n (.ins c (C2 f y l)))):WP (Fi c f mo mv τ) μ QS:=by
 unfold Fi;refine AT (AU h λy μ1 h=>AT (AU h λx μ2 ⟨n,l,e1,e2,e3,q⟩=>?_));subst e1;refine AT (AV (OC e2) ?_);exact⟨_,_,if_pos e3,q⟩
theorem S9(h:WP (φ (.ref μ.length::ds)) (μ++[.ins c []]) λd μ'=>d=.non/\QD (.ref μ.length) μ'):WP (Hl c φ ds) μ QD:=by
 obtain⟨d,μ',e,rfl,q⟩:=h;refine AV (a:=.ref μ.length) (μ':=μ') ?_ q;unfold Hl;rw[e]
end
end Mi
namespace K21
open PySem L2 Mi
end K21
namespace Mi
open PySem L2
theorem TU(hl:ds.length=ps)(h:WP (mb (Bi N ds)) μ λr μ2=>∃τ2,r=(.next,τ2)/\μ.length<=μ2.length/\(∀(j:Nat) (o:MO),μ2[j]?=some o->μ[j]?=some o∨ClO μ2.length o)/\QD .non μ2):WP (An .all N ps mb ds) μ QD:=by
 obtain⟨r,μ2,e,τ2,rfl,le,old,q⟩:=h;exact AV (DX (hw:=.all) e hl (.inl rfl) ⟨⟨[],by show μ2=μ2++[];simp⟩,le,old,.inl ⟨rfl,by show Cl _ D.non;unfold Cl;trivial⟩⟩) q
section
variable{μ gs:Mh}{QD:D->Mh->Prop}{QS:Fl×Sl->Mh->Prop}{τ:Sl}{c f:Str}{i:Nat}{l:List (Str×D)}
theorem Bn(o:MO):(μ++o::gs)[μ.length]?=some o:=by
 rw[AAS (AAF _),AA3];rfl
theorem P3(o o':MO):(μ++o::gs).set μ.length o'=μ++o'::gs:=by
 rw[AAh _ _ (AAF _),AA3];rfl
theorem Dx(ht:τ[i]?=some (some (.ref μ.length)))(hl:l.length<1000)(h:WP (mv τ) (μ++.ins c l::gs) λy μ1=>∃gs',μ1=μ++.ins c l::gs'/\QS (.next,τ) (μ++.ins c (C2 f y l)::gs')):WP (Fi c f (AC i) mv τ) (μ++.ins c l::gs) QS:=by
 refine WF (AU h λy μ1 ⟨gs',e,q⟩=>?_);subst e;refine Co ht ⟨μ.length,l,rfl,Bn _,hl,?_⟩;rw[P3];exact q
theorem WK(q:QD (.ref μ.length) (μ++[.dK []])):WP (aE τ) μ QD:=⟨_,_,rfl,q⟩
theorem Md(ht:τ[i]?=some (some (.ref μ.length)))(hf:l.lookup f=some (.ref (μ.length+1)))(hk:kvs.length<1000)(hv:WP (mv τ) (μ++.ins c l::.dK kvs::gs) λy μ1=>y=v/\μ1=μ++.ins c l::.dK kvs::gs)(hi:WP (mi τ) (μ++.ins c l::.dK kvs::gs) λy μ1=>y=.str x/\μ1=μ++.ins c l::.dK kvs::gs)(q:∀ky,GU (.str x)=some ky->QS (.next,τ) (μ++.ins c l::.dK (FD kvs ky v)::gs))(ks:(GU (.str x)).isSome):WP (GO (mUn (By c f) (AC i)) mi mv τ) (μ++.ins c l::.dK kvs::gs) QS:=by
 unfold GO;refine AT (AU hv λy μ1 ⟨e1,e2⟩=>?_);subst e1 e2;refine AT (YX (Co ht (WW (Bn _) hf ?_)));refine AT (AU hi λy μ1 ⟨e1,e2⟩=>?_);subst e1 e2;have ha:Eh (.ref (μ.length+1)) (μ++MO.ins c l::.dK kvs::gs)=some ((μ.length+1,kvs),μ++MO.ins c l::.dK kvs::gs):=by
  unfold Eh;dsimp only;rw[AAS (by omega),show μ.length+1-μ.length=1 by omega];rfl
 refine AT (AV ha ?_);obtain⟨ky,hky⟩:=Option.isSome_iff_exists.mp ks;refine⟨_,_,?_,q ky hky⟩;rw[hky];dsimp only;rw[if_pos (by rw[sizeLine_eq];omega)];rw[AAh _ _ (by omega),show μ.length+1-μ.length=1 by omega];rfl
end
end Mi
namespace K21
open PySem L2 Mi
theorem Ey(h:WP (ra τ) μ λas μ1=>∃ds,as=[.tup ds]/\QL (Fr 0 ds) μ1):WP (HE ra τ) μ QL:=by
 unfold HE;refine AT (AU h λas μ1 ⟨ds,e,q⟩=>?_);subst e;exact AT (AV (a:=ds) (μ':=μ1) rfl (BA q))
end K21
namespace Mi
open PySem L2
section
variable{τ:Sl}{μ μ1:Mh}{d x y:D}{ds:List D}{ma mb:Sl->M D}{ra:Sl->M (List D)}{tc:Sl->M Bool}{QD:D->Mh->Prop}{QB:Bool->Mh->Prop}{QS:Fl×Sl->Mh->Prop}{i j:Int}
theorem Vz{x y:Str}(h1:PyData.strOk x=true)(h2:PyData.strOk y=true)(h:(x==y)=true)(q:QD (.bl true) μ):WP (A7 (.str x) (.str y)) μ QD:=LU h1 h2 (by rw[h];exact q)
theorem GE{x y:Str}(h1:PyData.strOk x=true)(h2:PyData.strOk y=true)(h:(x==y)=false)(q:QD (.bl false) μ):WP (A7 (.str x) (.str y)) μ QD:=LU h1 h2 (by rw[h];exact q)
theorem PZ{x y:Str}(h1:PyData.strOk x=true)(h2:PyData.strOk y=true)(q:QD (.bl (!(x==y))) μ):WP (Ce (.str x) (.str y)) μ QD:=by
 refine OM (by unfold Pz;exact h1) (by unfold Pz;exact h2) (by show 0<=64;omega) (by show 0<=64;omega) λe he=>?_;have:e=(x==y):=by
  rw[Bool.eq_iff_iff,he,beq_iff_eq];exact⟨λz=>by cases z;rfl,λz=>by rw[z]⟩
 rw[this];exact q
theorem IJ{x y:Str}(h1:PyData.strOk x=true)(h2:PyData.strOk y=true)(h:(x==y)=false)(q:QD (.bl true) μ):WP (Ce (.str x) (.str y)) μ QD:=PZ h1 h2 (by rw[h];exact q)
theorem Vp{x y:Str}(h1:PyData.strOk x=true)(h2:PyData.strOk y=true)(h:(x==y)=true)(q:QD (.bl false) μ):WP (Ce (.str x) (.str y)) μ QD:=PZ h1 h2 (by rw[h];exact q)
theorem Dw(h:i=j)(q:QD (.bl true) μ):WP (A7 (.int i) (.int j)) μ QD:=OP (by rw[beq_iff_eq.mpr h];exact q)
theorem Br(h:i≠j)(q:QD (.bl false) μ):WP (A7 (.int i) (.int j)) μ QD:=OP (by rw[AAg.mpr h];exact q)
theorem MV(h:i≠j)(q:QD (.bl true) μ):WP (Ce (.int i) (.int j)) μ QD:=ON (by rw[AAg.mpr h];exact q)
theorem MW(h:i=j)(q:QD (.bl false) μ):WP (Ce (.int i) (.int j)) μ QD:=ON (by rw[beq_iff_eq.mpr h];exact q)
theorem Vr(h:i<j)(q:QD (.bl true) μ):WP (NE (.int i) (.int j)) μ QD:=TB (by rw[AAP h];exact q)
theorem Vs(h:¬i<j)(q:QD (.bl false) μ):WP (NE (.int i) (.int j)) μ QD:=TB (by rw[AAO h];exact q)
theorem Vw(h:j<i)(q:QD (.bl true) μ):WP (NF (.int i) (.int j)) μ QD:=TD (by rw[AAP h];exact q)
theorem Vx(h:¬j<i)(q:QD (.bl false) μ):WP (NF (.int i) (.int j)) μ QD:=TD (by rw[AAO h];exact q)
theorem Vy(h:¬j<=i)(q:QD (.bl false) μ):WP (Rb (.int i) (.int j)) μ QD:=YZ (by rw[AAO h];exact q)
theorem Sj(q:QD (.bl true) μ):WP (DK false .non .non) μ QD:=⟨_,μ,rfl,q⟩
theorem Si(q:QD (.bl false) μ):WP (DK true .non .non) μ QD:=⟨_,μ,rfl,q⟩
theorem Vv(q:QD (.bl b) μ):WP (DK b (.int i) .non) μ QD:=by cases b<;>exact⟨_,μ,rfl,q⟩
theorem Vu(q:QD (.bl b) μ):WP (DK b (.tup ds) .non) μ QD:=by cases b<;>exact⟨_,μ,rfl,q⟩
theorem Sn(h:WP m μ QB):aj m QB true μ:=h
theorem MY(h:QB false μ):aj m QB false μ:=h
theorem PY(h:WP m μ QB):orK m QB false μ:=h
noncomputable def aH(m1 m2:M D)(QD:D->Mh->Prop):Bool->Mh->Prop
 |true,μ=>WP m1 μ QD
 |false,μ=>WP m2 μ QD
theorem Vq(h:WP (mc τ) μ (aH (ma τ) (mb τ) QD)):WP (mIf mc ma mb τ) μ QD:=ZA (AU h λb _ z=>by cases b;exact⟨λe=>(nomatch e),λ_=>z⟩;exact⟨λ_=>z,λe=>(nomatch e)⟩)
theorem Sf(h:WP m1 μ QD):aH m1 m2 QD true μ:=h
theorem Sh(h:WP m2 μ QD):aH m1 m2 QD false μ:=h
noncomputable def Yy(m:M D)(QD:D->Mh->Prop):D->Mh->Prop
 | .bl true,μ=>WP m μ QD
 | .bl false,μ=>QD (.bl false) μ
 |_,_=>False
theorem Sk(h:WP (ma τ) μ (Yy (mb τ) QD)):WP (Kx ma mb τ) μ QD:=Wf (AU h λd μ1 z=>by
 match d,z with
 | .bl true,z=>exact⟨true,rfl,λ_=>z,λe=>(nomatch e)⟩
 | .bl false,z=>exact⟨false,rfl,λe=>(nomatch e),λ_=>z⟩)
theorem KR(h:WP m μ QD):Yy m QD (.bl true) μ:=h
theorem Se(h:WP (ma τ) μ λd μ1=>∃b,d=.bl b/\QD (.bl (!b)) μ1):WP (Qb ma τ) μ QD:=by
 obtain⟨d,μ1,e,b,rfl,q⟩:=h;refine⟨.bl (!b),μ1,?_,q⟩;unfold Qb;rw[Ap e];rfl
theorem Q4(h:WP (ma τ) μ λx μ1=>WP (mb τ) μ1 λy μ2=>WP (g x y) μ2 λz μ3=>z=.bl true/\WP (mc τ) μ3 λv μ4=>WP (g' y v) μ4 QD):WP (HF g g' ma mb mc τ) μ QD:=by
 unfold HF;refine AT (AU h λx μ1 h=>AT (AU h λy μ2 h=>AT (AU h λz μ3 ⟨e,h⟩=>?_)));subst e;refine AT (BA ?_);rw[if_pos rfl];exact AT h
theorem Vt(h:i<=j)(q:QD (.bl true) μ):WP (Ra (.int i) (.int j)) μ QD:=⟨.bl (decide (i<=j)),μ,rfl,by rw[AAP h];exact q⟩
theorem Ah(h:μ[n]?=some (.ins c l))(hl:l.lookup f=some d)(q:QD d μ):WP (By c f (.ref n)) μ QD:=by
 refine AV (a:=d) (μ':=μ) ?_ q;unfold By H9;show bnd (λμ=>match μ[n]? with|some (.ins c' l)=>if c'=c then some ((n,l),μ) else none|_=>none) _ μ=_;rw[Ap (show (match μ[n]? with|some (.ins c' l)=>if c'=c then some ((n,l),μ) else none|_=>none)=some ((n,l),μ) from by rw[h];exact if_pos rfl)];show (l.lookup f).map _=_;rw[hl];rfl
theorem A3(ht:τ[k]?=some (some (.ref n)))(h:μ[n]?=some (.ins c l))(hl:l.lookup m=none)(q:WP (ra τ) μ λds μ1=>WP (φ (.ref n::ds)) μ1 QD):WP (CN c m φ (AC k) ra τ) μ QD:=by
 unfold CN;refine AT (Co ht ?_);refine AT (AV (a:=(n,l)) (μ':=μ) ?_ ?_)
 ·unfold H9;dsimp only;rw[h];exact if_pos rfl
 ·rw[if_pos hl];exact AT q
structure Chg(n:Nat)(μ μ1:Mh):Prop where
 len:μ1.length=μ.length
 low:∀j,j<n->μ1[j]?=μ[j]?
 cl:∀(j:Nat) (o:MO),μ1[j]?=some o->μ[j]?=some o∨∀k,ClO k o
theorem Chg.refl(μ:Mh):Chg n μ μ:=⟨rfl,λ_ _=>rfl,λ_ _ e=>.inl e⟩
theorem Chg.trans(a:Chg n μ μ1)(b:Chg n μ1 μ2):Chg n μ μ2:=⟨b.len.trans a.len,λj h=>(b.low j h).trans (a.low j h),λj o e=>(b.cl j o e).elim (a.cl j o) .inr⟩
theorem Chg.cut(h:Chg n (μ++gs) ν):∃μ1 gs1,ν=μ1++gs1/\Chg n μ μ1:=by
 have hl:=h.len;rw[AAH] at hl;refine⟨ν.take μ.length,ν.drop μ.length,(List.take_append_drop _ _).symm,by rw[List.length_take];omega,λj hj=>?_,λj o e=>?_⟩
 ·by_cases z:j<μ.length
  ·rw[List.getElem?_take_of_lt z,h.low j hj,AAT z]
  ·rw[List.getElem?_eq_none (by rw[List.length_take];omega),List.getElem?_eq_none (by omega)]
 ·by_cases z:j<μ.length
  ·rw[List.getElem?_take_of_lt z] at e;have:=h.cl j o e;rw[AAT z] at this;exact this
  ·rw[List.getElem?_eq_none (by rw[List.length_take];omega)] at e;cases e
theorem Chg.set(h:n<=k)(c:∀k,ClO k o):Chg n μ (μ.set k o):=⟨List.length_set,λj hj=>by rw[AAq (by omega)],λj o' e=>by
 by_cases z:k=j
 ·subst z;rw[List.getElem?_set] at e;simp at e;obtain⟨_,rfl⟩:=e;exact .inr c
 ·rw[AAq z] at e;exact .inl e⟩
theorem BC{n N ps:Nat}{mb:Sl->M (Fl×Sl)}(hl:ds.length=ps)(h:WP (mb (Bi N ds)) μ λr μ2=>∃d τ2 μ1 gs,r=(.rt d,τ2)/\μ2=μ1++gs/\Chg n μ μ1/\Cl μ.length d/\QD d μ1):WP (An .drop N ps mb ds) μ QD:=by
 obtain⟨r,μ2,e,d,τ2,μ1,gs,rfl,rfl,u,c,q⟩:=h;have t:Lv μ (μ1++gs) .drop=μ1:=by show (μ1++gs).take μ.length=μ1;rw[←u.len,List.take_left]
 refine AV (a:=d) (μ':=μ1) ?_ q;have hh:=DX (hw:=.drop) e hl (.inr ⟨d,rfl⟩) (by
  rw[t];refine⟨⟨gs,rfl⟩,by rw[u.len];exact AAF _,λj o e=>?_,.inl ⟨rfl,by rw[u.len];exact c⟩⟩;exact(u.cl j o e).imp id λz=>z _)
 rw[t] at hh;exact hh
theorem Gv{n:Nat}{mb:Sl->M (Fl×Sl)}(h:WP (tc τ) μ λb μ1=>b=false/\QS (.next,τ) μ1):WP (Lh (n+1) tc mb τ) μ QS:=by
 unfold Lh RB;refine AT (AU h λb μ1 ⟨e,q⟩=>?_);subst e;rw[if_neg (by decide)];exact BA q
theorem IZ(h:μ[n]?=some (.dP w l))(hk:Dp y=some y)(hn:(l.any λz=>decide (z.1=y))=false)(q:QD (.bl true) μ):WP (UT w true y (.ref n)) μ QD:=by
 refine AV (a:=.bl true) (μ':=μ) ?_ q;unfold UT;rw[Ap (show J4 w (.ref n) μ=some ((n,l),μ) from by unfold J4;dsimp only;rw[h];exact if_pos rfl)];show (Dp y).map _=_;rw[hk];show some (D.bl (!(l.any λz=>decide (z.1=y))),μ)=_;rw[hn];rfl
theorem MU(h:μ[n]?=some (.dP w l))(hk:Dp y=some y)(hv:Ik l y=some d)(q:QD d μ):WP (NH w (.ref n) y) μ QD:=by
 refine AV (a:=d) (μ':=μ) ?_ q;unfold NH;rw[Ap (show J4 w (.ref n) μ=some ((n,l),μ) from by unfold J4;dsimp only;rw[h];exact if_pos rfl)];show ((Dp y).bind (Ik l)).map _=_;rw[hk,Option.bind_some,hv];rfl
theorem MT(h:WP (mv τ) μ λv μ1=>WP (mo τ) μ1 λx μ2=>WP (mi τ) μ2 λy μ3=>∃n l,x=.ref n/\μ3[n]?=some (.dP w l)/\Dp y=some y/\l.length<1000/\(l.any λz=>decide (z.1=y))=false/\QS (.next,τ) (μ3.set n (.dP w (l++[(y,v)])))):WP (M1 w mo mi mv τ) μ QS:=by
 unfold M1;refine AT (AU h λv μ1 h=>AT (AU h λx μ2 h=>AT (AU h λy μ3 ⟨n,l,e1,e2,e3,e4,e5,q⟩=>?_)));subst e1;refine AT (AV (show J4 w (.ref n) μ3=some ((n,l),μ3) from by unfold J4;dsimp only;rw[e2];exact if_pos rfl) ?_);refine⟨_,_,?_,q⟩;rw[e3];dsimp only;rw[if_pos ⟨by rw[sizeLine_eq];omega,e5⟩]
theorem DP(h:μ[n]?=some (.dK l))(hk:GU y=some k)(hv:Fw l k=some d)(q:QD d μ):WP (Gg (.ref n) y) μ QD:=by
 refine AV (a:=d) (μ':=μ) ?_ q;unfold Gg;rw[Ap (show Eh (.ref n) μ=some ((n,l),μ) from by unfold Eh;dsimp only;rw[h])];show ((GU y).bind (Fw l)).map _=_;rw[hk,Option.bind_some,hv];rfl
theorem MX(h:WP (mv τ) μ λv μ1=>WP (mo τ) μ1 λx μ2=>WP (mi τ) μ2 λy μ3=>∃n l k,x=.ref n/\μ3[n]?=some (.dK l)/\GU y=some k/\l.length<1000/\QS (.next,τ) (μ3.set n (.dK (FD l k v)))):WP (GO mo mi mv τ) μ QS:=by
 unfold GO;refine AT (AU h λv μ1 h=>AT (AU h λx μ2 h=>AT (AU h λy μ3 ⟨n,l,k,e1,e2,e3,e4,q⟩=>?_)));subst e1;refine AT (AV (show Eh (.ref n) μ3=some ((n,l),μ3) from by unfold Eh;dsimp only;rw[e2]) ?_);refine⟨_,_,?_,q⟩;rw[e3];dsimp only;rw[if_pos (by rw[sizeLine_eq];omega)]
end
end Mi
local macro_rules | `(tactic| wtm_at "e")=>`(tactic| (decide +kernel))
local macro_rules | `(tactic| wtm_at "f")=>`(tactic| first|omega|(focus (simp;done)))
local macro_rules | `(tactic| wtm_at "p")=>`(tactic| first
 |((with_reducible apply Mi.GE);(wtm_at "e");(wtm_at "e");(wtm_at "e"))|((with_reducible apply Mi.Vz);(wtm_at "e");(wtm_at "e");(wtm_at "e"))|((with_reducible apply Mi.IJ);(wtm_at "e");(wtm_at "e");(wtm_at "e"))|((with_reducible apply Mi.Vp);(wtm_at "e");(wtm_at "e");(wtm_at "e"))
 |((with_reducible apply Mi.Dw);(wtm_at "f"))|((with_reducible apply Mi.Br);(wtm_at "f"))|((with_reducible apply Mi.MV);(wtm_at "f"))|((with_reducible apply Mi.MW);(wtm_at "f"))|((with_reducible apply Mi.Vr);(wtm_at "f"))|((with_reducible apply Mi.Vs);(wtm_at "f"))|((with_reducible apply Mi.Vw);(wtm_at "f"))|((with_reducible apply Mi.Vx);(wtm_at "f"))|((with_reducible apply Mi.wqa_geT);(wtm_at "f"))|((with_reducible apply Mi.Vy);(wtm_at "f"))|((with_reducible apply Mi.Vt);(wtm_at "f"))
 |(with_reducible apply Mi.Sj)|(with_reducible apply Mi.Si)|(with_reducible apply Mi.Vv)|(with_reducible apply Mi.Vu)|(with_reducible apply Mi.Sn)|(with_reducible apply Mi.MY)|(with_reducible apply Mi.wqa_orT)|(with_reducible apply Mi.PY)|(with_reducible apply Mi.Vq)|(with_reducible apply Mi.Sf)|(with_reducible apply Mi.Sh)|(with_reducible apply Mi.Sk)|(with_reducible apply Mi.KR)|(with_reducible apply Mi.Q4)
 |wtm_at "n")
local macro_rules | `(tactic| wtm_at "a")=>`(tactic| repeat wtm_at "p")
namespace K22
open PySem L2 Mi Xt
open K21 (Ey)
abbrev ZY:D:=.tup [.str "put",.str "a",.tup [.str "var",.str "v"]]
abbrev Wy:D:=.tup [.str "get",.str "x",.str "a"]
abbrev Wx:D:=.tup [.str "get",.str "y",.str "b"]
abbrev cx:D:=.tup [.str "tell",.tup [.str "var",.str "x"]]
abbrev M6:D:=.tup [ZY]
abbrev Fj:D:=.tup [Wy,Wx,cx]
abbrev bxA(kd:Str)(sz bg:Int):D:=.tup [.str "a",.str kd,.int sz,.int bg,.str "w"]
abbrev bxB:D:=.tup [.str "b",.str "whole",.int 2,.int 0,.str "w"]
abbrev dS:D:=.tup [.tup [.str "w",.int 9,M6],.tup [.str "r",.int 9,Fj],.tup [.str "s",.int 9,Fj]]
abbrev mkD(kd:Str)(sz bg:Int):D:=.tup [.str "safe",.int 10,.int bg,.tup [bxA kd sz bg,bxB],dS]
abbrev Xl:D:=.lst [.str "w",.str "r",.str "s"]
abbrev xyD:D:=.lst [.str "x",.str "y"]
abbrev ay:D:=.lst [.lst [],xyD,xyD]
noncomputable abbrev JP:List (Key×D):=[(.inr "a",.int 0),(.inr "b",.int 1)]
noncomputable abbrev pf(kd:Str)(sz bg:Int)(n:Nat):List (Str×D):=[("making",mkD kd sz bg),("names",Xl),("variables",ay),("places",.ref (n+1)),("ways",.ref (n+2)),("claims",.ref (n+3))]
section
variable{w:World}{μ:Mh}{QD:D->Mh->Prop}{kd:Str}{sz bg:Int}
theorem b8(k:Nat):Cl k (mkD kd sz bg):=by simp[Cl,ClL]
theorem av(q:QD (mkD kd sz bg) μ):WP (FX w [.str kd,.int sz,.int bg]) μ QD:=by
 unfold FX;refine Ar rfl ?_;unfold Kw;wtm_at "d";exact⟨_,_,[],rfl,by simp,b8 _,q⟩
theorem Ss{x:Str}(q:QD (.lst [.str x]) μ):WP (Bz w 6 [.tup [.str "var",.str x]]) μ QD:=by
 unfold Bz;refine GG rfl ?_;unfold FJ;wtm_at "a";exact⟨[.str x],_,[],by simp,by simp[Cl,ClL],q,.inl rfl⟩
theorem So{τ:Sl}{ra:Sl->M (List D)}{QL:List D->Mh->Prop}{xs ys:List D}(h:WP (ra τ) μ λds μ1=>ds=[.tup xs,.tup ys]/\ys.length=xs.length/\QL (Gu xs ys) μ1):WP (Xq ra τ) μ QL:=Yz (AU h λds μ1 ⟨a,b,c⟩=>⟨xs,ys,a,b,c⟩)
theorem IK{row:D}{wd:Str}{p1:Str}{y:Str}(hrow:row=.tup [.str "put",.str p1,.tup [.str "var",.str y]]∨row=.tup [.str "tell",.tup [.str "var",.str y]]∨row=.tup [.str "get",.str y,.str p1])(q:QD (.lst [.str y]) μ):WP (Cc w [row]) μ QD:=by
 unfold Cc;refine GG rfl ?_;unfold FI;rcases hrow with rfl|rfl|rfl
 ·wtm_at "a";refine So (xs:=[.str "box",.str "expression"]) (ys:=[.str p1,.tup [.str "var",.str y]]) ?_;wtm_at "a";refine AV (a:=.tup [.str "box",.str "expression"]) (μ':=_) rfl ?_;wtm_at "a";refine AV (a:=.tup [.str p1,.tup [.str "var",.str y]]) (μ':=_) rfl ?_;wtm_at "a";refine⟨rfl,rfl,?_⟩;refine BP ?_;(with_reducible apply Az);wtm_at "a";refine A0 (BP ?_);(with_reducible apply Az);wtm_at "a";refine FR rfl ?_;wtm_at "a";refine Ss ?_;wtm_at "a";refine⟨_,rfl,rfl,AAE rfl,A0 (DH ?_)⟩;wtm_at "a";exact⟨_,_,_,rfl,by simp[Cl,ClL],q,.inr ⟨μ.length,rfl,AAF _,Bn _⟩⟩
 ·wtm_at "a";refine So (xs:=[.str "expression"]) (ys:=[.tup [.str "var",.str y]]) ?_;wtm_at "a";refine AV (a:=.tup [.str "expression"]) (μ':=_) rfl ?_;wtm_at "a";refine AV (a:=.tup [.tup [.str "var",.str y]]) (μ':=_) rfl ?_;wtm_at "a";refine⟨rfl,rfl,?_⟩;refine BP ?_;(with_reducible apply Az);wtm_at "a";refine FR rfl ?_;wtm_at "a";refine Ss ?_;wtm_at "a";refine⟨_,rfl,rfl,AAE rfl,A0 (DH ?_)⟩;wtm_at "a";exact⟨_,_,_,rfl,by simp[Cl,ClL],q,.inr ⟨μ.length,rfl,AAF _,Bn _⟩⟩
 ·wtm_at "a";refine So (xs:=[.str "variable",.str "box"]) (ys:=[.str y,.str p1]) ?_;wtm_at "a";refine AV (a:=.tup [.str "variable",.str "box"]) (μ':=_) rfl ?_;wtm_at "a";refine AV (a:=.tup [.str y,.str p1]) (μ':=_) rfl ?_;wtm_at "a";refine⟨rfl,rfl,?_⟩;refine BP ?_;(with_reducible apply Az);wtm_at "a";refine GF rfl (by rw[sizeLine_eq];decide) ?_;wtm_at "a";refine⟨μ,_,rfl,rfl,rfl,?_⟩;wtm_at "a";refine A0 (BP ?_);(with_reducible apply Az);wtm_at "a";refine A0 (DH ?_);wtm_at "a";exact⟨_,_,_,rfl,by simp[Cl,ClL],q,.inr ⟨μ.length,rfl,AAF _,Bn _⟩⟩
theorem Pa{n:Nat}{xs ys:List Str}(h:μ[n]?=some (.lst (xs.map D.str)))(hl:xs.length<=20)(e:ID xs=ys)(q:QD (.lst (ys.map D.str)) μ):WP (FT (.ref n)) μ QD:=by
 refine AV (a:=.lst (ys.map D.str)) (μ':=μ) ?_ q;unfold FT;rw[Ap (show Bo (.ref n) μ=some (xs.map D.str,μ) from by show (match μ[n]? with|some (.lst ds)=>some (ds,μ)|_=>none)=_;rw[h])];show (match GH (xs.map D.str) with|some ss=>if ss.length<=1000/\(DM ss).length<64 then some (D.lst ((ID ss).map D.str),μ) else none|none=>none)=_;rw[show GH (xs.map D.str)=some xs from by clear q e hl h;induction xs with|nil=>rfl|cons x xs ih=>rw[AAX];unfold GH;rw[ih];rfl];dsimp only;rw[if_pos ⟨by omega,by have:=QP xs;omega⟩,e]
theorem Y0(q:QD (.lst []) μ):WP (BE w [M6]) μ QD:=by
 unfold BE;refine Ar rfl ?_;unfold B9;wtm_at "a";refine BP ?_;wtm_at "a";refine FR rfl ?_;wtm_at "a";refine IK (wd := "put") (p1 := "a") (y := "v") (.inl rfl) ?_;wtm_at "a";refine⟨_,rfl,rfl,AAE rfl,A0 (DH ?_)⟩;wtm_at "a";refine Pa (xs:=["v"]) (ys:=["v"]) (Bn _) (by decide) (by decide +kernel) ?_;wtm_at "a";refine⟨by rw[sizeLine_eq];decide,?_⟩;refine Bs (λ(x:Str)=>D.str x) (λ_=>false) (λx=>D.str x) (xs:=["v"]) (λx hx=>?_) ?_
 ·cases AAL.mp hx;wtm_at "a";refine⟨rfl,?_⟩;wtm_at "a";exact⟨rfl,rfl,λz=>nomatch z⟩
 ·refine Bc (by rw[sizeLine_eq];decide) ?_;exact⟨_,_,_,rfl,rfl,by simp[Cl,ClL],q⟩
theorem Sr(q:QD xyD μ):WP (BE w [Fj]) μ QD:=by
 unfold BE;refine Ar rfl ?_;unfold B9;wtm_at "a";refine BP ?_;wtm_at "a";refine FR rfl ?_;wtm_at "a";refine IK (wd := "get") (p1 := "a") (y := "x") (.inr (.inr rfl)) ?_;wtm_at "a";refine⟨_,rfl,rfl,AAE rfl,A0 (BP ?_)⟩;wtm_at "a";refine FR rfl ?_;wtm_at "a";refine IK (wd := "get") (p1 := "b") (y := "y") (.inr (.inr rfl)) ?_;wtm_at "a";refine⟨_,rfl,rfl,AAE rfl,A0 (BP ?_)⟩;wtm_at "a";refine FR rfl ?_;wtm_at "a";refine IK (wd := "tell") (p1 := "a") (y := "x") (.inr (.inl rfl)) ?_;wtm_at "a";refine⟨_,rfl,rfl,AAE rfl,A0 (DH ?_)⟩;wtm_at "a";refine Pa (xs:=["x", "y", "x"]) (ys:=["x", "y"]) (Bn _) (by decide) (by decide +kernel) ?_;wtm_at "a";refine⟨by rw[sizeLine_eq];decide,?_⟩;refine Bs (λ(x:Str)=>D.str x) (λ_=>true) (λx=>D.str x) (xs:=["x", "y"]) (λx hx=>?_) ?_
 ·wtm_at "a";refine⟨rfl,?_⟩;have hx':x = "x" ∨ x = "y" := by simpa using hx
  rcases hx' with rfl|rfl
  ·wtm_at "a";refine⟨rfl,rfl,λ_=>?_⟩;wtm_at "a";exact⟨rfl,rfl⟩
  ·wtm_at "a";refine⟨rfl,rfl,λ_=>?_⟩;wtm_at "a";exact⟨rfl,rfl⟩
 ·refine Bc (by rw[sizeLine_eq];decide) ?_;exact⟨_,_,_,rfl,rfl,by simp[Cl,ClL],q⟩
end
section
variable{w:World}{μ:Mh}{QD:D->Mh->Prop}{kd:Str}{sz bg:Int}{n:Nat}{l1 l2:List (D×D)}
theorem Ma(q:QD (.ref μ.length) (μ++[.dP w []])):WP (QU w τ) μ QD:=⟨_,_,rfl,q⟩
theorem dM:(μ++[o1,o2]).length=μ.length+2:=by simp
theorem dL:(μ++[o1,o2,o3]).length=μ.length+3:=by simp
theorem LR(q:QD (.ref μ.length) (μ++[.ins "Plan" (pf kd sz bg μ.length),.dK JP,.dP w [],.dP w []])):WP (Hl "Plan" (BY w) [mkD kd sz bg]) μ QD:=by
 refine S9 ?_;unfold BY;refine TU rfl ?_;unfold Er;(with_reducible apply OJ);refine Dx (i:=0) (gs:=[]) rfl (AAE rfl) ?_;wtm_at "a";refine⟨[],rfl,?_⟩;wtm_at "a";refine Dx (i:=0) (gs:=[]) rfl (AAE rfl) ?_;wtm_at "a";refine⟨by rw[sizeLine_eq];exact AAE rfl,?_⟩;refine Bs (λ(h:Str×D)=>D.tup [.str h.1,.int 9,h.2]) (λ_=>true) (λh=>D.str h.1) (xs:=[("w",M6),("r",Fj),("s",Fj)]) (λh hh=>?_) ?_
 ·wtm_at "a";refine⟨rfl,?_⟩;wtm_at "a";refine⟨rfl,rfl,λ_=>?_⟩;wtm_at "a";exact⟨rfl,rfl⟩
 show WP (BM [.str "w",.str "r",.str "s"]) _ _;refine Bc (by rw[sizeLine_eq];exact AAE rfl) ⟨[],rfl,?_⟩;wtm_at "a";refine Dx (i:=0) (gs:=[]) rfl (AAE rfl) ?_;wtm_at "a";refine⟨by rw[sizeLine_eq];exact AAE rfl,?_⟩;refine Bs (λ(h:(Str×D)×D)=>D.tup [.str h.1.1,.int 9,h.1.2]) (λ_=>true) (λh=>h.2) (xs:=[(("w",M6),.lst []),(("r",Fj),xyD),(("s",Fj),xyD)]) (λh hh=>?_) ?_
 ·wtm_at "a";refine⟨rfl,?_⟩;wtm_at "a";refine⟨rfl,rfl,λ_=>?_⟩;wtm_at "a";rcases AAJ.mp hh with rfl|hh
  ·exact Y0 ⟨rfl,rfl⟩
  rcases AAJ.mp hh with rfl|hh
  ·exact Sr ⟨rfl,rfl⟩
  cases AAL.mp hh;exact Sr ⟨rfl,rfl⟩
 show WP (BM [.lst [],xyD,xyD]) _ _;refine Bc (by rw[sizeLine_eq];exact AAE rfl) ⟨[],rfl,?_⟩;wtm_at "a";refine Dx (i:=0) (gs:=[]) rfl (AAE rfl) ?_;refine WK ⟨[.dK []],by simp,?_⟩;have e1:(μ++MO.ins "Plan" (C2 "variables" ay (C2 "names" Xl (C2 "making" (mkD kd sz bg) [])))::[]).length=μ.length+1:=by rw[AAH];rfl
 wtm_at "a";(with_reducible apply Ey);wtm_at "a";refine⟨_,rfl,?_⟩;refine BP ?_;(with_reducible apply Az);refine Md (i:=0) (v:=.int 0) (x := "a") rfl (by rw[e1];rfl) (by decide) ?_ ?_ (λky hky=>?_) rfl
 ·wtm_at "a";exact⟨rfl,rfl⟩
 ·wtm_at "a";exact⟨rfl,rfl⟩
 cases hky;refine A0 (BP ?_);(with_reducible apply Az);refine Md (i:=0) (v:=.int 1) (x := "b") rfl (by rw[e1];rfl) (by decide) ?_ ?_ (λky hky=>?_) rfl
 ·wtm_at "a";exact⟨rfl,rfl⟩
 ·wtm_at "a";exact⟨rfl,rfl⟩
 cases hky;refine A0 (DH ?_);rw[e1];have ep:FD (FD ([]:List (Key×D)) (.inr "a") (.int 0)) (.inr "b") (.int 1)=JP:=rfl;rw[ep];wtm_at "a";refine Dx (i:=0) (gs:=[.dK JP]) rfl (AAE rfl) ?_;refine Ma ⟨[.dK JP,.dP w []],by simp,?_⟩;rw[dM];wtm_at "a";refine Dx (i:=0) (gs:=[.dK JP,.dP w []]) rfl (AAE rfl) ?_;refine Ma ⟨[.dK JP,.dP w [],.dP w []],by simp,?_⟩;rw[dL];have e:C2 "claims" (.ref (μ.length+3)) (C2 "ways" (.ref (μ.length+2)) (C2 "places" (.ref (μ.length+1)) (C2 "variables" (.lst [.lst [],xyD,xyD]) (C2 "names" (.lst [.str "w",.str "r",.str "s"]) (C2 "making" (mkD kd sz bg) [])))))=pf kd sz bg μ.length:=rfl;rw[e];refine⟨_,rfl,by simp,λj o ej=>?_,rfl,q⟩;by_cases hj:j<μ.length
 ·left;rw[AAT hj] at ej ⊢;exact ej
 ·right;rw[AAS (by omega)] at ej;rw[show (μ++[MO.ins "Plan" (pf kd sz bg μ.length),.dK JP,.dP w [],.dP w []]).length=μ.length+4 by simp]
  match j-μ.length,ej with
  |0,ej=>cases ej;simp[ClO,ClL,Cl]
  |1,ej=>cases ej;simp[ClO,ClL,Cl]
  |2,ej=>cases ej;simp[ClO,ClL,Cl]
  |3,ej=>cases ej;simp[ClO,ClL,Cl]
structure PA(w:World)(kd:Str)(sz bg:Int)(n:Nat)(l1 l2:List (D×D))(μ:Mh):Prop where
 ins:μ[n]?=some (.ins "Plan" (pf kd sz bg n))
 pl:μ[n+1]?=some (.dK JP)
 wy:μ[n+2]?=some (.dP w l1)
 cl:μ[n+3]?=some (.dP w l2)
theorem MJ(h:gs[k]?=some o):(μ++gs)[μ.length+k]?=some o:=by
 rw[AAS (by omega),show μ.length+k-μ.length=k by omega];exact h
theorem Lu:PA w kd sz bg μ.length [] [] (μ++[.ins "Plan" (pf kd sz bg μ.length),.dK JP,.dP w [],.dP w []]):=⟨MJ (k:=0) rfl,MJ rfl,MJ rfl,MJ rfl⟩
theorem PA.app(p:PA w kd sz bg n l1 l2 μ)(gs:Mh):PA w kd sz bg n l1 l2 (μ++gs):=by
 have f:∀{k:Nat} {o:MO},μ[k]?=some o->(μ++gs)[k]?=some o:=λh=>by
  rw[AAT (AAU.mp h).1];exact h
 exact⟨f p.ins,f p.pl,f p.wy,f p.cl⟩
theorem PA.ways(p:PA w kd sz bg n l1 l2 μ)(l:List (D×D)):PA w kd sz bg n l l2 (μ.set (n+2) (.dP w l)):=⟨by rw[AAq (by omega)];exact p.ins,by rw[AAq (by omega)];exact p.pl,by rw[List.getElem?_set_self (AAU.mp p.wy).1],by rw[AAq (by omega)];exact p.cl⟩
theorem PA.claims(p:PA w kd sz bg n l1 l2 μ)(l:List (D×D)):PA w kd sz bg n l1 l (μ.set (n+3) (.dP w l)):=⟨by rw[AAq (by omega)];exact p.ins,by rw[AAq (by omega)];exact p.pl,by rw[AAq (by omega)];exact p.wy,by rw[List.getElem?_set_self (AAU.mp p.cl).1]⟩
theorem IL(p:PA w kd sz bg n l1 l2 μ)(q:QD ZY μ):WP (BR w [.ref n,.int 0,.int 0]) μ QD:=by
 unfold BR;refine Ar rfl ?_;unfold Dl;wtm_at "a";refine Ah p.ins rfl ?_;wtm_at "a";exact⟨_,_,[],rfl,by simp,by simp[Cl,ClL],q⟩
theorem LQ(hk:k=1∨k=2)(ha:a=0/\row=Wy∨a=1/\row=Wx)(p:PA w kd sz bg n l1 l2 μ)(q:QD row μ):WP (BR w [.ref n,.int k,.int a]) μ QD:=by
 unfold BR;refine Ar rfl ?_;unfold Dl;wtm_at "a";refine Ah p.ins rfl ?_;rcases hk with rfl|rfl<;>rcases ha with ⟨rfl,rfl⟩|⟨rfl,rfl⟩
 all_goals
  wtm_at "a";exact⟨_,_,[],rfl,by simp,by simp[Cl,ClL],q⟩
theorem bZ:Fw JP (.inr "a")=some (.int 0):=by rfl
theorem dE:Fw JP (.inr "b")=some (.int 1):=by rfl
theorem Cy(h:row=ZY/\i=0∨row=Wy/\i=0∨row=Wx/\i=1)(p:PA w kd sz bg n l1 l2 μ)(q:QD (.int i) μ):WP (BO w [.ref n,row]) μ QD:=by
 unfold BO;refine Ar rfl ?_;unfold Eo;rcases h with ⟨rfl,rfl⟩|⟨rfl,rfl⟩|⟨rfl,rfl⟩
 ·wtm_at "a";refine Ah p.ins rfl ?_;wtm_at "a";refine DP p.pl rfl bZ ?_;exact⟨_,_,[],rfl,by simp,by simp[Cl],q⟩
 ·wtm_at "a";refine Ah p.ins rfl ?_;wtm_at "a";refine DP p.pl rfl bZ ?_;exact⟨_,_,[],rfl,by simp,by simp[Cl],q⟩
 ·wtm_at "a";refine Ah p.ins rfl ?_;wtm_at "a";refine DP p.pl rfl dE ?_;exact⟨_,_,[],rfl,by simp,by simp[Cl],q⟩
theorem QM(h:∀o∈gs,ClO (μ++gs).length o):∀(j:Nat) (o:MO),(μ++gs)[j]?=some o->μ[j]?=some o∨ClO (μ++gs).length o:=λj o e=>by
 by_cases hj:j<μ.length
 ·left;rw[AAT hj] at e;exact e
 ·right;rw[AAS (by omega)] at e;exact h o (AAV e)
theorem LS(p:PA w kd sz bg n l1 l2 μ)(q:QD (.ref μ.length) (μ++[.dK [(.inr "v",.int v)]])):WP (A4 w [.ref n,.int 0,.int v,.tup []]) μ QD:=by
 unfold A4;refine Ie rfl ?_;unfold Bv;wtm_at "a";refine Ah p.ins rfl ?_;wtm_at "a";refine AV (a:=.ref μ.length) (μ':=μ++[.dK []]) rfl ?_;wtm_at "a";refine MX ?_;wtm_at "a";refine⟨μ.length,[],.inr "v",rfl,Bn _,rfl,by decide,?_⟩;rw[P3];wtm_at "a";exact⟨_,_,rfl,by simp,QM (gs:=[.dK [(.inr "v",.int v)]]) (by simp[ClO,ClL,Cl]),by unfold Cl;simp,q⟩
theorem WM(hk:k=1∨k=2)(p:PA w kd sz bg n l1 l2 μ)(q:QD (.ref μ.length) (μ++[.dK [(.inr "x",.int a),(.inr "y",.int b)]])):WP (A4 w [.ref n,.int k,z,.tup [.int a,.int b]]) μ QD:=by
 unfold A4;refine Ie rfl ?_;unfold Bv;wtm_at "a";refine Ah p.ins rfl ?_;wtm_at "a";refine C8 (d:=xyD) (by rcases hk with rfl|rfl<;>rfl) ?_;wtm_at "a";refine AV (a:=.ref μ.length) (μ':=μ++[.dK [(.inr "x",.int a),(.inr "y",.int b)]]) ?_ ?_
 ·have e:JT [] ((([.inr "x",.inr "y"]:List Key)).zip [D.int a,D.int b])=[(.inr "x",.int a),(.inr "y",.int b)]:=by
   show FD (FD [] (.inr "x") (.int a)) (.inr "y") (.int b)=_;have e1:FD ([]:List (Key×D)) (.inr "x") (.int a)=[(.inr "x",.int a)]:=rfl;rw[e1];unfold FD;rw[if_neg (by simp;decide +kernel)];rfl
  show (if ([D.int a,D.int b]:List D).length=([.inr "x",.inr "y"]:List Key).length/\([.inr "x",.inr "y"]:List Key).length<=1000 then some (D.ref μ.length,μ++[MO.dK (JT [] ((([.inr "x",.inr "y"]:List Key)).zip [D.int a,D.int b]))]) else none)=_;rw[if_pos ⟨rfl,by decide⟩,e]
 wtm_at "a";exact⟨_,_,rfl,by simp,QM (gs:=[.dK [(.inr "x",.int a),(.inr "y",.int b)]]) (by simp[ClO,ClL,Cl]),by unfold Cl;simp,q⟩
theorem OK(h:μ[m]?=some (.dK l))(hv:Fw l (.inr x)=some (.int v))(q:QD (.int v) μ):WP (CS w 6 [.tup [.str "var",.str x],.ref m]) μ QD:=by
 unfold CS;refine Ar rfl ?_;unfold Ho;wtm_at "a";refine DP h rfl hv ?_;exact⟨_,_,[],rfl,by simp,by simp[Cl],q⟩
end
end K22
namespace K22
open PySem L2 Mi Xt Ht
section
variable{w:World}{μ:Mh}{QD:D->Mh->Prop}{n:Nat}
theorem Pe(ha:a=0∨a=1)(q:QD (.int a) μ):WP (Ck w [M6,.int a,z]) μ QD:=by
 unfold Ck;refine Ar rfl ?_;unfold F6;rcases ha with rfl|rfl
 ·wtm_at "a";refine Gv (n:=999) ?_;wtm_at "a";refine AV (a:=.bl false) (μ':=μ) rfl ?_;wtm_at "a";refine⟨rfl,?_⟩;wtm_at "a";exact⟨_,_,[],rfl,by simp,by simp[Cl],q⟩
 ·wtm_at "a";refine Gv (n:=999) ?_;wtm_at "a";refine⟨rfl,?_⟩;wtm_at "a";exact⟨_,_,[],rfl,by simp,by simp[Cl],q⟩
theorem Pf(ha:a=0∨a=1∨a=2)(q:QD (.int a) μ):WP (Ck w [Fj,.int a,z]) μ QD:=by
 unfold Ck;refine Ar rfl ?_;unfold F6;rcases ha with rfl|rfl|rfl
 all_goals
  wtm_at "a";refine Gv (n:=999) ?_;wtm_at "a";refine AV (a:=.bl false) (μ':=μ) rfl ?_;wtm_at "a";refine⟨rfl,?_⟩;wtm_at "a";exact⟨_,_,[],rfl,by simp,by simp[Cl],q⟩
end
end K22
namespace K22
open PySem L2 Mi Xt Ht
open K13 (clD tD BI bsd kdS)
section
variable{w:World}{μ:Mh}{QD:D->Mh->Prop}{kd:Str}{sz bg:Int}
theorem SD:CF w=K13.CF:=rfl
theorem eq_with:A6 w=K13.A6:=rfl
theorem Cn(hj:j<ds.length)(hl:ds.length<=1000)(hc:∀k,ClL k ds)(hx:∀k,Cl k x)(q:QD (.tup (ds.set j x)) μ):WP (A6 w [.tup ds,.int (j:Int),x]) μ QD:=by
 rw[eq_with];exact AV (K13.ZJ hj hl hc hx) q
noncomputable def bsK(kd:Str)(sz:Int)(l:List Int)(v:Int):List Int:=if kd==("safe" : Str) then BI sz.toNat else srt (l++[v])
theorem FS(hk:kd = "safe" ∨ kd = "steady")(h0:0<=sz)(h1:sz<=1000)(hl:l.length<=1000)(hs:∀x∈l,0<=x/\x<10)(hv:0<=v/\v<10)(q:QD (.tup ((bsK kd sz l v).map D.int)) μ):WP (CF w [.str kd,.int sz,.tup (l.map D.int),.int v]) μ QD:=by
 have room:(BX (l++[v])).length<=18:=K13.Iw λx hx=>by
  rcases AAK.mp hx with z|z
  ·exact hs x z
  ·rw[AAL.mp z];exact hv
 rw[SD];rcases hk with rfl|rfl
 ·exact AV (K13.Mg (sf:=true) h0 h1 hl room) q
 ·exact AV (K13.Mg (sf:=false) h0 h1 hl room) q
theorem O5(k:Nat):∀ts:List (Option (List Int)),ClL k (ts.map tD):=K13.Ed (K13.Yw k)
theorem OI(q:QD (clD cc (-1) ts) μ):WP (CH w [mkD kd sz bg,clD cw cc ts]) μ QD:=by
 unfold CH;refine Ar rfl ?_;unfold En clD;wtm_at "a";exact⟨_,_,[],rfl,by simp,K13.HX _ cc (-1) ts,q⟩
theorem Q5(hv:0<=v/\v<10)(ht:ts.length<=1000)(hs:∀l,some l∈ts->l.length<=100/\∀x∈l,0<=x/\x<10)(q:QD (clD cw v (ts.map (Option.map λ_=>BI 10))) μ):WP (Cd w [mkD kd sz bg,clD cw cc ts,.int v]) μ QD:=by
 unfold Cd;refine Ar rfl ?_;unfold FK clD;wtm_at "a";refine⟨by rw[AAG,sizeLine_eq];omega,?_⟩;refine Bs tD (λ_=>true) (λt=>tD (t.map λ_=>BI 10)) (λt ht=>?_) ?_
 ·wtm_at "a";refine⟨rfl,?_⟩;wtm_at "a";refine⟨rfl,rfl,λ_=>?_⟩;cases t with
  |none=>
   unfold tD;wtm_at "a";exact⟨rfl,rfl⟩
  |some l=>
   obtain⟨a,b⟩:=hs l ht;unfold tD;wtm_at "a";refine FS (.inl rfl) (by decide) (by decide) (by omega) b hv ?_;exact⟨rfl,rfl⟩
 ·rw[List.filter_eq_self.mpr λ_ _=>rfl];refine Bc (by rw[AAG,sizeLine_eq];omega) ?_;wtm_at "a";have e:ts.map (λt=>tD (t.map λ_=>BI 10))=(ts.map (Option.map λ_=>BI 10)).map tD:=by rw[List.map_map];rfl
  rw[e];exact⟨_,_,[],rfl,by simp,K13.HX _ cw v _,q⟩
noncomputable def rdK(cw cc:Int):List Int:=if cc=-1 then [cw] else BI 10
theorem Sy{cw cc:Int}{ts:List (Option (List Int))}(hw:0<=cw/\cw<10)(hc:cc≠-1->0<=cc/\cc<10)(ht:ts.length<=1000)(hr:r<ts.length)(q:QD (clD cw cc (ts.set r (some (rdK cw cc)))) μ):WP (Ct w [mkD kd sz bg,clD cw cc ts,.int (r:Int)]) μ QD:=by
 have e:∀l:List Int,(ts.map tD).set r (.tup (l.map D.int))=(ts.set r (some l)).map tD:=λl=>by rw[List.map_set];rfl
 unfold Ct;refine Ar rfl ?_;unfold Fo clD;unfold rdK at q;by_cases h:cc=-1
 ·subst h;rw[if_pos rfl] at q;wtm_at "a";refine MW rfl ?_;wtm_at "a";refine Cn (by rw[AAG];exact hr) (by rw[AAG];exact ht) (λk=>O5 k ts) (λk=>by simp[Cl,ClL]) ?_;wtm_at "a";rw[show D.tup [D.int cw]=.tup ([cw].map D.int) from rfl,e];exact⟨_,_,[],rfl,by simp,K13.HX _ cw (-1) _,q⟩
 ·rw[if_neg h] at q;wtm_at "a";refine MV h ?_;wtm_at "a";refine FS (l:=[cw]) (.inl rfl) (by decide) (by decide) (AAE rfl) (by simpa using hw) (hc h) ?_;wtm_at "a";refine Cn (by rw[AAG];exact hr) (by rw[AAG];exact ht) (λk=>O5 k ts) (λk=>by unfold Cl;exact K13.Ed (K13.HW k) _) ?_;wtm_at "a";rw[e];exact⟨_,_,[],rfl,by simp,K13.HX _ cw cc _,q⟩
theorem V3{cw cc v:Int}{r:Nat}(hr:ts[r]?=some (some l))(hv:v∈l)(ht:ts.length<=1000)(q:QD (clD cw cc (ts.set r none)) μ):WP (DN w [mkD kd sz bg,clD cw cc ts,.int (r:Int),.int v]) μ QD:=by
 have rl:r<ts.length:=(AAU.mp hr).1;unfold DN;refine Ar rfl ?_;unfold GT clD;wtm_at "a";refine Aq (d:=.tup (l.map D.int)) (Bk (by rw[AAW,hr];rfl)) ?_;refine AV (a:=.bl false) (μ':=μ) ?_ ?_
 ·rw[K13.cA (xs:=l) rfl,if_pos rfl,AAP hv];rfl
 wtm_at "a";refine Cn (by rw[AAG];exact rl) (by rw[AAG];exact ht) (λk=>O5 k ts) (λk=>by unfold Cl;trivial) ?_;wtm_at "a";rw[show (ts.map tD).set r .non=(ts.set r none).map tD by rw[List.map_set];rfl];exact⟨_,_,[],rfl,by simp,K13.HX _ cw cc _,q⟩
end
abbrev Rf(d:D):Prop:=∀k,Cl k d
abbrev RfL(ds:List D):Prop:=∀k,ClL k ds
theorem Ab(h:RfL ds):Rf (.tup ds):=λk=>by unfold Cl;exact h k
theorem Dk(h:RfL ds):Rf (.lst ds):=λk=>by unfold Cl;exact h k
theorem AX:RfL []:=λk=>by unfold ClL;trivial
theorem AH(h:Rf d)(g:RfL ds):RfL (d::ds):=λk=>by unfold ClL;exact⟨h k,g k⟩
theorem Af(i:Int):Rf (.int i):=λk=>by unfold Cl;trivial
theorem BF(i:Str):Rf (.str i):=λk=>by unfold Cl;trivial
theorem Cg:Rf .non:=λk=>by unfold Cl;trivial
theorem Ob(h:RfL ds)(g:Rf d):RfL (ds.set j d):=λk=>by
 have:=h k;clear h
 induction ds generalizing j with
 |nil=>exact this
 |cons x ds ih=>
  unfold ClL at this;cases j with
  |zero=>rw[List.set_cons_zero];unfold ClL;exact⟨g k,this.2⟩
  |succ j=>rw[List.set_cons_succ];unfold ClL;exact⟨this.1,ih this.2⟩
theorem Zd(h:RfL ds)(g:RfL es):RfL (ds++es):=λk=>by
 have:=h k;clear h
 induction ds with
 |nil=>exact g k
 |cons x ds ih=>unfold ClL at this;rw[List.cons_append];unfold ClL;exact⟨this.1,ih this.2⟩
theorem Bd(l:List Int):RfL (l.map D.int):=λk=>K13.Ed (K13.HW k) l
theorem BL(a b:Int)(ts:List (Option (List Int))):Rf (clD a b ts):=λk=>K13.HX k a b ts
theorem L4(h1:Kz (.tup ds)=true)(h2:Cm (.tup ds)<=8):Dp (.tup ds)=some (.tup ds):=if_pos ⟨h1,h2⟩
theorem Qe:∀l:List Int,KzL (l.map D.int)=true/\Bg (l.map D.int)=0
 |[]=>⟨rfl,rfl⟩
 |x::l=>by
  obtain⟨a,b⟩:=Qe l;rw[AAX];unfold KzL Bg;rw[a,b];exact⟨rfl,rfl⟩
theorem Yo:∀ts:List (Option (List Int)),KzL (ts.map tD)=true/\Bg (ts.map tD)<=1
 |[]=>⟨rfl,AAm _⟩
 |t::ts=>by
  obtain⟨a,b⟩:=Yo ts;rw[AAX];unfold KzL Bg;rw[a,Bool.and_true];cases t with
  |none=>exact⟨rfl,by show max 0 _<=1;omega⟩
  |some l=>
   obtain⟨c,d⟩:=Qe l;refine⟨c,?_⟩;show max (Bg (l.map D.int)+1) _<=1;omega
theorem aJ(a b:Int)(ts:List (Option (List Int))):Kz (clD a b ts)=true/\Cm (clD a b ts)<=3:=by
 obtain⟨c,d⟩:=Yo ts;refine⟨?_,?_⟩
 ·show (true&&(true&&(KzL (ts.map tD)&&true)))=true;rw[c];rfl
 ·show max 0 (max 0 (max (Bg (ts.map tD)+1) 0))+1<=3;omega
theorem L3(hx:Kz x=true/\Cm x<=1)(hy:Kz y=true/\Cm y<=1):Dp (.tup [clD a b ts,.str s,x,y])=some (.tup [clD a b ts,.str s,x,y]):=by
 obtain⟨c,d⟩:=aJ a b ts;refine L4 ?_ ?_
 ·show (Kz (clD a b ts)&&(true&&(Kz x&&(Kz y&&true))))=true;rw[c,hx.1,hy.1];rfl
 ·show max (Cm (clD a b ts)) (max 0 (max (Cm x) (max (Cm y) 0)))+1<=8;omega
section
variable{w:World}{μ:Mh}{QD:D->Mh->Prop}{kd:Str}{sz bg:Int}{n:Nat}{l1 l2:List (D×D)}
theorem Qv(ha:Rf a)(hb:Rf b):∀k,ClO k (.dP w [(a,b)]):=λk=>by
 unfold ClO List.map ClL;exact⟨⟨ha k,by unfold List.map ClL;trivial⟩,hb k,by unfold List.map ClL;trivial⟩
theorem Pj:Ik [(k,d)] k=some d:=by simp[Ik]
theorem Ft(p:PA w kd sz bg n l1 [] μ)(hk:Dp (.tup [c,a2,a3,a4])=some (.tup [c,a2,a3,a4]))(rc:Rf c)(r2:Rf a2)(r3:Rf a3)(r4:Rf a4)(rd:Rf d)
  (hf:WP (Av w [mkD kd sz bg,c,.tup [a2,a3,a4]]) μ λd' μ'=>d'=d/\μ'=μ) (q:∀μ1,Chg n μ μ1->PA w kd sz bg n l1 [(.tup [c,a2,a3,a4],d)] μ1->QD d μ1):WP (Bm w [.ref n,c,a2,a3,a4]) μ QD:=by
 have p2:=p.claims [(.tup [c,a2,a3,a4],d)];have rk:Rf (.tup [c,a2,a3,a4]):=Ab (AH rc (AH r2 (AH r3 (AH r4 AX))));have ch:Chg n μ (μ.set (n+3) (.dP w [(.tup [c,a2,a3,a4],d)])):=Chg.set (by omega) (Qv rk rd);unfold Bm;refine BC (n:=n) rfl ?_;unfold Ep;wtm_at "a";refine Ah p.ins rfl ?_;refine IZ p.cl hk rfl ?_;wtm_at "a";refine MT ?_;wtm_at "a";refine Ah p.ins rfl ?_;wtm_at "a";refine AU hf λd' μ' ⟨e1,e2⟩=>?_;subst e1 e2;wtm_at "a";refine Ah p.ins rfl ?_;wtm_at "a";refine⟨n+3,[],rfl,p.cl,hk,by decide,rfl,?_⟩;wtm_at "a";refine Ah p2.ins rfl ?_;wtm_at "a";refine MU p2.cl hk Pj ?_;exact⟨_,_,_,[],rfl,by rw[AAb];rfl,ch,rd _,q _ ch p2⟩
theorem MZ(p:PA w kd sz bg n [] l2 μ)(hk:Dp (.tup [a1,a2,a3,a4])=some (.tup [a1,a2,a3,a4]))(r1:Rf a1)(r2:Rf a2)(r3:Rf a3)(r4:Rf a4)(rd:Rf d)
  (hf:WP (Ba w [.ref n,a1,a2,a3,a4]) μ λd' μ'=>d'=d/\μ'=μ) (q:∀μ1,Chg n μ μ1->PA w kd sz bg n [(.tup [a1,a2,a3,a4],d)] l2 μ1->QD d μ1):WP (Cv w [.ref n,a1,a2,a3,a4]) μ QD:=by
 have p2:=p.ways [(.tup [a1,a2,a3,a4],d)];have rk:Rf (.tup [a1,a2,a3,a4]):=Ab (AH r1 (AH r2 (AH r3 (AH r4 AX))));have ch:Chg n μ (μ.set (n+2) (.dP w [(.tup [a1,a2,a3,a4],d)])):=Chg.set (by omega) (Qv rk rd);unfold Cv;refine BC (n:=n) rfl ?_;unfold Fq;wtm_at "a";refine Ah p.ins rfl ?_;refine IZ p.wy hk rfl ?_;wtm_at "a";refine MT ?_;wtm_at "a";refine AU hf λd' μ' ⟨e1,e2⟩=>?_;subst e1 e2;wtm_at "a";refine Ah p.ins rfl ?_;wtm_at "a";refine⟨n+2,[],rfl,p.wy,hk,by decide,rfl,?_⟩;wtm_at "a";refine Ah p2.ins rfl ?_;wtm_at "a";refine MU p2.wy hk Pj ?_;exact⟨_,_,_,[],rfl,by rw[AAb];rfl,ch,rd _,q _ ch p2⟩
end
section
variable{w:World}{μ:Mh}{QD:D->Mh->Prop}{kd:Str}{sz bg:Int}{n:Nat}{l1 l2:List (D×D)}
theorem KS(h:a=0/\res=.tup [.str "stands",.int 0,.tup [],.non]∨a=1/\res=.tup [.str "ends",.non,.tup [],.non])(p:PA w kd sz bg n l1 l2 μ)(q:QD res μ):WP (Ba w [.ref n,.int 0,.int a,.int v,.tup []]) μ QD:=by
 unfold Ba;refine Ar rfl ?_;unfold FH;wtm_at "a";refine Ah p.ins rfl ?_;wtm_at "a";refine A3 rfl p.ins rfl ?_;wtm_at "a";refine LS p ?_;wtm_at "a";rcases h with ⟨rfl,rfl⟩|⟨rfl,rfl⟩
 ·refine Pe (.inl rfl) ?_;wtm_at "a";refine Ah (p.app _).ins rfl ?_;wtm_at "a";refine⟨by rw[sizeLine_eq];exact AAE rfl,?_⟩;refine Bs (λ(x:D)=>x) (λ_=>true) (λx=>x) (xs:=[]) (λx hx=>nomatch hx) ?_;refine Bc (by rw[sizeLine_eq];exact AAE rfl) ?_;wtm_at "a";refine AV (a:=.bl true) (μ':=_) rfl ?_;wtm_at "a";exact⟨_,_,_,rfl,rfl,by simp[Cl,ClL],q⟩
 ·refine Pe (.inr rfl) ?_;wtm_at "a";refine Ah (p.app _).ins rfl ?_;wtm_at "a";refine⟨by rw[sizeLine_eq];exact AAE rfl,?_⟩;refine Bs (λ(x:D)=>x) (λ_=>true) (λx=>x) (xs:=[]) (λx hx=>nomatch hx) ?_;refine Bc (by rw[sizeLine_eq];exact AAE rfl) ?_;wtm_at "a";exact⟨_,_,_,rfl,rfl,by simp[Cl,ClL],q⟩
theorem v_x:Fw [(.inr "x",.int a),(.inr "y",.int b)] (.inr "x")=some (.int a):=rfl
theorem v_y:Fw [(.inr "x",.int a),(.inr "y",.int b)] (.inr "y")=some (.int b):=rfl
theorem Gw(hk:k=1∨k=2)(hx:0<=x/\x<10)(h:(a=0∨a=1)/\res=.tup [.str "stands",.int a,.tup [.int x,.int y],.non]∨a=2/\res=.tup [.str "ends",.non,.tup [.int x,.int y],.int x])(p:PA w kd sz bg n l1 l2 μ)(q:QD res μ):WP (Ba w [.ref n,.int k,.int a,wo,.tup [.int x,.int y]]) μ QD:=by
 have cmp:∀{QL:List D->Mh->Prop} {ν:Mh},ν=μ++[.dK [(.inr "x",.int x),(.inr "y",.int y)]]->QL [.int x,.int y] ν->WP (CB (AR 0) C3 (mOp Gg (AC 1) (AC 0)) [none,some (.ref μ.length)] [.str "x",.str "y"] []) ν QL:=λ{QL ν} e q=>by
  subst e;refine Bs (λ(z:Str×Int)=>D.str z.1) (λ_=>true) (λz=>.int z.2) (xs:=[("x",x),("y",y)]) (λz hz=>?_) q;wtm_at "a";refine⟨rfl,?_⟩;wtm_at "a";refine⟨rfl,rfl,λ_=>?_⟩;wtm_at "a";rcases AAJ.mp hz with rfl|hz
  ·exact DP (Bn _) rfl v_x ⟨rfl,rfl⟩
  cases AAL.mp hz;exact DP (Bn _) rfl v_y ⟨rfl,rfl⟩
 unfold Ba;refine Ar rfl ?_;unfold FH;wtm_at "a";refine Ah p.ins rfl ?_;wtm_at "a";refine Aq (d:=.tup [.str (if k=1 then "r" else "s"),.int 9,Fj]) (by rcases hk with rfl|rfl<;>rfl) ?_;wtm_at "a";refine A3 rfl p.ins rfl ?_;wtm_at "a";refine WM hk p ?_;wtm_at "a";have pp:=p.app [.dK [(.inr "x",.int x),(.inr "y",.int y)]];rcases h with ⟨ha,rfl⟩|⟨rfl,rfl⟩
 ·rcases ha with rfl|rfl
  all_goals
   refine Pf (by omega) ?_;wtm_at "a";refine Ah pp.ins rfl ?_;wtm_at "a";refine C8 (d:=xyD) (by rcases hk with rfl|rfl<;>rfl) ?_;wtm_at "a";refine⟨by rw[sizeLine_eq];exact AAE rfl,?_⟩;refine cmp rfl ?_;refine Bc (by rw[sizeLine_eq];exact AAE rfl) ?_;wtm_at "a";refine AV (a:=.bl true) (μ':=_) rfl ?_;wtm_at "a";exact⟨_,_,_,rfl,rfl,by simp[Cl,ClL],q⟩
 ·refine Pf (by omega) ?_;wtm_at "a";refine Ah pp.ins rfl ?_;wtm_at "a";refine C8 (d:=xyD) (by rcases hk with rfl|rfl<;>rfl) ?_;wtm_at "a";refine⟨by rw[sizeLine_eq];exact AAE rfl,?_⟩;refine cmp rfl ?_;refine Bc (by rw[sizeLine_eq];exact AAE rfl) ?_;wtm_at "a";refine AV (a:=.bl false) (μ':=_) rfl ?_;wtm_at "a";refine OK (Bn _) v_x ?_;wtm_at "a";refine Ah pp.ins rfl ?_;wtm_at "a";exact⟨_,_,_,rfl,rfl,by simp[Cl,ClL],q⟩
end
section
variable{w:World}{μ:Mh}{QD:D->Mh->Prop}{kd:Str}{sz bg:Int}{n:Nat}{l2:List (D×D)}{cw cc:Int}{ts:List (Option (List Int))}
theorem SH(hv:0<=v/\v<10)(ht:ts.length<=1000)(hs:∀l,some l∈ts->l.length<=100/\∀x∈l,0<=x/\x<10)(q:QD (clD cw v (ts.map (Option.map λ_=>BI 10))) μ):WP (Av w [mkD kd sz bg,clD cw cc ts,.tup [.str "begin",.int 0,.int v]]) μ QD:=by
 unfold Av;refine Ar rfl ?_;unfold Bu;wtm_at "a";refine Q5 hv ht hs ?_;exact⟨_,_,[],rfl,by simp,BL _ _ _ _,q⟩
theorem O6(q:QD (clD cc (-1) ts) μ):WP (Av w [mkD kd sz bg,clD cw cc ts,.tup [.str "end",.int 0,.non]]) μ QD:=by
 unfold Av;refine Ar rfl ?_;unfold Bu;wtm_at "a";refine OI ?_;exact⟨_,_,[],rfl,by simp,BL _ _ _ _,q⟩
theorem Vf(hw:0<=cw/\cw<10)(hc:cc≠-1->0<=cc/\cc<10)(ht:ts.length<=1000)(hr:r<ts.length)(q:QD (clD cw cc (ts.set r (some (rdK cw cc)))) μ):WP (Av w [mkD kd sz bg,clD cw cc ts,.tup [.str "begin",.int ((r+1:Nat):Int),z]]) μ QD:=by
 unfold Av;refine Ar rfl ?_;unfold Bu;wtm_at "a";rw[show (((r+1:Nat):Int)-1)=(r:Int) by omega];refine Sy hw hc ht hr ?_;exact⟨_,_,[],rfl,by simp,BL _ _ _ _,q⟩
theorem YO(hr:ts[r]?=some (some l))(hv:v∈l)(ht:ts.length<=1000)(q:QD (clD cw cc (ts.set r none)) μ):WP (Av w [mkD kd sz bg,clD cw cc ts,.tup [.str "end",.int ((r+1:Nat):Int),.int v]]) μ QD:=by
 unfold Av;refine Ar rfl ?_;unfold Bu;wtm_at "a";rw[show (((r+1:Nat):Int)-1)=(r:Int) by omega];refine V3 hr hv ht ?_;exact⟨_,_,[],rfl,by simp,BL _ _ _ _,q⟩
theorem Cw(hk:k<hs.length)(hl:hs.length<=1000)(rh:RfL hs)(rb:Rf bx)(rc:Rf cl)(rx:Rf h)(q:QD (.tup [.tup (hs.set k h),bx,cl]) μ):WP (CQ w [.tup [.tup hs,bx,cl],.int (k:Int),h]) μ QD:=by
 unfold CQ;refine Ar rfl ?_;unfold Hm;wtm_at "a";refine Cn hk hl rh rx ?_;wtm_at "a";exact⟨_,_,[],rfl,by simp,Ab (AH (Ab (Ob rh rx)) (AH rb (AH rc AX))) _,q⟩
theorem OO{hs:List D}{bx cl wo ct nums nums':D}(p:PA w kd sz bg n [] l2 μ)(hk:k<hs.length)(hl:hs.length<=1000)(rh:RfL hs)(rb:Rf bx)(rc:Rf cl)(rw_:Rf wo)(rct:Rf ct)(rn:Rf nums)(rn':Rf nums')(re:RfL evs)
  (key:Dp (.tup [.int (k:Int),.int a,wo,nums])=some (.tup [.int (k:Int),.int a,wo,nums])) (hf:WP (Ba w [.ref n,.int (k:Int),.int a,wo,nums]) μ λd μ'=>d=.tup [.str "stands",.int a,nums',.non]/\μ'=μ)
  (q:∀μ1,Chg n μ μ1->QD (.tup [.tup [.tup (hs.set k (.tup [.int a,.non,wo,ct,nums'])),bx,cl],.non,.lst evs]) μ1):WP (B3 w [.ref n,.tup [.tup hs,bx,cl],.int (k:Int),.tup [.int a,wo,ct,nums],.lst evs]) μ QD:=by
 have rx:Rf (.tup [.int a,.non,wo,ct,nums']):=Ab (AH (Af _) (AH Cg (AH rw_ (AH rct (AH rn' AX)))));unfold B3;refine BC (n:=n) rfl ?_;unfold HD;wtm_at "a";refine A3 rfl p.ins rfl ?_;wtm_at "a";refine MZ p key (Af _) (Af _) rw_ rn (Ab (AH (BF _) (AH (Af _) (AH rn' (AH Cg AX))))) hf λμ1 ch p1=>?_;wtm_at "a";refine Cw hk hl rh rb rc rx ?_;wtm_at "a";exact⟨_,_,μ1,[],rfl,by simp,ch,Ab (AH (Ab (AH (Ab (Ob rh rx)) (AH rb (AH rc AX)))) (AH Cg (AH (Dk re) AX))) _,q _ ch⟩
theorem TF{hs:List D}{bx wo ct nums nums' told ev:D}{evs:List D}{k:Nat}(p:PA w kd sz bg n [] [] μ)(hk:k<hs.length)(hl:hs.length<=1000)(rh:RfL hs)(rb:Rf bx)(rw_:Rf wo)(rn:Rf nums)(rn':Rf nums')(re:RfL evs)
  (el:evs.length<=1000) (kt:Kz told=true/\Cm told<=1) (rt:Rf told) (rev:Rf ev) (hnm:atI [D.str "w",D.str "r",D.str "s"] (k:Int)=some (.str nm)) (hev:k=0/\ev=.tup [.str "end",.str nm]∨k≠0/\ev=.tup [.str "end",.str nm,told])
  (key:Dp (.tup [.int (k:Int),.int a,wo,nums])=some (.tup [.int (k:Int),.int a,wo,nums])) (hf:WP (Ba w [.ref n,.int (k:Int),.int a,wo,nums]) μ λd μ'=>d=.tup [.str "ends",.non,nums',told]/\μ'=μ)
  (hc:∀ν,WP (Av w [mkD kd sz bg,clD cw cc ts,.tup [.str "end",.int (k:Int),told]]) ν λd μ'=>d=clD cw' cc' ts'/\μ'=ν)
  (q:∀μ1,Chg n μ μ1->QD (.tup [.tup [.tup (hs.set k (.tup [.int (-1),.non,.int 0,.int 0,nums'])),bx,clD cw' cc' ts'],.non,.lst (evs++[ev])]) μ1):WP (B3 w [.ref n,.tup [.tup hs,bx,clD cw cc ts],.int (k:Int),.tup [.int a,wo,ct,nums],.lst evs]) μ QD:=by
 have rx:Rf (.tup [.int (-1),.non,.int 0,.int 0,nums']):=Ab (AH (Af _) (AH Cg (AH (Af _) (AH (Af _) (AH rn' AX)))));have kk:Kz (D.int (k:Int))=true/\Cm (D.int (k:Int))<=1:=⟨rfl,AAm _⟩;unfold B3;refine BC (n:=n) rfl ?_;unfold HD;wtm_at "a";refine A3 rfl p.ins rfl ?_;wtm_at "a";refine MZ p key (Af _) (Af _) rw_ rn (Ab (AH (BF _) (AH Cg (AH rn' (AH rt AX))))) hf λμ1 ch p1=>?_;wtm_at "a";refine Ah p1.ins rfl ?_;wtm_at "a";refine C8 hnm ?_;rcases hev with ⟨k0,rfl⟩|⟨k0,rfl⟩
 all_goals
  wtm_at "a";refine K21.Pg (by show _+1<=1000000;omega) ?_;wtm_at "a";refine A3 rfl p1.ins rfl ?_;wtm_at "a";refine Ft p1 (L3 kk kt) (BL _ _ _) (BF _) (Af _) rt (BL cw' cc' ts') (hc _) λμ2 ch2 p2=>?_;wtm_at "a";have ch12:=ch.trans ch2;refine EF ?_;wtm_at "a";refine Cw hk hl rh rb (BL _ _ _) rx ?_;wtm_at "a";exact⟨_,_,μ2,[],rfl,by simp,ch12,Ab (AH (Ab (AH (Ab (Ob rh rx)) (AH rb (AH (BL _ _ _) AX)))) (AH Cg (AH (Dk (Zd re (AH rev AX))) AX))) _,q _ ch12⟩
end
inductive Ws where
 |idle|on (v:Int)|mid (v:Int)
inductive Rs where
 |idle|at0|half (l:List Int)|at1 (c:Int)
structure Rd where
 st:Rs
 x:Int
 y:Int
 t:Option (List Int)
def wD:Ws->D
 | .idle=>.tup [.int (-1),.non,.int 0,.int 0,.tup []]
 | .on v=>.tup [.int 0,.non,.int v,.int 0,.tup []]
 | .mid v=>.tup [.int 0,.tup [],.int v,.int 1,.tup []]
def rsD(x y:Int):Rs->D
 | .idle=>.tup [.int (-1),.non,.int 0,.int 0,.tup [.int x,.int y]]
 | .at0=>.tup [.int 0,.non,.int 0,.int 0,.tup [.int x,.int y]]
 | .half l=>.tup [.int 0,.tup (l.map D.int),.int 0,.int 1,.tup [.int x,.int y]]
 | .at1 c=>.tup [.int 1,.non,.int 0,.int c,.tup [.int x,.int y]]
def rD(r:Rd):D:=rsD r.x r.y r.st
def com:Ws->Int
 | .mid v=>v
 |_=>-1
def ccm:Ws->Int
 | .idle=>-1
 | .on v=>v
 | .mid v=>v
structure Sd where
 W:Ws
 rs:List Rd
 cur:Int
abbrev bxD(S:Sd):D:=.tup [.tup [.int S.cur,.int (com S.W)],.tup [.int 0,.int (-1)]]
abbrev hsD(S:Sd):List D:=wD S.W::S.rs.map rD
abbrev Vd(S:Sd):D:=clD S.cur (ccm S.W) (S.rs.map (·.t))
abbrev sD(S:Sd):D:=.tup [.tup (hsD S),bxD S,Vd S]
theorem T6(W:Ws):Rf (wD W):=λk=>by cases W<;>simp[wD,Cl,ClL]
theorem JK(r:Rd):Rf (rD r):=λk=>by
 unfold rD;cases r.st with
 |half l=>
  have:=Bd l k;simp[rsD,Cl,ClL,this]
 |_=>simp[rsD,Cl,ClL]
theorem T8:∀rs:List Rd,RfL (rs.map rD)
 |[]=>AX
 |r::rs=>by rw[AAX];exact AH (JK r) (T8 rs)
theorem Dd(S:Sd):RfL (hsD S):=AH (T6 _) (T8 _)
theorem D5(S:Sd):Rf (bxD S):=λk=>by simp[Cl,ClL]
structure Sg(kd:Str)(sz:Int)(S:Sd):Prop where
 kd3:kd = "safe" ∨ kd = "steady" ∨ kd = "whole"
 s2:2<=sz
 s10:sz<=10
 two:S.rs.length=2
 cur:0<=S.cur/\S.cur<sz
 wor:∀v,S.W=.on v∨S.W=.mid v->0<=v/\v<sz
 mid:∀v,S.W=.mid v->kd ≠ "whole"
 xs:∀r∈S.rs,0<=r.x/\r.x<10
 tl:∀r∈S.rs,∀l,r.t=some l->l.length<=100/\∀x∈l,0<=x/\x<10
 hl:∀r∈S.rs,∀l,r.st=.half l->kd ≠ "whole" /\ l.length<=100/\∀x∈l,0<=x/\x<sz
 ct:∀r∈S.rs,∀c,r.st=.at1 c->c<=2
section
variable{w:World}{μ:Mh}{QD:D->Mh->Prop}{kd:Str}{sz bg:Int}{n:Nat}{S:Sd}
theorem cC:Dp (.tup [.int ((0:Nat):Int),.int a,.int v,.tup []])=some (.tup [.int ((0:Nat):Int),.int a,.int v,.tup []]):=L4 rfl (AAE rfl)
theorem aO:Dp (.tup [.int k,.int a,.int v,.tup [.int x,.int y]])=some (.tup [.int k,.int a,.int v,.tup [.int x,.int y]]):=L4 rfl (AAE rfl)
theorem Jl(g:Sg kd sz S):(hsD S).length=3:=by rw[AAI,AAG,g.two]
noncomputable def JH(S:Sd)(v:Int):Sd:={ S with W:=.on v,rs:=S.rs.map λr=>{ r with t:=r.t.map λ_=>BI 10 } }
theorem Wc(g:Sg kd sz S)(hW:S.W=.idle)(hv:0<=v/\v<10)(p:PA w kd sz bg n [] [] μ)(q:∀μ1,Chg n μ μ1->QD (.tup [sD (JH S v),.non,.lst [.tup [.str "begin",.str "w",.int v]]]) μ1):WP (BQ w [.ref n,sD S,.tup [.int 0,.int v]]) μ QD:=by
 obtain⟨W,rs,cur⟩:=S;dsimp only at hW;subst hW;have h3:=Jl g;have re:RfL [D.tup [.str "begin",.str "w",.int v]]:=AH (Ab (AH (BF _) (AH (BF _) (AH (Af _) AX)))) AX;have ts:∀l,some l∈rs.map (·.t)->l.length<=100/\∀x∈l,0<=x/\x<10:=λl hl=>by
  obtain⟨r,hr,e⟩:=AAM.mp hl;exact g.tl r hr l e
 have tl:(rs.map (·.t)).length<=1000:=by rw[AAG];have:=g.two;dsimp only at this;omega
 unfold BQ;refine BC (n:=n) rfl ?_;unfold ES;wtm_at "a";refine Aq (d:=.tup [.int (-1),.non,.int 0,.int 0,.tup []]) (Bk (j:=0) rfl) ?_;wtm_at "a";refine Dw rfl ?_;wtm_at "a";unfold IW;refine BC (n:=n) rfl ?_;unfold Lz;wtm_at "a";refine Ah p.ins rfl ?_;wtm_at "a";refine A3 rfl p.ins rfl ?_;wtm_at "a";refine Ft p (L3 ⟨rfl,AAm _⟩ ⟨rfl,AAm _⟩) (BL _ _ _) (BF _) (Af _) (Af _) (BL cur v _) (SH hv tl ts ⟨rfl,rfl⟩) λμ1 ch p1=>?_;wtm_at "a";refine Aq (d:=.tup [.int (-1),.non,.int 0,.int 0,.tup []]) (Bk (j:=0) rfl) ?_;wtm_at "a";refine OO (k:=0) (nums':=.tup []) p1 (by rw[AAI];omega) (by rw[h3];omega) (Dd _) (D5 ⟨.idle,rs,cur⟩) (BL _ _ _) (Af _) (Af _) (Ab AX) (Ab AX) re cC (KS (.inl ⟨rfl,rfl⟩) p1 ⟨rfl,rfl⟩) λμ2 ch2=>?_;have e:(.tup [.tup [.tup ((hsD ⟨.idle,rs,cur⟩).set 0 (.tup [.int 0,.non,.int v,.int 0,.tup []])),bxD ⟨.idle,rs,cur⟩,clD cur v ((rs.map (·.t)).map (Option.map λ_=>BI 10))],.non,.lst [.tup [.str "begin",.str "w",.int v]]]:D)=.tup [sD (JH ⟨.idle,rs,cur⟩ v),.non,.lst [.tup [.str "begin",.str "w",.int v]]]:=by
  unfold JH sD hsD bxD Vd;dsimp only;rw[List.set_cons_zero,List.map_map,List.map_map,List.map_map];rfl
 rw[e];have rr:Rf (.tup [sD (JH ⟨.idle,rs,cur⟩ v),.non,.lst [.tup [.str "begin",.str "w",.int v]]]):=Ab (AH (Ab (AH (Ab (Dd _)) (AH (D5 _) (AH (BL _ _ _) AX)))) (AH Cg (AH (Dk re) AX)));have c12:=ch.trans ch2;exact⟨_,_,μ2,[],rfl,by simp,c12,rr _,⟨_,_,μ2,[],rfl,by simp,c12,rr _,q _ c12⟩⟩
end
theorem Il(h:l.length=2):∃a b,l=[a,b]:=by
 rcases l with _|⟨a,_|⟨b,_|⟨c,l⟩⟩⟩
 ·cases h
 ·cases h
 ·exact⟨a,b,rfl⟩
 ·cases h
theorem Cz(h:WP (bf x τ0) μ λτ1 μ1=>WP (tc τ1) μ1 λc μ2=>c=true/\WP (ma τ1) μ2 λy μ3=>WP (CB bf tc ma τ0 xs (ys++[y])) μ3 QL):WP (CB bf tc ma τ0 (x::xs) ys) μ QL:=
 AT (AU h λτ1 μ1 z=>AT (AU z λc μ2 ⟨e,z⟩=>by subst e;exact AT z))
theorem Ic(h:QL ys μ):WP (CB bf tc ma τ0 [] ys) μ QL:=BA h
noncomputable def GR(kd:Str)(sz v:Int)(r:Rd):Rd:=match r.st with
 | .half l=>{ r with st:=.half (bsK kd sz l v) }
 |_=>r
section
variable{w:World}{μ:Mh}{QD:D->Mh->Prop}{kd:Str}{sz bg:Int}{n:Nat}{S:Sd}{l1 l2:List (D×D)}
theorem LV(r:Rf (.tup [a,.non,b,c,d]))(q:QD (.tup [a,.non,b,c,d]) μ):WP (B4 w [.ref n,.int k,.tup [a,.non,b,c,d],.int 0,.int v]) μ QD:=by
 unfold B4;refine Ar rfl ?_;unfold ET;wtm_at "a";exact⟨_,_,[],rfl,by simp,r _,q⟩
theorem TL(hk:k=1∨k=2)(hkd:kd = "safe" ∨ kd = "steady")(h0:0<=sz)(h1:sz<=10)(hl:∀l,r.st=.half l->l.length<=100/\∀x∈l,0<=x/\x<sz)(hv:0<=v/\v<10)(p:PA w kd sz bg n l1 l2 μ)(q:QD (rD (GR kd sz v r)) μ):WP (B4 w [.ref n,.int k,rD r,.int 0,.int v]) μ QD:=by
 obtain⟨st,x,y,t⟩:=r;cases st with
 |idle=>exact LV (JK ⟨.idle,x,y,t⟩) q
 |at0=>exact LV (JK ⟨.at0,x,y,t⟩) q
 |at1 c=>exact LV (JK ⟨.at1 c,x,y,t⟩) q
 |half l=>
  obtain⟨a,b⟩:=hl l rfl;unfold B4;refine Ar rfl ?_;unfold ET;rw[show rD ⟨.half l,x,y,t⟩=.tup [.int 0,.tup (l.map D.int),.int 0,.int 1,.tup [.int x,.int y]] from rfl];wtm_at "a";refine A3 rfl p.ins rfl ?_;wtm_at "a";refine LQ hk (.inl ⟨rfl,rfl⟩) p ?_;wtm_at "a";refine A3 rfl p.ins rfl ?_;wtm_at "a";refine Cy (.inr (.inl ⟨rfl,rfl⟩)) p ?_;wtm_at "a";refine Ah p.ins rfl ?_;wtm_at "a";refine FS hkd h0 (by omega) (by omega) (λz hz=>by have:=b z hz;omega) hv ?_;wtm_at "a";refine Cn (j:=1) (AAE rfl) (AAE rfl) (λk=>by have:=Bd l k;simp[Cl,ClL,this]) (Ab (Bd _)) ?_;exact⟨_,_,[],rfl,by simp,JK (GR kd sz v ⟨.half l,x,y,t⟩) _,q⟩
theorem Fu(ra:Rf a)(rz:Rf z)(rb:Rf b)(rd:Rf d)(q:QD (.tup [a,z,b,.int (c+1),d]) μ):WP (ED w [.tup [a,h,b,.int c,d],z]) μ QD:=by
 unfold ED;refine Ar rfl ?_;unfold Ku;wtm_at "a";exact⟨_,_,[],rfl,by simp,Ab (AH ra (AH rz (AH rb (AH (Af _) (AH rd AX))))) _,q⟩
noncomputable def FA(S:Sd)(v:Int):Sd:={ S with W:=.idle,cur:=v }
theorem Pb(hw:wD W=.tup [.int 0,hf,.int v,.int c,.tup []])(hcc:ccm W=v)(two:rs.length=2)(p:PA w kd sz bg n [] [] μ)(q:∀μ1,Chg n μ μ1->QD (.tup [sD (FA ⟨W,rs,cur⟩ v),.non,.lst [.tup [.str "end",.str "w"]]]) μ1):WP (C6 w [.ref n,sD ⟨W,rs,cur⟩,.int 0,.int 0,.int v]) μ QD:=by
 have re:RfL [D.tup [.str "end",.str "w"]]:=AH (Ab (AH (BF _) (AH (BF _) AX))) AX;unfold C6;refine BC (n:=n) rfl ?_;unfold Hn;wtm_at "a";refine Aq (d:=wD W) (Bk (j:=0) rfl) ?_;wtm_at "a";refine Cn (j:=0) (AAE rfl) (AAE rfl) (λk=>by simp[Cl,ClL]) (Ab (AH (Af _) (AH (Af _) AX))) ?_;wtm_at "a";rw[hw];wtm_at "a";refine TF (k:=0) (a:=0+1) (nums':=.tup []) (told:=.non) (nm := "w") (ev:=.tup [.str "end",.str "w"]) (cw':=v) (cc':=-1) (ts':=rs.map (·.t)) p (by rw[AAI];omega) (by rw[AAI,AAG,two];omega) (Dd _) (λk=>by simp[Cl,ClL,DB]) (Af _) (Ab AX) (Ab AX) AX (by decide) ⟨rfl,AAm _⟩ Cg (Ab (AH (BF _) (AH (BF _) AX))) rfl (.inl ⟨rfl,rfl⟩) cC (KS (.inr ⟨rfl,rfl⟩) p ⟨rfl,rfl⟩) (λν=>?_) λμ1 ch=>?_
 ·show WP (Av w [mkD kd sz bg,clD cur (ccm W) (rs.map (·.t)),.tup [.str "end",.int 0,.non]]) ν _;rw[hcc];exact O6 ⟨rfl,rfl⟩
 ·have e:(.tup [.tup [.tup ((hsD ⟨W,rs,cur⟩).set 0 (.tup [.int (-1),.non,.int 0,.int 0,.tup []])),.tup [.tup [.int v,.int (-1)],.tup [.int 0,.int (-1)]],clD v (-1) (rs.map (·.t))],.non,.lst ([]++[.tup [.str "end",.str "w"]])]:D)=.tup [sD (FA ⟨W,rs,cur⟩ v),.non,.lst [.tup [.str "end",.str "w"]]]:=rfl;have rr:Rf (.tup [sD (FA ⟨W,rs,cur⟩ v),.non,.lst [.tup [.str "end",.str "w"]]]):=Ab (AH (Ab (AH (Ab (Dd _)) (AH (D5 _) (AH (BL _ _ _) AX)))) (AH Cg (AH (Dk re) AX)));exact⟨_,_,μ1,[],rfl,by simp,ch,rr _,q _ ch⟩
theorem WN(g:Sg kd sz S)(hW:S.W=.mid v)(p:PA w kd sz bg n [] [] μ)(q:∀μ1,Chg n μ μ1->QD (.tup [sD (FA S v),.non,.lst [.tup [.str "end",.str "w"]]]) μ1):WP (BQ w [.ref n,sD S,.tup [.int 0,.int pk]]) μ QD:=by
 obtain⟨W,rs,cur⟩:=S;dsimp only at hW;subst hW;have two:=g.two;dsimp only at two;have rr:Rf (.tup [sD (FA ⟨.mid v,rs,cur⟩ v),.non,.lst [.tup [.str "end",.str "w"]]]):=Ab (AH (Ab (AH (Ab (Dd _)) (AH (D5 _) (AH (BL _ _ _) AX)))) (AH Cg (AH (Dk (AH (Ab (AH (BF _) (AH (BF _) AX))) AX)) AX)));unfold BQ;refine BC (n:=n) rfl ?_;unfold ES;wtm_at "a";refine Aq (d:=.tup [.int 0,.tup [],.int v,.int 1,.tup []]) (Bk (j:=0) rfl) ?_;wtm_at "a";refine Br (by decide) ?_;wtm_at "a";refine Ah p.ins rfl ?_;wtm_at "a";refine A3 rfl p.ins rfl ?_;wtm_at "a";refine IL p ?_;wtm_at "a";refine A3 rfl p.ins rfl ?_;wtm_at "a";refine Cy (.inl ⟨rfl,rfl⟩) p ?_;wtm_at "a";refine Pb (W:=.mid v) rfl rfl two p λμ1 ch=>?_;exact⟨_,_,μ1,[],rfl,by simp,ch,rr _,q _ ch⟩
theorem Y7(g:Sg kd sz S)(hW:S.W=.on v)(hk:kd = "whole")(p:PA w kd sz bg n [] [] μ)(q:∀μ1,Chg n μ μ1->QD (.tup [sD (FA S v),.non,.lst [.tup [.str "end",.str "w"]]]) μ1):WP (BQ w [.ref n,sD S,.tup [.int 0,.int pk]]) μ QD:=by
 obtain⟨W,rs,cur⟩:=S;dsimp only at hW;subst hW hk;have two:=g.two;have hv:=g.wor v (.inl rfl);dsimp only at two;have rr:Rf (.tup [sD (FA ⟨.on v,rs,cur⟩ v),.non,.lst [.tup [.str "end",.str "w"]]]):=Ab (AH (Ab (AH (Ab (Dd _)) (AH (D5 _) (AH (BL _ _ _) AX)))) (AH Cg (AH (Dk (AH (Ab (AH (BF _) (AH (BF _) AX))) AX)) AX)));unfold BQ;refine BC (n:=n) rfl ?_;unfold ES;wtm_at "a";refine Aq (d:=.tup [.int 0,.non,.int v,.int 0,.tup []]) (Bk (j:=0) rfl) ?_;wtm_at "a";refine Br (by decide) ?_;wtm_at "a";refine Ah p.ins rfl ?_;wtm_at "a";refine A3 rfl p.ins rfl ?_;wtm_at "a";refine IL p ?_;wtm_at "a";unfold Qq;refine BC (n:=n) rfl ?_;unfold Uu;wtm_at "a";refine Aq (d:=.tup [.int 0,.non,.int v,.int 0,.tup []]) (Bk (j:=0) rfl) ?_;wtm_at "a";refine A3 rfl p.ins rfl ?_;wtm_at "a";refine Cy (.inl ⟨rfl,rfl⟩) p ?_;wtm_at "a";refine Ah p.ins rfl ?_;wtm_at "a";refine A3 rfl p.ins rfl ?_;wtm_at "a";refine LS p ?_;wtm_at "a";refine OK (Bn _) (show Fw [(.inr "v",.int v)] (.inr "v")=some (.int v) from rfl) ?_;wtm_at "a";refine Pb (W:=.on v) rfl rfl two (p.app _) λν ch=>?_;obtain⟨μ1,gs1,rfl,ch1⟩:=ch.cut;exact⟨_,_,μ1,gs1,rfl,rfl,ch1,rr _,⟨_,_,μ1,[],rfl,by simp,ch1,rr _,q _ ch1⟩⟩
noncomputable def JG(kd:Str)(sz:Int)(S:Sd)(v:Int):Sd:={ S with W:=.mid v,rs:=S.rs.map (GR kd sz v) }
theorem Y8(g:Sg kd sz S)(hW:S.W=.on v)(hk:kd ≠ "whole")(p:PA w kd sz bg n [] [] μ)(q:∀μ1,Chg n μ μ1->QD (.tup [sD (JG kd sz S v),.non,.lst []]) μ1):WP (BQ w [.ref n,sD S,.tup [.int 0,.int pk]]) μ QD:=by
 obtain⟨W,rs,cur⟩:=S;dsimp only at hW;subst hW;have two:=g.two;have hv:=g.wor v (.inl rfl);have s2:=g.s2;have s10:=g.s10;have hkd:kd = "safe" ∨ kd = "steady" := by
  rcases g.kd3 with z|z|z
  ·exact .inl z
  ·exact .inr z
  ·exact absurd z hk
 have kw:PyData.strOk kd=true/\(kd==("whole" : Str))=false:=by rcases hkd with rfl|rfl<;>decide +kernel
 dsimp only at two;unfold BQ;refine BC (n:=n) rfl ?_;unfold ES;wtm_at "a";refine Aq (d:=.tup [.int 0,.non,.int v,.int 0,.tup []]) (Bk (j:=0) rfl) ?_;wtm_at "a";refine Br (by decide) ?_;wtm_at "a";refine Ah p.ins rfl ?_;wtm_at "a";refine A3 rfl p.ins rfl ?_;wtm_at "a";refine IL p ?_;wtm_at "a";unfold Qq;refine BC (n:=n) rfl ?_;unfold Uu;wtm_at "a";refine Aq (d:=.tup [.int 0,.non,.int v,.int 0,.tup []]) (Bk (j:=0) rfl) ?_;wtm_at "a";refine A3 rfl p.ins rfl ?_;wtm_at "a";refine Cy (.inl ⟨rfl,rfl⟩) p ?_;wtm_at "a";refine Ah p.ins rfl ?_;wtm_at "a";refine A3 rfl p.ins rfl ?_;wtm_at "a";refine LS p ?_;wtm_at "a";refine OK (Bn _) (show Fw [(.inr "v",.int v)] (.inr "v")=some (.int v) from rfl) ?_;wtm_at "a";refine GE kw.1 (by decide +kernel) kw.2 ?_;wtm_at "a";obtain⟨r1,r2,rfl⟩:∃r1 r2,rs=[r1,r2]:=Il two;have hl:∀r∈[r1,r2],∀l,r.st=.half l->l.length<=100/\∀x∈l,0<=x/\x<sz:=λr hr l e=>(g.hl r hr l e).2;have rr:Rf (.tup [sD (JG kd sz ⟨.on v,[r1,r2],cur⟩ v),.non,.lst []]):=Ab (AH (Ab (AH (Ab (Dd _)) (AH (D5 _) (AH (BL _ _ _) AX)))) (AH Cg (AH (Dk AX) AX)));have pp:=p.app [.dK [(.inr "v",.int v)]];(with_reducible apply K21.Ey);wtm_at "a";refine⟨_,rfl,AAE rfl,?_⟩;refine Cz ?_;(with_reducible apply Az);wtm_at "a";refine⟨rfl,?_⟩;wtm_at "a";refine LV (T6 (.on v)) ?_;refine Cz ?_;(with_reducible apply Az);wtm_at "a";refine⟨rfl,?_⟩;wtm_at "a";refine TL (.inl rfl) hkd (by omega) s10 (hl r1 (by simp)) (by omega) pp ?_;refine Cz ?_;(with_reducible apply Az);wtm_at "a";refine⟨rfl,?_⟩;wtm_at "a";refine TL (.inr rfl) hkd (by omega) s10 (hl r2 (by simp)) (by omega) pp ?_;refine Ic ?_;refine Bc (by rw[sizeLine_eq];exact AAE rfl) ?_;wtm_at "a";refine Cn (j:=0) (AAE rfl) (AAE rfl) (λk=>by simp[Cl,ClL]) (Ab (AH (Af _) (AH (Af _) AX))) ?_;wtm_at "a";refine Fu (Af _) (Ab AX) (Af _) (Ab AX) ?_;wtm_at "a";refine Cw (k:=0) (AAE rfl) (AAE rfl) (AH (T6 (.on v)) (AH (JK _) (AH (JK _) AX))) (Ab (AH (Ab (AH (Af _) (AH (Af _) AX))) (AH (Ab (AH (Af _) (AH (Af _) AX))) AX))) (BL _ _ _) (Ab (AH (Af _) (AH (Ab AX) (AH (Af _) (AH (Af _) (AH (Ab AX) AX)))))) ?_;wtm_at "a";have e:(.tup [.tup [.tup [.tup [.int 0,.tup [],.int v,.int (0+1),.tup []],rD (GR kd sz v r1),rD (GR kd sz v r2)],.tup [.tup [.int cur,.int v],.tup [.int 0,.int (-1)]],clD cur v [r1.t,r2.t]],.non,.lst []]:D)=.tup [sD (JG kd sz ⟨.on v,[r1,r2],cur⟩ v),.non,.lst []]:=by
  unfold JG sD hsD bxD Vd;have t1:∀r:Rd,(GR kd sz v r).t=r.t:=λr=>by unfold GR;split<;>rfl
  dsimp only[List.map];rw[t1,t1];rfl
 have ch:=Chg.refl (n:=n) μ;refine⟨_,_,μ,_,rfl,rfl,ch,?_,⟨_,_,μ,[],rfl,by simp,ch,?_,?_⟩⟩
 ·exact e ▸ rr _
 ·exact e ▸ rr _
 ·exact e ▸ q _ ch
end
section
variable{w:World}{μ:Mh}{QD:D->Mh->Prop}{kd:Str}{sz bg:Int}{n:Nat}{S:Sd}{i:Nat}{r:Rd}
theorem Dv(h:WP (mo τ) μ λx μ1=>WP (Cb x) μ1 λ_ μ2=>WP (ra τ) μ2 λds μ3=>WP (g x ds) μ3 QD):WP (BT g mo ra τ) μ QD:=by
 unfold BT;exact AT (AU h λx μ1 h=>AT (AU h λ_ μ2 h=>AT h))
noncomputable abbrev rnm(i:Nat):Str:=if i=0 then "r" else "s"
theorem T1(hi:i<2):atI [D.str "w",D.str "r",D.str "s"] ((i+1:Nat):Int)=some (.str (rnm i)):=by
 match i,hi with
 |0,_=>rfl
 |1,_=>rfl
theorem k12(hi:i<2):((i+1:Nat):Int)=1∨((i+1:Nat):Int)=2:=by omega
noncomputable def DI(S:Sd)(i:Nat)(r:Rd):Sd:={ S with rs:=S.rs.set i r }
theorem OY(S:Sd)(i:Nat)(r:Rd):.tup [.tup ((hsD S).set (i+1) (rD r)),bxD S,clD S.cur (ccm S.W) ((S.rs.map (·.t)).set i r.t)]=sD (DI S i r):=by
 unfold DI sD hsD bxD Vd;dsimp only;rw[List.set_cons_succ,List.map_set,List.map_set]
theorem G4(S:Sd)(h:S.rs[i]?=some r)(e:r'.t=r.t):.tup [.tup ((hsD S).set (i+1) (rD r')),bxD S,Vd S]=sD (DI S i r'):=by
 rw[←OY];have:(S.rs.map (·.t)).set i r'.t=S.rs.map (·.t):=by
  apply List.ext_getElem?;intro j;by_cases hj:i=j
  ·subst hj;rw[AAW,h,List.getElem?_set_self (by rw[AAG];exact(AAU.mp h).1),e];rfl
  ·rw[AAq hj]
 rw[this]
theorem HZ(h:S.rs[i]?=some r):atI (hsD S) ((i+1:Nat):Int)=some (rD r):=Bk (by rw[List.getElem?_cons_succ,AAW,h];rfl)
theorem FB(S:Sd)(h:RfL ds):Rf (.tup [sD S,.non,.lst ds]):=Ab (AH (Ab (AH (Ab (Dd _)) (AH (D5 _) (AH (BL _ _ _) AX)))) (AH Cg (AH (Dk h) AX)))
theorem Wd(g:Sg kd sz S)(hr:S.rs[i]?=some r)(hi:i<2)(hs:r.st=.idle)(p:PA w kd sz bg n [] [] μ)(q:∀μ1,Chg n μ μ1->QD (.tup [sD (DI S i { r with st:=.at0,t:=some (rdK S.cur (ccm S.W)) }),.non,.lst [.tup [.str "begin",.str (rnm i)]]]) μ1):WP (BQ w [.ref n,sD S,.tup [.int ((i+1:Nat):Int),.int 0]]) μ QD:=by
 have h3:=Jl g;have hk:=k12 hi;have s10:=g.s10;have hcur:=g.cur;have hx:=g.xs r (AAV hr);obtain⟨st,x,y,t⟩:=r;dsimp only at hs hx;subst hs;have two:=g.two;have re:RfL [D.tup [.str "begin",.str (rnm i)]]:=AH (Ab (AH (BF _) (AH (BF _) AX))) AX;have hcc:ccm S.W≠-1->0<=ccm S.W/\ccm S.W<10:=λz=>by
  cases hW:S.W with
  |idle=>rw[hW] at z;exact absurd rfl z
  |on v=>have:=g.wor v (.inl hW);show 0<=v/\v<10;omega
  |mid v=>have:=g.wor v (.inr hW);show 0<=v/\v<10;omega
 have tl:(S.rs.map (·.t)).length=2:=by rw[AAG];exact two
 have hh:=HZ (S:=S) hr;unfold BQ;refine BC (n:=n) rfl ?_;unfold ES;wtm_at "a";refine Aq hh ?_;rw[show rD ⟨.idle,x,y,t⟩=.tup [.int (-1),.non,.int 0,.int 0,.tup [.int x,.int y]] from rfl] at hh ⊢;wtm_at "a";refine Dw rfl ?_;wtm_at "a";unfold IW;refine BC (n:=n) rfl ?_;unfold Lz;wtm_at "a";refine Ah p.ins rfl ?_;wtm_at "a";refine C8 (T1 hi) ?_;wtm_at "a";refine A3 rfl p.ins rfl ?_;wtm_at "a";refine Ft p (L3 ⟨rfl,AAm _⟩ ⟨rfl,AAm _⟩) (BL _ _ _) (BF _) (Af _) (Af _) (BL _ _ _) (Vf (r:=i) (by omega) hcc (by omega) (by omega) ⟨rfl,rfl⟩) λμ1 ch p1=>?_;wtm_at "a";refine Aq hh ?_;wtm_at "a";refine OO (k:=i+1) (nums':=.tup [.int x,.int y]) p1 (by rw[h3];omega) (by rw[h3];omega) (Dd _) (D5 S) (BL _ _ _) (Af _) (Af _) (Ab (AH (Af _) (AH (Af _) AX))) (Ab (AH (Af _) (AH (Af _) AX))) re aO (Gw hk hx (.inl ⟨.inl rfl,rfl⟩) p1 ⟨rfl,rfl⟩) λμ2 ch2=>?_;have e:=OY S i ⟨.at0,x,y,some (rdK S.cur (ccm S.W))⟩;rw[show rD ⟨.at0,x,y,some (rdK S.cur (ccm S.W))⟩=.tup [.int 0,.non,.int 0,.int 0,.tup [.int x,.int y]] from rfl] at e;rw[e];have c12:=ch.trans ch2;exact⟨_,_,μ2,[],rfl,by simp,c12,FB _ re _,⟨_,_,μ2,[],rfl,by simp,c12,FB _ re _,q _ c12⟩⟩
end
section
variable{w:World}{μ:Mh}{QD:D->Mh->Prop}{kd:Str}{sz bg:Int}{n:Nat}{S:Sd}{l1 l2:List (D×D)}{i:Nat}{r:Rd}{x y:Int}{t:Option (List Int)}{pk:Int}
theorem IM(hh:rD r=.tup [.int a,hf,.int 0,.int c,.tup [.int x,.int y]])(ha:a=0/\row=Wy∨a=1/\row=Wx)(hc:c<9)(hr:S.rs[i]?=some r)(hi:i<2)(p:PA w kd sz bg n l1 l2 μ)(hg:WP (Jq w [.ref n,sD S,.tup [.int ((i+1:Nat):Int),.int pk],row]) μ λd μ1=>Chg n μ μ1/\Rf d/\QD d μ1):WP (BQ w [.ref n,sD S,.tup [.int ((i+1:Nat):Int),.int pk]]) μ QD:=by
 have hk:=k12 hi;have h1:=HZ (S:=S) hr;have a1:a=0∨a=1:=by rcases ha with ⟨z,_⟩|⟨z,_⟩<;>omega
 unfold BQ;refine BC (n:=n) rfl ?_;unfold ES;wtm_at "a";refine Aq h1 ?_;rw[hh];wtm_at "a";refine Br (by omega) ?_;wtm_at "a";refine Ah p.ins rfl ?_;wtm_at "a";refine Aq (d:=.tup [.str (rnm i),.int 9,Fj]) (by match i,hi with|0,_=>rfl|1,_=>rfl) ?_;wtm_at "a";refine A3 rfl p.ins rfl ?_;wtm_at "a";refine LQ hk ha p ?_;rcases ha with ⟨rfl,rfl⟩|⟨rfl,rfl⟩
 all_goals
  wtm_at "a";refine AU hg λd μ1 ⟨c1,c2,c3⟩=>?_;exact⟨_,_,μ1,[],rfl,by simp,c1,c2 _,c3⟩
noncomputable def Fy(kd:Str)(sz:Int)(S:Sd):List Int:=if com S.W=-1 then [S.cur] else bsK kd sz [S.cur] (com S.W)
theorem Hk:Rf (.tup [.int x,.int y]):=Ab (AH (Af _) (AH (Af _) AX))
theorem SB(g:Sg kd sz S)(hk:kd ≠ "whole"):(kd = "safe" ∨ kd = "steady")/\PyData.strOk kd=true/\(kd==("whole" : Str))=false:=by
 rcases g.kd3 with rfl|rfl|rfl
 ·exact⟨.inl rfl,by decide +kernel⟩
 ·exact⟨.inr rfl,by decide +kernel⟩
 ·exact absurd rfl hk
theorem Va(g:Sg kd sz S):com S.W≠-1->0<=com S.W/\com S.W<sz:=λz=>by
 cases hW:S.W with
 |idle=>rw[hW] at z;exact absurd rfl z
 |on v=>rw[hW] at z;exact absurd rfl z
 |mid v=>exact g.wor v (.inr hW)
theorem WV(g:Sg kd sz S)(hr:S.rs[i]?=some r)(hi:i<2)(hs:r.st=.at0)(hk:kd ≠ "whole")(p:PA w kd sz bg n l1 l2 μ)(q:∀μ1,Chg n μ μ1->QD (.tup [sD (DI S i { r with st:=.half (Fy kd sz S) }),.non,.lst []]) μ1):WP (BQ w [.ref n,sD S,.tup [.int ((i+1:Nat):Int),.int pk]]) μ QD:=by
 have h3:=Jl g;have s10:=g.s10;have s2:=g.s2;have hcur:=g.cur;have hcom:=Va g;obtain⟨hkd,kw1,kw2⟩:=SB g hk;have h1:=HZ (S:=S) hr;obtain⟨st,x,y,t⟩:=r;dsimp only at hs;subst hs;refine IM (x:=x) (y:=y) (hf:=.non) rfl (.inl ⟨rfl,rfl⟩) (by decide) hr hi p ?_;rw[show rD ⟨.at0,x,y,t⟩=.tup [.int 0,.non,.int 0,.int 0,.tup [.int x,.int y]] from rfl] at h1;unfold Jq;refine BC (n:=n) rfl ?_;unfold NW;wtm_at "a";refine Aq h1 ?_;wtm_at "a";refine A3 rfl p.ins rfl ?_;wtm_at "a";refine Cy (.inr (.inl ⟨rfl,rfl⟩)) p ?_;wtm_at "a";refine Ah p.ins rfl ?_;wtm_at "a";refine IJ kw1 (by decide +kernel) kw2 ?_;wtm_at "a";have last:∀(d:D) (τ2:Sl),d=.tup [sD (DI S i ⟨.half (Fy kd sz S),x,y,t⟩),.non,.lst []]->∃d' τ3 μ1 gs,(Fl.rt d,τ2)=(Fl.rt d',τ3)/\μ=μ1++gs/\Chg n μ μ1/\Cl μ.length d'/\Chg n μ μ1/\Rf d'/\QD d' μ1:=λd τ2 e=>by
  subst e;have ch:=Chg.refl (n:=n) μ;exact⟨_,_,μ,[],rfl,by simp,ch,FB _ AX _,ch,FB _ AX,q _ ch⟩
 by_cases hc:com S.W=-1
 ·refine Dw hc ?_;wtm_at "a";have e:D.tup [D.int S.cur]=.tup ((Fy kd sz S).map D.int):=by unfold Fy;rw[if_pos hc];rfl
  rw[e];refine Fu (Af _) (Ab (Bd _)) (Af _) Hk ?_;wtm_at "a";refine Cw (k:=i+1) (by rw[h3];omega) (by rw[h3];omega) (Dd _) (D5 S) (BL _ _ _) (Ab (AH (Af _) (AH (Ab (Bd _)) (AH (Af _) (AH (Af _) (AH Hk AX)))))) ?_;wtm_at "a";refine last _ _ ?_;rw[←G4 S hr (r':=⟨.half (Fy kd sz S),x,y,t⟩) rfl];rfl
 ·refine Br hc ?_;wtm_at "a";refine AV (a:=.tup ([S.cur].map D.int)) (μ':=μ) rfl ?_;wtm_at "a";refine FS hkd (by omega) (by omega) (AAE rfl) (by simp;omega) (by have:=hcom hc;omega) ?_;wtm_at "a";have e:bsK kd sz [S.cur] (com S.W)=Fy kd sz S:=by unfold Fy;rw[if_neg hc]
  rw[e];refine Fu (Af _) (Ab (Bd _)) (Af _) Hk ?_;wtm_at "a";refine Cw (k:=i+1) (by rw[h3];omega) (by rw[h3];omega) (Dd _) (D5 S) (BL _ _ _) (Ab (AH (Af _) (AH (Ab (Bd _)) (AH (Af _) (AH (Af _) (AH Hk AX)))))) ?_;wtm_at "a";refine last _ _ ?_;rw[←G4 S hr (r':=⟨.half (Fy kd sz S),x,y,t⟩) rfl];rfl
end
section
variable{w:World}{μ:Mh}{QD:D->Mh->Prop}{kd:Str}{sz bg:Int}{n:Nat}{S:Sd}{l2:List (D×D)}{i:Nat}{r:Rd}{x y:Int}{t:Option (List Int)}{pk:Int}
theorem cE:K5 xyD [.str "x"] ν=some (.int ((0:Nat):Int),ν):=rfl
theorem dQ:K5 xyD [.str "y"] ν=some (.int ((1:Nat):Int),ν):=rfl
theorem Mc(g:Sg kd sz S)(hr:S.rs[i]?=some r)(hi:i<2)(hy:r.y=y)(ht:r.t=t)(hz:0<=z/\z<10)(p:PA w kd sz bg n [] l2 μ)(q:∀μ1,Chg n μ μ1->QD (.tup [sD (DI S i ⟨.at1 c,z,y,t⟩),.non,.lst []]) μ1):WP (B3 w [.ref n,sD S,.int ((i+1:Nat):Int),.tup [.int (0+1),.int 0,.int c,.tup [.int z,.int y]],.lst []]) μ QD:=by
 have h3:=Jl g;refine OO (k:=i+1) (a:=0+1) (nums':=.tup [.int z,.int y]) p (by rw[h3];omega) (by rw[h3];omega) (Dd _) (D5 S) (BL _ _ _) (Af _) (Af _) Hk Hk AX aO (Gw (k12 hi) hz (.inl ⟨.inr rfl,rfl⟩) p ⟨rfl,rfl⟩) λμ2 ch2=>?_;have e:=G4 S hr (r':=⟨.at1 c,z,y,t⟩) ht.symm;rw[show rD ⟨.at1 c,z,y,t⟩=.tup [.int (0+1),.non,.int 0,.int c,.tup [.int z,.int y]] from rfl] at e;rw[e];exact q _ ch2
theorem WT(g:Sg kd sz S)(hr:S.rs[i]?=some r)(hi:i<2)(hs:r.st=.at0)(hk:kd = "whole")(p:PA w kd sz bg n [] l2 μ)(q:∀μ1,Chg n μ μ1->QD (.tup [sD (DI S i { r with st:=.at1 1,x:=S.cur }),.non,.lst []]) μ1):WP (BQ w [.ref n,sD S,.tup [.int ((i+1:Nat):Int),.int pk]]) μ QD:=by
 have s10:=g.s10;have hcur:=g.cur;have h1:=HZ (S:=S) hr;obtain⟨st,x,y,t⟩:=r;dsimp only at hs;subst hs hk;refine IM (x:=x) (y:=y) (hf:=.non) rfl (.inl ⟨rfl,rfl⟩) (by decide) hr hi p ?_;rw[show rD ⟨.at0,x,y,t⟩=.tup [.int 0,.non,.int 0,.int 0,.tup [.int x,.int y]] from rfl] at h1;unfold Jq;refine BC (n:=n) rfl ?_;unfold NW;wtm_at "a";refine Aq h1 ?_;wtm_at "a";refine A3 rfl p.ins rfl ?_;wtm_at "a";refine Cy (.inr (.inl ⟨rfl,rfl⟩)) p ?_;wtm_at "a";refine Ah p.ins rfl ?_;wtm_at "a";refine Dv ?_;wtm_at "a";refine Ah p.ins rfl ?_;wtm_at "a";refine C8 (d:=xyD) (by rcases k12 hi with z|z<;>rw[z]<;>rfl) ?_;refine AV (a:=()) (μ':=μ) rfl ?_;wtm_at "a";refine AV cE ?_;wtm_at "a";refine Cn (j:=0) (AAE rfl) (AAE rfl) (λk=>by simp[Cl,ClL]) (Af _) ?_;wtm_at "a";refine Mc g hr hi rfl rfl (by omega) p λμ1 ch=>?_;exact⟨_,_,μ1,[],rfl,by simp,ch,FB _ AX _,ch,FB _ AX,q _ ch⟩
theorem WU(g:Sg kd sz S)(hr:S.rs[i]?=some r)(hi:i<2)(hs:r.st=.half l)(hp:0<=pk/\pk<10)(p:PA w kd sz bg n [] l2 μ)(q:∀μ1,Chg n μ μ1->QD (.tup [sD (DI S i { r with st:=.at1 2,x:=pk }),.non,.lst []]) μ1):WP (BQ w [.ref n,sD S,.tup [.int ((i+1:Nat):Int),.int pk]]) μ QD:=by
 have hk:=(g.hl r (AAV hr) l hs).1;obtain⟨hkd,kw1,kw2⟩:=SB g hk;have h1:=HZ (S:=S) hr;obtain⟨st,x,y,t⟩:=r;dsimp only at hs;subst hs;refine IM (x:=x) (y:=y) (hf:=.tup (l.map D.int)) rfl (.inl ⟨rfl,rfl⟩) (by decide) hr hi p ?_;rw[show rD ⟨.half l,x,y,t⟩=.tup [.int 0,.tup (l.map D.int),.int 0,.int 1,.tup [.int x,.int y]] from rfl] at h1;unfold Jq;refine BC (n:=n) rfl ?_;unfold NW;wtm_at "a";refine Aq h1 ?_;wtm_at "a";refine A3 rfl p.ins rfl ?_;wtm_at "a";refine Cy (.inr (.inl ⟨rfl,rfl⟩)) p ?_;wtm_at "a";refine Ah p.ins rfl ?_;wtm_at "a";refine IJ kw1 (by decide +kernel) kw2 ?_;wtm_at "a";refine GE kw1 (by decide +kernel) kw2 ?_;wtm_at "a";refine Dv ?_;wtm_at "a";refine Ah p.ins rfl ?_;wtm_at "a";refine C8 (d:=xyD) (by rcases k12 hi with z|z<;>rw[z]<;>rfl) ?_;refine AV (a:=()) (μ':=μ) rfl ?_;wtm_at "a";refine AV cE ?_;wtm_at "a";refine Cn (j:=0) (AAE rfl) (AAE rfl) (λk=>by simp[Cl,ClL]) (Af _) ?_;wtm_at "a";refine Mc g hr hi rfl rfl hp p λμ1 ch=>?_;exact⟨_,_,μ1,[],rfl,by simp,ch,FB _ AX _,ch,FB _ AX,q _ ch⟩
theorem Sv(g:Sg kd sz S)(hr:S.rs[i]?=some r)(hi:i<2)(hs:r.st=.at1 c)(ht:r.t=some l)(hx:r.x∈l)(p:PA w kd sz bg n [] [] μ)(q:∀μ1,Chg n μ μ1->QD (.tup [sD (DI S i { r with st:=.idle,y:=0,t:=none }),.non,.lst [.tup [.str "end",.str (rnm i),.int r.x]]]) μ1):WP (BQ w [.ref n,sD S,.tup [.int ((i+1:Nat):Int),.int pk]]) μ QD:=by
 have h3:=Jl g;have two:=g.two;have h1:=HZ (S:=S) hr;have hxs:=g.xs r (AAV hr);have hc:=g.ct r (AAV hr) c hs;obtain⟨st,x,y,t⟩:=r;dsimp only at hs ht hx hxs;subst hs ht;have tr:(S.rs.map (·.t))[i]?=some (some l):=by rw[AAW,hr];rfl
 have tl:(S.rs.map (·.t)).length<=1000:=by rw[AAG];omega
 have re:RfL [D.tup [.str "end",.str (rnm i),.int x]]:=AH (Ab (AH (BF _) (AH (BF _) (AH (Af _) AX)))) AX;refine IM (x:=x) (y:=y) (hf:=.non) rfl (.inr ⟨rfl,rfl⟩) (by omega) hr hi p ?_;rw[show rD ⟨.at1 c,x,y,some l⟩=.tup [.int 1,.non,.int 0,.int c,.tup [.int x,.int y]] from rfl] at h1;unfold Jq;refine BC (n:=n) rfl ?_;unfold NW;wtm_at "a";refine Aq h1 ?_;wtm_at "a";refine A3 rfl p.ins rfl ?_;wtm_at "a";refine Cy (.inr (.inr ⟨rfl,rfl⟩)) p ?_;wtm_at "a";refine Ah p.ins rfl ?_;wtm_at "a";refine Dv ?_;wtm_at "a";refine Ah p.ins rfl ?_;wtm_at "a";refine C8 (d:=xyD) (by rcases k12 hi with z|z<;>rw[z]<;>rfl) ?_;refine AV (a:=()) (μ':=μ) rfl ?_;wtm_at "a";refine AV dQ ?_;wtm_at "a";refine Cn (j:=1) (AAE rfl) (AAE rfl) (λk=>by simp[Cl,ClL]) (Af _) ?_;wtm_at "a";refine TF (k:=i+1) (a:=1+1) (nums':=.tup [.int x,.int 0]) (told:=.int x) (nm:=rnm i) (ev:=.tup [.str "end",.str (rnm i),.int x]) (cw':=S.cur) (cc':=ccm S.W) (ts':=(S.rs.map (·.t)).set i none) p (by rw[h3];omega) (by rw[h3];omega) (Dd _) (D5 S) (Af _) Hk Hk AX (by decide) ⟨rfl,AAm _⟩ (Af _) (Ab (AH (BF _) (AH (BF _) (AH (Af _) AX)))) (T1 hi) (.inr ⟨by omega,rfl⟩) aO (Gw (k12 hi) hxs (.inr ⟨rfl,rfl⟩) p ⟨rfl,rfl⟩) (λν=>YO tr hx tl ⟨rfl,rfl⟩) λμ1 ch=>?_;have e:=OY S i ⟨.idle,x,0,none⟩;rw[show rD ⟨.idle,x,0,none⟩=.tup [.int (-1),.non,.int 0,.int 0,.tup [.int x,.int 0]] from rfl] at e;rw[e];exact⟨_,_,μ1,[],rfl,by simp,ch,FB _ re _,ch,FB _ re,q _ ch⟩
end
def pkW:Ws->List Int
 | .idle=>BI 10
 |_=>[0]
def pkR:Rs->List Int
 | .half l=>l
 |_=>[0]
noncomputable def pks(S:Sd):List (Nat×Int):=(pkW S.W).map (λp=>(0,p))++(S.rs.zipIdx 1).flatMap λr=>(pkR r.1.st).map λp=>(r.2,p)
noncomputable def CL:Nat->Str
 |0 => "w"
 |1 => "r"
 |_ => "s"
noncomputable abbrev mvD(m:Nat×Int):D:=.tup [.int (m.1:Int),.int m.2]
noncomputable abbrev spD(m:Nat×Int):D:=.tup [.str (CL m.1),.int m.2]
section
variable{w:World}{μ:Mh}{QD:D->Mh->Prop}{kd:Str}{sz bg:Int}{n:Nat}{S:Sd}{l1 l2:List (D×D)}{r:Rd}
theorem Y6(p:PA w kd sz bg n l1 l2 μ)(q:QD (.tup ((pkW W).map D.int)) μ):WP (Cj w [.ref n,.int 0,wD W]) μ QD:=by
 unfold Cj;refine Ar rfl ?_;unfold F5;cases W with
 |idle=>
  rw[show wD .idle=.tup [.int (-1),.non,.int 0,.int 0,.tup []] from rfl];wtm_at "a";refine Dw rfl ?_;wtm_at "a";refine Ah p.ins rfl ?_;wtm_at "a";refine AV (a:=.tup ((BI 10).map D.int)) (μ':=μ) rfl ?_;exact⟨_,_,[],rfl,by simp,Ab (Bd _) _,q⟩
 |on v=>
  rw[show wD (.on v)=.tup [.int 0,.non,.int v,.int 0,.tup []] from rfl];wtm_at "a";refine Br (by decide) ?_;wtm_at "a";exact⟨_,_,[],rfl,by simp,Ab (Bd [0]) _,q⟩
 |mid v=>
  rw[show wD (.mid v)=.tup [.int 0,.tup [],.int v,.int 1,.tup []] from rfl];wtm_at "a";refine Br (by decide) ?_;wtm_at "a";refine A3 rfl p.ins rfl ?_;wtm_at "a";refine IL p ?_;wtm_at "a";exact⟨_,_,[],rfl,by simp,Ab (Bd [0]) _,q⟩
theorem S5(hk:k=1∨k=2)(p:PA w kd sz bg n l1 l2 μ)(q:QD (.tup ((pkR r.st).map D.int)) μ):WP (Cj w [.ref n,.int k,rD r]) μ QD:=by
 unfold Cj;refine Ar rfl ?_;unfold F5;obtain⟨st,x,y,t⟩:=r;cases st with
 |idle=>
  rw[show rD ⟨.idle,x,y,t⟩=.tup [.int (-1),.non,.int 0,.int 0,.tup [.int x,.int y]] from rfl];wtm_at "a";refine Dw rfl ?_;wtm_at "a";exact⟨_,_,[],rfl,by simp,Ab (Bd [0]) _,q⟩
 |at0=>
  rw[show rD ⟨.at0,x,y,t⟩=.tup [.int 0,.non,.int 0,.int 0,.tup [.int x,.int y]] from rfl];wtm_at "a";refine Br (by decide) ?_;wtm_at "a";exact⟨_,_,[],rfl,by simp,Ab (Bd [0]) _,q⟩
 |at1 c=>
  rw[show rD ⟨.at1 c,x,y,t⟩=.tup [.int 1,.non,.int 0,.int c,.tup [.int x,.int y]] from rfl];wtm_at "a";refine Br (by decide) ?_;wtm_at "a";exact⟨_,_,[],rfl,by simp,Ab (Bd [0]) _,q⟩
 |half l=>
  rw[show rD ⟨.half l,x,y,t⟩=.tup [.int 0,.tup (l.map D.int),.int 0,.int 1,.tup [.int x,.int y]] from rfl];wtm_at "a";refine Br (by decide) ?_;wtm_at "a";refine A3 rfl p.ins rfl ?_;wtm_at "a";refine LQ hk (.inl ⟨rfl,rfl⟩) p ?_;wtm_at "a";exact⟨_,_,[],rfl,by simp,Ab (Bd l) _,q⟩
theorem Ia{k:Nat}{ps:List Int}(hl:ds.length+ps.length<=1000)(q:∀o5,QS (.next,[s0,s1,some (.ref μ.length),some (.int (k:Int)),s4,o5]) (μ++[.lst (ds++ps.map λp=>mvD (k,p))])):
  WP (FO (AR 5) (D4 (BT Hb (AC 2) (AD (AJ As (AD (AC 3) (AD (AC 5) AN))) AN))) (ps.map D.int) [s0,s1,some (.ref μ.length),some (.int (k:Int)),s4,o5]) (μ++[.lst ds]) QS:=by
 refine LW (I:=λrest τ μ'=>∃(u v:List Int) (o5:Option D),u++v=ps/\rest=v.map D.int/\μ'=μ++[.lst (ds++u.map λp=>mvD (k,p))]/\τ=[s0,s1,some (.ref μ.length),some (.int (k:Int)),s4,o5]) ?_ ?_ ⟨[],ps,o5,rfl,rfl,by simp,rfl⟩
 ·rintro x xs τ μ' ⟨u,v,o5,huv,hr,rfl,rfl⟩;cases v with
  |nil=>cases hr
  |cons p v=>
   rw[AAX] at hr;obtain⟨e3,e4⟩:=List.cons.inj hr;subst e3;have ul:u.length<=ps.length:=by rw[←huv,AAH];omega
   wtm_at "d";refine GF rfl (by rw[AAH,AAG,sizeLine_eq];omega) ?_;wtm_at "d";refine⟨μ,_,rfl,rfl,rfl,A0 ⟨u++[p],v,_,by rw[←huv];simp,e4,?_,rfl⟩⟩;simp
 ·rintro τ μ' ⟨u,v,o5,huv,hr,rfl,rfl⟩;cases v with
  |cons p v=>cases hr
  |nil=>
   rw[AAb] at huv;subst huv;exact q _
theorem IS:pks ⟨W,[r1,r2],cur⟩=(pkW W).map (λp=>(0,p))++((pkR r1.st).map (λp=>(1,p))++(pkR r2.st).map (λp=>(2,p))):=by
 unfold pks;simp[List.zipIdx]
theorem QH(W:Ws):(pkW W).length<=10:=by
 cases W with
 |idle=>decide
 |_=>show 1<=10;omega
theorem T9:∀l:List (Nat×Int),RfL (l.map mvD)
 |[]=>AX
 |m::l=>by rw[AAX];exact AH (Ab (AH (Af _) (AH (Af _) AX))) (T9 l)
theorem Mb(g:Sg kd sz S)(p:PA w kd sz bg n l1 l2 μ)(q:QD (.lst ((pks S).map mvD)) μ):WP (DV w [.ref n,sD S]) μ QD:=by
 have pl:∀r∈S.rs,(pkR r.st).length<=100:=λr hr=>by
  cases h:r.st with
  |half l=>exact(g.hl r hr l h).2.1
  |_=>show 1<=100;omega
 obtain⟨W,rs,cur⟩:=S;have two:=g.two;dsimp only at two;obtain⟨r1,r2,rfl⟩:∃r1 r2,rs=[r1,r2]:=Il two;have w10:=QH W;have p1:=pl r1 (by simp);have p2:=pl r2 (by simp);rw[IS] at q;unfold DV;refine GG rfl ?_;unfold JV;wtm_at "d";(with_reducible apply K21.Ey);wtm_at "d";refine⟨_,rfl,?_⟩;refine BP ?_;(with_reducible apply Az);wtm_at "d";refine Y6 (W:=W) (p.app _) ?_;wtm_at "d";refine Ia (k:=0) (by rw[List.length_nil];omega) λo5=>?_;refine A0 (BP ?_);(with_reducible apply Az);wtm_at "d";refine S5 (.inl rfl) (p.app _) ?_;wtm_at "d";refine Ia (k:=1) (by rw[List.nil_append,AAG];omega) λo5=>?_;refine A0 (BP ?_);(with_reducible apply Az);wtm_at "d";refine S5 (.inr rfl) (p.app _) ?_;wtm_at "d";refine Ia (k:=2) (by rw[List.nil_append,AAH,AAG,AAG];omega) λo5=>?_;refine A0 (DH ?_);wtm_at "d";have e:([]++(pkW W).map (λp=>mvD (0,p))++(pkR r1.st).map (λp=>mvD (1,p))++(pkR r2.st).map λp=>mvD (2,p))=((pkW W).map (λp=>(0,p))++((pkR r1.st).map (λp=>(1,p))++(pkR r2.st).map (λp=>(2,p)))).map mvD:=by
  rw[AAY,AAY,List.map_map,List.map_map,List.map_map,List.nil_append,AAo];rfl
 rw[e];exact⟨_,_,_,rfl,T9 _ _,q,.inr ⟨μ.length,rfl,AAF _,Bn _⟩⟩
theorem Xm{k:Nat}(hk:k<3):atI [D.str "w",D.str "r",D.str "s"] (k:Int)=some (.str (CL k)):=by
 match k,hk with
 |0,_=>rfl
 |1,_=>rfl
 |2,_=>rfl
theorem US(two:S.rs.length=2)(h:m∈pks S):m.1<3:=by
 unfold pks at h;rcases AAK.mp h with z|z
 ·obtain⟨p,_,rfl⟩:=AAM.mp z;show 0<3;omega
 ·obtain⟨r,hr,z⟩:=List.mem_flatMap.mp z;obtain⟨p,_,rfl⟩:=AAM.mp z;have:=List.snd_lt_of_mem_zipIdx hr;show r.2<3;omega
theorem QG(g:Sg kd sz S):(pks S).length<=300:=by
 have pl:∀r∈S.rs,(pkR r.st).length<=100:=λr hr=>by
  cases h:r.st with
  |half l=>exact(g.hl r hr l h).2.1
  |_=>show 1<=100;omega
 obtain⟨W,rs,cur⟩:=S;have two:=g.two;dsimp only at two;obtain⟨r1,r2,rfl⟩:∃r1 r2,rs=[r1,r2]:=Il two;have w10:=QH W;have p1:=pl r1 (by simp);have p2:=pl r2 (by simp);rw[IS,AAH,AAH,AAG,AAG,AAG];omega
theorem T7:∀l:List (Nat×Int),RfL (l.map spD)
 |[]=>AX
 |m::l=>by rw[AAX];exact AH (Ab (AH (BF _) (AH (Af _) AX))) (T7 l)
theorem Sx(g:Sg kd sz S)(q:QD (.lst ((pks S).map spD)) μ):WP (EX w [mkD kd sz bg,sD S]) μ QD:=by
 have ln:=QG g;unfold EX;refine GG rfl ?_;unfold JU;wtm_at "d";refine LR ?_;wtm_at "d";refine Mb g Lu ?_;wtm_at "d";refine⟨by rw[AAG,sizeLine_eq];omega,?_⟩;refine Bs _ (λ_=>true) spD (λm hm=>?_) ?_
 ·(with_reducible apply Az);refine⟨rfl,?_⟩;wtm_at "d";refine⟨rfl,rfl,λ_=>?_⟩;wtm_at "d";refine Ah (Lu (w:=w)).ins rfl ?_;wtm_at "d";refine C8 (Xm (US g.two hm)) ?_;wtm_at "d";exact⟨rfl,rfl⟩
 rw[List.filter_eq_self.mpr λ_ _=>rfl];refine Bc (by rw[AAG,sizeLine_eq];omega) ?_;exact⟨_,_,_,rfl,T7 _ _,q,.inl rfl⟩
end
noncomputable abbrev S0(bg:Int):Sd:=⟨.idle,[⟨.idle,0,0,none⟩,⟨.idle,0,0,none⟩],bg⟩
section
variable{w:World}{μ:Mh}{QD:D->Mh->Prop}{kd:Str}{sz bg:Int}{n:Nat}{S:Sd}{l1 l2:List (D×D)}
theorem dG(q:QD (.tup []) μ):WP (F2 (.tup [x]) (.int 0)) μ QD:=⟨_,μ,rfl,q⟩
theorem aF(q:QD (.tup [x,x]) μ):WP (F2 (.tup [x]) (.int 2)) μ QD:=⟨_,μ,rfl,q⟩
theorem TM(q:QD (clD bg (-1) [none,none]) μ):WP (Cu w [mkD kd sz bg]) μ QD:=by
 unfold Cu;refine Ar rfl ?_;unfold Fp;wtm_at "a";refine aF ?_;wtm_at "a";exact⟨_,_,[],rfl,by simp,BL bg (-1) [none,none] _,q⟩
theorem TH(q:QD (sD (S0 bg)) μ):WP (Cr w [mkD kd sz bg]) μ QD:=by
 have rr:Rf (sD (S0 bg)):=Ab (AH (Ab (Dd _)) (AH (D5 _) (AH (BL _ _ _) AX)));unfold Cr;refine Ar rfl ?_;unfold Fm;wtm_at "a";refine LR ?_;have p:=Lu (w:=w) (kd:=kd) (sz:=sz) (bg:=bg) (μ:=μ);wtm_at "a";unfold Dq;refine Ar rfl ?_;unfold Fk;wtm_at "a";refine Ah p.ins rfl ?_;wtm_at "a";refine⟨by rw[sizeLine_eq];exact AAE rfl,?_⟩;refine Cz ?_;wtm_at "a";refine⟨rfl,?_⟩;wtm_at "a";refine K21.IN ?_;refine dG ?_;wtm_at "a";refine Cz ?_;wtm_at "a";refine⟨rfl,?_⟩;wtm_at "a";refine K21.IN ?_;refine aF ?_;wtm_at "a";refine Cz ?_;wtm_at "a";refine⟨rfl,?_⟩;wtm_at "a";refine K21.IN ?_;refine aF ?_;wtm_at "a";refine Ic ?_;refine Bc (by rw[sizeLine_eq];exact AAE rfl) ?_;wtm_at "a";refine Ah p.ins rfl ?_;wtm_at "a";refine⟨by rw[sizeLine_eq];exact AAE rfl,?_⟩;refine Cz ?_;wtm_at "a";refine⟨rfl,?_⟩;wtm_at "a";refine Cz ?_;wtm_at "a";refine⟨rfl,?_⟩;wtm_at "a";refine Ic ?_;refine Bc (by rw[sizeLine_eq];exact AAE rfl) ?_;wtm_at "a";refine Ah p.ins rfl ?_;wtm_at "a";refine TM ?_;wtm_at "a";refine⟨_,_,[],rfl,by simp,rr _,?_⟩;exact⟨_,_,_,rfl,rfl,rr _,q⟩
theorem TC(q:QD (.bl true) μ):WP (EZ w [.tup [a,b],.int 2,.int 2]) μ QD:=by
 unfold EZ;refine Ar rfl ?_;unfold JX;wtm_at "a";refine AV (a:=.bl true) (μ':=μ) rfl ?_;wtm_at "a";refine⟨rfl,?_⟩;wtm_at "a";exact⟨_,_,[],rfl,by simp,by simp[Cl],q⟩
theorem WR(hp:0<=p/\p<=9)(q:QD (.bl true) μ):WP (EY w [.int p,.int 0,.int 9]) μ QD:=by
 unfold EY;refine Ar rfl ?_;unfold JW;wtm_at "a";refine AV (a:=.bl true) (μ':=μ) rfl ?_;wtm_at "a";refine Se ?_;wtm_at "a";refine AV (a:=.bl false) (μ':=μ) rfl ?_;refine⟨false,rfl,?_⟩;refine KR ?_;wtm_at "a";refine⟨rfl,?_⟩;wtm_at "a";exact⟨_,_,[],rfl,by simp,by simp[Cl],q⟩
theorem U2:∀l:List (Nat×Int),KzL (l.map mvD)=true/\Bg (l.map mvD)<=1
 |[]=>⟨rfl,AAm _⟩
 |m::l=>by
  obtain⟨a,b⟩:=U2 l;rw[AAX];unfold KzL Bg;rw[a];refine⟨rfl,?_⟩;show max 1 _<=1;omega
theorem ZE(h1:Kz y=true)(h2:KzL ds=true)(h3:Bg ds<=8)(hm:y∈ds)(q:QD (.bl true) μ):WP (YE false y (.lst ds)) μ QD:=by
 refine AV (a:=.bl true) (μ':=μ) ?_ q;unfold YE;rw[Ap (show BU (.lst ds) μ=some (ds,μ) from rfl)];rw[if_pos ⟨h1,h2,h3⟩];have:(ds.any λz=>decide (z=y))=true:=List.any_eq_true.mpr ⟨y,hm,AAP rfl⟩;rw[this];rfl
theorem Q9(g:Sg kd sz S)(hm:(k,p)∈pks S)(hp:0<=p/\p<=9)(pa:PA w kd sz bg n l1 l2 μ)(q:QD (mvD (k,p)) μ):WP (FV w [.ref n,sD S,spD (k,p)]) μ QD:=by
 have hk:k<3:=US g.two hm;obtain⟨z1,z2⟩:=U2 (pks S);have e1:KH true (.str (CL k)) Xl μ=some (.bl false,μ):=by match k,hk with|0,_=>rfl|1,_=>rfl|2,_=>rfl
 have e2:K5 Xl [.str (CL k)] μ=some (.int (k:Int),μ):=by match k,hk with|0,_=>rfl|1,_=>rfl|2,_=>rfl
 unfold FV;refine Ar rfl ?_;unfold Kt;wtm_at "a";refine TC ?_;wtm_at "a";refine PY ?_;wtm_at "a";refine Ah pa.ins rfl ?_;refine AV e1 ?_;wtm_at "a";refine WR hp ?_;wtm_at "a";refine EF ?_;wtm_at "a";refine Dv ?_;wtm_at "a";refine Ah pa.ins rfl ?_;refine AV (a:=()) (μ':=μ) rfl ?_;wtm_at "a";refine AV e2 ?_;wtm_at "a";refine Mb g pa ?_;refine ZE (y:=mvD (k,p)) rfl z1 (by omega) (AAM.mpr ⟨_,hm,rfl⟩) ?_;wtm_at "a";exact⟨_,_,[],rfl,by simp,Ab (AH (Af _) (AH (Af _) AX)) _,q⟩
theorem Bh(g:Sg kd sz S)(hm:(k,p)∈pks S)(hp:0<=p/\p<=9)(re:RfL evs)
  (h:∀ν,PA w kd sz bg μ.length [] [] ν->WP (BQ w [.ref μ.length,sD S,mvD (k,p)]) ν λd μ1=>Chg μ.length ν μ1/\d=.tup [sD S',.non,.lst evs]) (q:QD (.tup [sD S',.non,.lst evs]) μ):WP (BN w [mkD kd sz bg,sD S,spD (k,p)]) μ QD:=by
 have pa:=Lu (w:=w) (kd:=kd) (sz:=sz) (bg:=bg) (μ:=μ);unfold BN;refine Ar rfl ?_;unfold Ks;wtm_at "a";refine LR ?_;wtm_at "a";refine Q9 g hm hp pa ?_;wtm_at "a";refine AU (h _ pa) λd μ1 ⟨ch,e⟩=>?_;subst e;obtain⟨μ2,gs,rfl,c2⟩:=ch.cut;have e:μ2=μ:=List.ext_getElem? λj=>by
  by_cases hj:j<μ.length
  ·exact c2.low j hj
  ·rw[List.getElem?_eq_none (by rw[c2.len];omega),List.getElem?_eq_none (by omega)]
 subst e;exact⟨_,_,gs,rfl,rfl,FB _ re _,q⟩
end
abbrev Pt:=Int×Int×Option Int
def oD:Option Int->D
 |none=>.non
 |some e=>.int e
abbrev ptD(p:Pt):D:=.tup [.int p.1,.int p.2.1,oD p.2.2]
def Cf(b:Int)(p:Pt):Bool:=match p.2.2 with
 |none=>false
 |some e=>decide (e<b)
def De(b:Int)(s:Int×List Int)(p:Pt):Int×List Int:=if Cf b p then (p.1,s.2) else (s.1,s.2++[p.1])
noncomputable def Dg(bg:Int)(l:List Pt):Int:=(l.map (·.1)).getLastD bg
noncomputable def FQ(kd:Str)(sz last:Int)(bs:List Int):List Int:=if (kd==("safe" : Str))&&!bs.isEmpty then BI sz.toNat else srt (last::bs)
theorem Kr:∀{A:List Pt} {s:Int×List Int},(∀p∈A,Cf b p=true)->A.foldl (De b) s=((A.map (·.1)).getLastD s.1,s.2)
 |[],s,_=>rfl
 |p::A,s,h=>by
  rw[List.foldl_cons,Kr λx hx=>h x (AAR _ hx)];unfold De;rw[if_pos (h p AAQ)];cases A with
  |nil=>rfl
  |cons q A=>simp[List.getLastD]
theorem NU:∀{B:List Pt} {s:Int×List Int},(∀p∈B,Cf b p=false)->B.foldl (De b) s=(s.1,s.2++B.map (·.1))
 |[],s,_=>by simp
 |p::B,s,h=>by
  rw[List.foldl_cons,NU λx hx=>h x (AAR _ hx)];unfold De;rw[if_neg (by rw[h p AAQ];exact AAi)];simp
theorem Xp(ha:∀p∈A,Cf b p=true)(hb:∀p∈B,Cf b p=false):(A++B).foldl (De b) (bg,[])=(Dg bg A,B.map (·.1)):=by
 rw[List.foldl_append,Kr ha,NU hb];rfl
theorem Qn(x:Int):∀ys:List Int,(HP x ys).length<=ys.length+1
 |[]=>by simp[HP]
 |y::ys=>by
  have:=Qn x ys;unfold HP;split
  ·simp
  ·split
   ·simp
   ·simp;omega
theorem Wm(xs:List Int):(srt xs).length<=xs.length:=by
 unfold srt
 induction xs with
 |nil=>simp
 |cons x xs ih=>
  rw[List.foldr_cons,AAI];have:=Qn x (xs.foldr HP []);omega
theorem nats_mem:x∈BI n↔0<=x/\x<n:=by
 unfold BI;rw[AAM];constructor
 ·rintro⟨a,ha,rfl⟩;have:=List.mem_range.mp ha;exact⟨Int.natCast_nonneg a,by show (a:Int)<n;omega⟩
 ·rintro⟨h1,h2⟩;exact⟨x.toNat,List.mem_range.mpr (by omega),by show ((x.toNat:Nat):Int)=x;omega⟩
theorem NQ(n:Nat):(BI n).length=n:=by unfold BI;simp
theorem Nu:bsK kd sz (FQ kd sz last bs) v=FQ kd sz last (bs++[v]):=by
 unfold bsK FQ;cases kd==("safe" : Str) with
 |true=>
  rw[if_pos rfl,if_pos (by simp)]
 |false=>
  simp only[Bool.false_and,Bool.false_eq_true,if_false];refine Lm (Iu _) (Iu _) λk=>?_;rw[GI,GI,AAK,GI];simp only[AAJ,AAK,List.not_mem_nil,or_false];exact or_assoc
theorem Qt:FQ kd sz last []=[last]:=by
 unfold FQ;simp[srt,HP]
theorem LE(h0:0<=sz)(h10:sz<=10)(hl:0<=last/\last<sz)(hb:∀x∈bs,0<=x/\x<sz)(hn:bs.length<=50):(FQ kd sz last bs).length<=100/\∀x∈FQ kd sz last bs,0<=x/\x<sz:=by
 unfold FQ;split
 ·refine⟨by rw[NQ];omega,λx hx=>?_⟩;have:=nats_mem.mp hx;omega
 ·refine⟨by have:=Wm (last::bs);rw[AAI] at this;omega,λx hx=>?_⟩;rcases AAJ.mp ((GI _ _).mp hx) with z|z
  ·rw[z];exact hl
  ·exact hb x z
theorem QX:Fy kd sz S=FQ kd sz S.cur (if com S.W=-1 then [] else [com S.W]):=by
 unfold Fy;by_cases h:com S.W=-1
 ·rw[if_pos h,if_pos h,Qt]
 ·rw[if_neg h,if_neg h];have:=Nu (kd:=kd) (sz:=sz) (last:=S.cur) (v:=com S.W) (bs:=[]);rw[Qt] at this;exact this
theorem Ib(I:List D->List D->Sl->Mh->Prop)(hn:∀u v τ μ,I u v τ μ->μ[n]?=some (.lst (u++v)))(step:∀u x v τ μ,I u (x::v) τ μ->WP (bf x τ) μ λτ1 μ1=>WP (mb τ1) μ1 (Ky (I (u++[x]) v) QS))(fin:∀u τ μ,I u [] τ μ->QS (.next,τ) μ):
  ∀(f:Nat) {u v:List D} {τ:Sl} {μ:Mh},v.length<f->I u v τ μ->WP (IG n bf mb f u.length τ) μ QS
 |0,u,v,τ,μ,h,_=>absurd h (Nat.not_lt_zero _)
 |f+1,u,[],τ,μ,h,i=>by
  refine AV (a:=(.next,τ)) (μ':=μ) ?_ (fin u τ μ i);unfold IG;rw[hn _ _ _ _ i];dsimp only;rw[AAb,List.getElem?_eq_none (AAF _)]
 |f+1,u,x::v,τ,μ,h,i=>by
  have hs:=step u x v τ μ i;obtain⟨r,μ',e,q⟩:=AT (f:=λτ1=>bnd (mb τ1) λr=>match r.1 with | .next=>IG n bf mb f (u.length+1) r.2 | .cont=>IG n bf mb f (u.length+1) r.2 | .brk=>ret (.next,r.2) | .rt d=>ret (.rt d,r.2)) (R:=QS) (AU hs λτ1 μ1 z=>AT (AU z λr μ2 z=>by
   obtain⟨fl,τ2⟩:=r;have len:(u++[x]).length=u.length+1:=by simp
   rw[AAI] at h;cases fl
   ·have:=Ib I hn step fin f (by omega) z;rw[len] at this;exact this
   ·exact BA z
   ·have:=Ib I hn step fin f (by omega) z;rw[len] at this;exact this
   ·exact BA z))
  refine⟨r,μ',?_,q⟩;unfold IG;rw[hn _ _ _ _ i];dsimp only;rw[AAS (AAF _),AA3];exact e
def b9(μ:Mh)(kd:Str)(sz bg b:Int)(m:Nat)(P:List Pt)(u v:List D)(τ:Sl)(μ':Mh):Prop:=∃(A B:List Pt) (l0:Int) (b0:List Int) (o7 o8 o9:Option D),A++B=P/\u=A.map ptD/\v=B.map ptD/\A.foldl (De b) (bg,[])=(l0,b0)/\(∀x∈b0,0<=x/\x<10)/\(0<=l0/\l0<10)/\b0.length<=A.length/\μ'=μ++[.lst (b0.map D.int)]/\τ=[some (.int sz),some (.str kd),some (.int bg),some (.ref m),some (.int b),some (.int l0),some (.ref μ.length),o7,o8,o9]
section
variable{w:World}{μ:Mh}{QD:D->Mh->Prop}{kd:Str}{sz bg:Int}
theorem ZB{b:Int}{P:List Pt}(hk:kd = "safe" ∨ kd = "steady")(h0:0<=sz)(h10:sz<=10)(hm:μ[m]?=some (.lst (P.map ptD)))(hP:P.length<=40)(hW:∀p∈P,0<=p.1/\p.1<10)(hbg:0<=bg/\bg<10)(hf:P.foldl (De b) (bg,[])=(last,bs))(q:QD (.lst ((FQ kd sz last bs).map D.int)) μ):WP (Jr w [.int sz,.str kd,.int bg,.ref m,.int b]) μ QD:=by
 have kw:PyData.strOk kd=true:=by rcases hk with rfl|rfl<;>decide +kernel
 have hm':∀gs:Mh,(μ++gs)[m]?=some (.lst (P.map ptD)):=λgs=>by
  rw[AAT (AAU.mp hm).1];exact hm
 unfold Jr;refine Ar rfl ?_;unfold Uw;wtm_at "a";unfold Tu;refine AT (Co rfl ?_);refine Ib (I:=b9 μ kd sz bg b m P) ?_ ?_ ?_ 1000 (u:=[]) (v:=P.map ptD) (by rw[AAG];omega) ⟨[],P,bg,[],none,none,none,rfl,rfl,rfl,rfl,(λx hx=>nomatch hx),hbg,AAF _,rfl,rfl⟩
 ·rintro u v τ μ' ⟨A,B,l0,b0,o7,o8,o9,hab,rfl,rfl,_,_,_,_,rfl,rfl⟩;rw[hm' _,←AAY,hab]
 ·rintro u x v τ μ' ⟨A,B,l0,b0,o7,o8,o9,hab,rfl,hv,hfo,h1,h2,h3,rfl,rfl⟩;cases B with
  |nil=>cases hv
  |cons p B=>
   rw[AAX] at hv;obtain⟨e3,e4⟩:=List.cons.inj hv;subst e3;have hp:=hW p (by rw[←hab];simp);have al:A.length<=40:=by rw[←hab,AAH] at hP;omega
   have fe:(A++[p]).foldl (De b) (bg,[])=De b (l0,b0) p:=by rw[List.foldl_append,hfo];rfl
   have abp:A++[p]++B=P:=by rw[←hab];simp
   have am:A.map ptD++[ptD p]=(A++[p]).map ptD:=by simp
   (with_reducible apply CC);have late:∀{s9:Option D} {QS:Fl×Sl->Mh->Prop},Cf b p=false->WP (BT Hb (AC 6) (AD (AC 7) AN) [some (.int sz),some (.str kd),some (.int bg),some (.ref m),some (.int b),some (.int l0),some (.ref μ.length),some (.int p.1),some (.int p.2.1),s9]) (μ++[.lst (b0.map D.int)]) λ_ μ1=>Ky (b9 μ kd sz bg b m P (A.map ptD++[ptD p]) v) QS (.next,[some (.int sz),some (.str kd),some (.int bg),some (.ref m),some (.int b),some (.int l0),some (.ref μ.length),some (.int p.1),some (.int p.2.1),s9]) μ1:=λ{s9 QS} he=>by
    refine GF rfl (by rw[AAG,sizeLine_eq];omega) ?_;wtm_at "d";have fe2:(A++[p]).foldl (De b) (bg,[])=(l0,b0++[p.1]):=by rw[fe];unfold De;rw[if_neg (by rw[he];exact AAi)]
    refine⟨μ,_,rfl,rfl,rfl,A0 ⟨A++[p],B,l0,b0++[p.1],_,_,_,abp,am,e4,fe2,?_,h2,?_,by simp,rfl⟩⟩
    ·intro x hx;rcases AAK.mp hx with z|z
     ·exact h1 x z
     ·rw[AAL.mp z];exact hp
    ·rw[AAH,AAH];show b0.length+1<=A.length+1;omega
   cases hen:p.2.2 with
   |none=>
    unfold oD;wtm_at "a";exact late (by unfold Cf;rw[hen])
   |some e=>
    unfold oD;by_cases hl:e<b
    ·have fe2:(A++[p]).foldl (De b) (bg,[])=(p.1,b0):=by rw[fe];unfold De;rw[if_pos (by unfold Cf;rw[hen];exact AAP hl)]
     wtm_at "a";refine A0 ⟨A++[p],B,p.1,b0,_,_,_,abp,am,e4,fe2,h1,hp,?_,rfl,rfl⟩;rw[AAH];omega
    ·wtm_at "a";exact late (by unfold Cf;rw[hen];exact AAO hl)
 ·rintro u τ μ' ⟨A,B,l0,b0,o7,o8,o9,hab,rfl,hv,hfo,h1,h2,h3,rfl,rfl⟩;cases B with
  |cons p B=>cases hv
  |nil=>
   rw[AAb] at hab;subst hab;rw[hf] at hfo;cases hfo;have pzb:PzL (bs.map D.int):=IR bs;have dzb:HV (bs.map D.int)<=60:=by rw[Gf];omega
   have rest:(kd==("safe" : Str))=false∨bs=[]->WP (Am (mUn CV (mOp Lp (AJ BM (AD (AC 5) AN)) (AC 6))) [some (.int sz),some (.str kd),some (.int bg),some (.ref m),some (.int b),some (.int last),some (.ref μ.length),o7,o8,o9]) (μ++[.lst (bs.map D.int)]) λr μ2=>∃d τ2 gs,r=(Fl.rt d,τ2)/\μ2=μ++gs/\Cl μ.length d/\QD d μ:=λhz=>by
    have e:FQ kd sz last bs=srt (last::bs):=by
     unfold FQ;rcases hz with z|z
     ·rw[z];rfl
     ·rw[z];simp
    rw[e] at q;wtm_at "a";refine AV (a:=.lst ((last::bs).map D.int)) (μ':=μ++[.lst (bs.map D.int)]) ?_ ?_
    ·show (match (μ++[MO.lst (bs.map D.int)])[μ.length]? with|some (.lst b)=>BM ([D.int last]++b) (μ++[MO.lst (bs.map D.int)])|_=>none)=_;rw[Bn];show BM (D.int last::bs.map D.int) _=_;rw[K13.Xo (by rw[AAI,AAG,sizeLine_eq];omega)];rfl
    refine AV (K13.Xw (K13.Iw λx hx=>?_)) ?_
    ·rcases AAJ.mp hx with z|z
     ·rw[z];exact h2
     ·exact h1 x z
    exact⟨_,_,_,rfl,rfl,Dk (Bd _) _,q⟩
   refine Ez ?_;(with_reducible apply OJ);(with_reducible apply YY);(with_reducible apply TQ);(with_reducible apply LP);(with_reducible apply S6);refine Co rfl ?_;(with_reducible apply aw);refine LU kw (by decide +kernel) ?_;(with_reducible apply Ig);cases hks:(kd==("safe" : Str)) with
   |false=>
    (with_reducible apply MY);(with_reducible apply EF);(with_reducible apply OL);(with_reducible apply Ez);exact rest (.inl hks)
   |true=>
    wtm_at "a";refine K21.Q8 (Bn _) pzb dzb ?_;cases bs with
    |nil=>
     rw[show (!(([]:List Int).map D.int).isEmpty)=false from rfl];(with_reducible apply Ig);(with_reducible apply EF);(with_reducible apply OL);(with_reducible apply Ez);exact rest (.inr rfl)
    |cons x bs=>
     rw[show (!((x::bs).map D.int).isEmpty)=true from rfl];have e:FQ kd sz last (x::bs)=BI sz.toNat:=by unfold FQ;rw[hks];rfl
     rw[e] at q;wtm_at "a";refine AV (a:=.lst ((BI sz.toNat).map D.int)) (μ':=μ++[.lst ((x::bs).map D.int)]) ?_ ?_
     ·show (if 0<=sz/\sz<=1000 then some (D.lst (QW sz.toNat),_) else none)=_;rw[if_pos ⟨h0,by omega⟩];rfl
     exact⟨_,_,_,rfl,rfl,Dk (Bd _) _,q⟩
end
def Tl(S:Sd)(r:Rd):Prop:=(r.st=.idle->r.t=none)/\(r.st≠.idle->∃l,r.t=some l/\(l=BI 10∨(l=[S.cur]/\S.W=.idle/\(∀m,r.st=.half m->m=[S.cur])/\∀c,r.st=.at1 c->r.x=S.cur)))
noncomputable def O2(P:List Pt):List Pt:=P.filter λp=>p.2.2.isSome
structure Iv(kd:Str)(sz bg T:Int)(S:Sd)(P:List Pt)(bs:List (Option Int)):Prop where
 g:Sg kd sz S
 bgs:0<=bg/\bg<sz
 b2:bs.length=2
 pw:∀p∈P,0<=p.1/\p.1<sz
 pt:∀p∈P,∀e,p.2.2=some e->e<T
 pl:(P.length:Int)<=T
 mid:∀v,S.W=.mid v->∃A s,P=A++[(v,s,none)]/\∀p∈A,p.2.2.isSome=true
 all:(∀v,S.W≠.mid v)->∀p∈P,p.2.2.isSome=true
 cur:S.cur=Dg bg (O2 P)
 tl:∀r∈S.rs,Tl S r
 hf:∀(i:Nat) (r:Rd) (l:List Int),S.rs[i]?=some r->r.st=.half l->∃b A B,bs[i]?=some (some b)/\b<T/\P=A++B/\(∀p∈A,Cf b p=true)/\(∀p∈B,Cf b p=false)/\l=FQ kd sz (Dg bg A) (B.map (·.1))
section
variable{kd:Str}{sz bg T:Int}{S:Sd}{P:List Pt}{bs:List (Option Int)}{i:Nat}{r:Rd}
theorem Lc(hW:W≠.idle)(h:Tl ⟨W,rs,cur⟩ r)(hs:r.st≠.idle):r.t=some (BI 10):=by
 obtain⟨l,e,z|⟨_,z,_⟩⟩:=h.2 hs
 ·rw[e,z]
 ·exact absurd z hW
theorem Ur:(BI 10).length<=100/\∀x∈BI 10,0<=x/\x<10:=by
 refine⟨by rw[NQ];omega,λx hx=>?_⟩;have:=nats_mem.mp hx;omega
theorem Gd(h:∀p∈P,p.2.2.isSome=true):O2 P=P:=List.filter_eq_self.mpr h
theorem Gc:O2 (A++[p])=O2 A++if p.2.2.isSome then [p] else []:=by
 unfold O2;rw[List.filter_append];congr 1;cases h:p.2.2.isSome<;>simp[h]
theorem HI:Dg bg (A++[p])=p.1:=by
 unfold Dg;rw[AAY];simp
theorem X5(iv:Iv kd sz bg T S P bs)(hW:S.W=.idle)(hv:0<=v/\v<sz):Iv kd sz bg (T+1) (JH S v) P bs:=by
 have g:=iv.g;have mem:∀r'∈(JH S v).rs,∃r∈S.rs,r'={ r with t:=r.t.map λ_=>BI 10 }:=λr' h=>by
  obtain⟨r,hr,e⟩:=AAM.mp h;exact⟨r,hr,e.symm⟩
 refine⟨⟨g.kd3,g.s2,g.s10,by show (S.rs.map _).length=2;rw[AAG];exact g.two,g.cur,λv' h=>?_,λv' h=>?_,λr' h=>?_,λr' h l e=>?_,λr' h l e=>?_,λr' h c e=>?_⟩,iv.bgs,iv.b2,iv.pw,λp hp e he=>by have:=iv.pt p hp e he;omega,by have:=iv.pl;omega,λv' h=>?_,(λ_=>iv.all λv' h=>by rw[hW] at h;cases h),iv.cur,λr' h=>?_,λi r' l h e=>?_⟩
 ·rcases h with h|h
  ·cases h;exact hv
  ·cases h
 ·cases h
 ·obtain⟨r,hr,rfl⟩:=mem r' h;exact g.xs r hr
 ·obtain⟨r,hr,rfl⟩:=mem r' h;cases ht:r.t with
  |none=>rw[show ({ r with t:=r.t.map λ_=>BI 10 }:Rd).t=r.t.map λ_=>BI 10 from rfl,ht] at e;cases e
  |some m=>rw[show ({ r with t:=r.t.map λ_=>BI 10 }:Rd).t=r.t.map λ_=>BI 10 from rfl,ht] at e;cases e;exact Ur
 ·obtain⟨r,hr,rfl⟩:=mem r' h;exact g.hl r hr l e
 ·obtain⟨r,hr,rfl⟩:=mem r' h;exact g.ct r hr c e
 ·cases h
 ·obtain⟨r,hr,rfl⟩:=mem r' h;have t:=iv.tl r hr;refine⟨λz=>?_,λz=>?_⟩
  ·show r.t.map _=none;rw[t.1 z];rfl
  ·obtain⟨l,e,_⟩:=t.2 z;exact⟨BI 10,by show r.t.map _=_;rw[e];rfl,.inl rfl⟩
 ·have h':(S.rs.map λr=>({ r with t:=r.t.map λ_=>BI 10 }:Rd))[i]?=some r':=h;rw[AAW] at h';cases hr:S.rs[i]? with
  |none=>rw[hr] at h';cases h'
  |some r=>
   rw[hr] at h';cases h';obtain⟨b,A,B,c1,c2,c3,c4,c5,c6⟩:=iv.hf i r l hr e;exact⟨b,A,B,c1,by omega,c3,c4,c5,c6⟩
theorem aQ(iv:Iv kd sz bg T S P bs)(hW:S.W=.on v)(hk:kd = "whole"):Iv kd sz bg (T+1) (FA S v) (P++[(v,T,some T)]) bs:=by
 have g:=iv.g;have hv:=g.wor v (.inl hW);have hall:=iv.all λv' h=>by rw[hW] at h;cases h
 refine⟨⟨g.kd3,g.s2,g.s10,g.two,hv,(λv' h=>by rcases h with h|h<;>cases h),(λv' h=>by cases h),g.xs,g.tl,g.hl,g.ct⟩,iv.bgs,iv.b2,λp hp=>?_,λp hp e he=>?_,?_,(λv' h=>by cases h),λ_ p hp=>?_,?_,λr hr=>?_,λi r l h e=>?_⟩
 ·rcases AAK.mp hp with z|z
  ·exact iv.pw p z
  ·rw[AAL.mp z];exact hv
 ·rcases AAK.mp hp with z|z
  ·have:=iv.pt p z e he;omega
  ·rw[AAL.mp z] at he;cases he;omega
 ·rw[AAH];have:=iv.pl;show ((P.length+1:Nat):Int)<=T+1;omega
 ·rcases AAK.mp hp with z|z
  ·exact hall p z
  ·rw[AAL.mp z];rfl
 ·show v=_;rw[Gc];exact(HI (p:=(v,T,some T))).symm
 ·have t:=iv.tl r hr;refine⟨t.1,λz=>⟨BI 10,?_,.inl rfl⟩⟩;obtain⟨W,rs,cur⟩:=S;exact Lc (by rw[show W=.on v from hW];exact λz=>nomatch z) t z
 ·exact absurd hk (g.hl r (AAV h) l e).1
theorem DL:((GR kd sz v r).st=.idle↔r.st=.idle)/\(GR kd sz v r).x=r.x/\(GR kd sz v r).t=r.t/\(∀c,(GR kd sz v r).st=.at1 c↔r.st=.at1 c)/\∀m,(GR kd sz v r).st=.half m↔∃l,r.st=.half l/\m=bsK kd sz l v:=by
 obtain⟨st,x,y,t⟩:=r;cases st with
 |half l=>
  refine⟨⟨(λz=>nomatch z),(λz=>nomatch z)⟩,rfl,rfl,λc=>⟨(λz=>nomatch z),(λz=>nomatch z)⟩,λm=>⟨λz=>⟨l,rfl,?_⟩,?_⟩⟩
  ·cases z;rfl
  ·rintro⟨l',e,rfl⟩;cases e;rfl
 |idle=>exact⟨Iff.rfl,rfl,rfl,λc=>Iff.rfl,λm=>⟨(λz=>nomatch z),(λ⟨l,e,_⟩=>nomatch e)⟩⟩
 |at0=>exact⟨Iff.rfl,rfl,rfl,λc=>Iff.rfl,λm=>⟨(λz=>nomatch z),(λ⟨l,e,_⟩=>nomatch e)⟩⟩
 |at1 c=>exact⟨Iff.rfl,rfl,rfl,λc=>Iff.rfl,λm=>⟨(λz=>nomatch z),(λ⟨l,e,_⟩=>nomatch e)⟩⟩
theorem Uz(hb:0<=bg/\bg<sz)(h:∀p∈A,0<=p.1/\p.1<sz):0<=Dg bg A/\Dg bg A<sz:=by
 unfold Dg;rcases List.eq_nil_or_concat A with rfl|⟨A',p,rfl⟩
 ·exact hb
 ·rw[List.concat_eq_append,AAY];simp;exact h p (by simp)
theorem aR(iv:Iv kd sz bg T S P bs)(hW:S.W=.on v)(hk:kd ≠ "whole")(hT:T<=40):Iv kd sz bg (T+1) (JG kd sz S v) (P++[(v,T,none)]) bs:=by
 have g:=iv.g;have hv:=g.wor v (.inl hW);have hall:=iv.all λv' h=>by rw[hW] at h;cases h
 have s2:=g.s2;have s10:=g.s10;have pl:=iv.pl;have mem:∀r'∈(JG kd sz S v).rs,∃r∈S.rs,r'=GR kd sz v r:=λr' h=>by
  obtain⟨r,hr,e⟩:=AAM.mp h;exact⟨r,hr,e.symm⟩
 have pw':∀p∈P++[(v,T,none)],0<=p.1/\p.1<sz:=λp hp=>by
  rcases AAK.mp hp with z|z
  ·exact iv.pw p z
  ·rw[AAL.mp z];exact hv
 have hf':∀(i:Nat) (r:Rd) (l:List Int),S.rs[i]?=some r->r.st=.half l->∃b A B,bs[i]?=some (some b)/\b<T+1/\P++[(v,T,none)]=A++B/\(∀p∈A,Cf b p=true)/\(∀p∈B,Cf b p=false)/\bsK kd sz l v=FQ kd sz (Dg bg A) (B.map (·.1)):=λi r l h e=>by
  obtain⟨b,A,B,c1,c2,c3,c4,c5,c6⟩:=iv.hf i r l h e;refine⟨b,A,B++[(v,T,none)],c1,by omega,by rw[c3];simp,c4,λp hp=>?_,?_⟩
  ·rcases AAK.mp hp with z|z
   ·exact c5 p z
   ·rw[AAL.mp z];rfl
  ·rw[c6,Nu,AAY];rfl
 refine⟨⟨g.kd3,g.s2,g.s10,by show (S.rs.map _).length=2;rw[AAG];exact g.two,g.cur,λv' h=>?_,λv' h=>hk,λr' h=>?_,λr' h l e=>?_,λr' h l e=>?_,λr' h c e=>?_⟩,iv.bgs,iv.b2,pw',λp hp e he=>?_,?_,λv' h=>?_,λh=>absurd rfl (h v),?_,λr' h=>?_,λi r' l h e=>?_⟩
 ·rcases h with h|h
  ·cases h
  ·cases h;exact hv
 ·obtain⟨r,hr,rfl⟩:=mem r' h;rw[DL.2.1];exact g.xs r hr
 ·obtain⟨r,hr,rfl⟩:=mem r' h;rw[DL.2.2.1] at e;exact g.tl r hr l e
 ·obtain⟨r,hr,rfl⟩:=mem r' h;obtain⟨m,e1,rfl⟩:=(DL.2.2.2.2 l).mp e;obtain⟨j,hj⟩:=List.mem_iff_getElem?.mp hr;obtain⟨b,A,B,_,_,c3,_,_,c6⟩:=hf' j r m hj e1;rw[c6];have c3l:=congrArg List.length c3;rw[AAH,AAH] at c3l;have c3l':P.length+1=A.length+B.length:=c3l;refine⟨hk,LE (by omega) s10 (Uz iv.bgs λp hp=>pw' p (by rw[c3];simp[hp])) (λx hx=>?_) (by rw[AAG];omega)⟩;obtain⟨p,hp,rfl⟩:=AAM.mp hx;exact pw' p (by rw[c3];simp[hp])
 ·obtain⟨r,hr,rfl⟩:=mem r' h;exact g.ct r hr c ((DL.2.2.2.1 c).mp e)
 ·rcases AAK.mp hp with z|z
  ·have:=iv.pt p z e he;omega
  ·rw[AAL.mp z] at he;cases he
 ·rw[AAH];show ((P.length+1:Nat):Int)<=T+1;omega
 ·cases h;exact⟨P,T,rfl,hall⟩
 ·show S.cur=_;rw[Gc];show S.cur=Dg bg (O2 P++[]);rw[AAb];exact iv.cur
 ·obtain⟨r,hr,rfl⟩:=mem r' h;have t:=iv.tl r hr;refine⟨λz=>?_,λz=>⟨BI 10,?_,.inl rfl⟩⟩
  ·rw[DL.2.2.1];exact t.1 (DL.1.mp z)
  ·rw[DL.2.2.1];obtain⟨W,rs,cur⟩:=S;exact Lc (by rw[show W=.on v from hW];exact λz=>nomatch z) t λy=>z (DL.1.mpr y)
 ·have h':(S.rs.map (GR kd sz v))[i]?=some r':=h;rw[AAW] at h';cases hr:S.rs[i]? with
  |none=>rw[hr] at h';cases h'
  |some r=>
   rw[hr] at h';cases h';obtain⟨m,e1,rfl⟩:=(DL.2.2.2.2 l).mp e;exact hf' i r m hr e1
theorem X1(iv:Iv kd sz bg T S P bs)(hW:S.W=.mid v):∃A s,P=A++[(v,s,none)]/\Iv kd sz bg (T+1) (FA S v) (A++[(v,s,some T)]) bs:=by
 have g:=iv.g;have hv:=g.wor v (.inr hW);obtain⟨A,s,hP,hA⟩:=iv.mid v hW;refine⟨A,s,hP,⟨g.kd3,g.s2,g.s10,g.two,hv,(λv' h=>by rcases h with h|h<;>cases h),(λv' h=>by cases h),g.xs,g.tl,g.hl,g.ct⟩,iv.bgs,iv.b2,λp hp=>?_,λp hp e he=>?_,?_,(λv' h=>by cases h),λ_ p hp=>?_,?_,λr hr=>?_,λi r l h e=>?_⟩
 ·rcases AAK.mp hp with z|z
  ·exact iv.pw p (by rw[hP];simp[z])
  ·rw[AAL.mp z];exact hv
 ·rcases AAK.mp hp with z|z
  ·have:=iv.pt p (by rw[hP];simp[z]) e he;omega
  ·rw[AAL.mp z] at he;cases he;omega
 ·have:=iv.pl;rw[hP,AAH] at this;rw[AAH];have:((A.length+1:Nat):Int)<=T:=this;show ((A.length+1:Nat):Int)<=T+1;omega
 ·rcases AAK.mp hp with z|z
  ·exact hA p z
  ·rw[AAL.mp z];rfl
 ·show v=_;rw[Gc];exact(HI (p:=(v,s,some T))).symm
 ·have t:=iv.tl r hr;refine⟨t.1,λz=>⟨BI 10,?_,.inl rfl⟩⟩;obtain⟨W,rs,cur⟩:=S;exact Lc (by rw[show W=.mid v from hW];exact λz=>nomatch z) t z
 ·obtain⟨b,A1,B1,c1,c2,c3,c4,c5,c6⟩:=iv.hf i r l h e;rcases List.eq_nil_or_concat B1 with rfl|⟨B0,p,rfl⟩
  ·have:(v,s,none)∈A1:=by
    rw[AAb] at c3;rw[←c3,hP];simp
   have:=c4 _ this;cases this
  ·rw[List.concat_eq_append] at c3 c5 c6;rw[hP,←AAo] at c3;obtain⟨e1,e2⟩:=List.append_inj' c3 rfl;cases e2;subst e1;refine⟨b,A1,B0++[(v,s,some T)],c1,by omega,by simp,c4,λp hp=>?_,?_⟩
   ·rcases AAK.mp hp with z|z
    ·exact c5 p (by simp[z])
    ·rw[AAL.mp z];unfold Cf;exact AAO (by omega)
   ·rw[c6,AAY,AAY];rfl
end
section
variable{kd:Str}{sz bg T:Int}{S:Sd}{P:List Pt}{bs bs':List (Option Int)}{i:Nat}{r r':Rd}
theorem GV(iv:Iv kd sz bg T S P bs)(hr:S.rs[i]?=some r)(hx:0<=r'.x/\r'.x<10)(ht:∀l,r'.t=some l->l.length<=100/\∀x∈l,0<=x/\x<10)(hh:∀l,r'.st=.half l->kd ≠ "whole" /\ l.length<=100/\∀x∈l,0<=x/\x<sz)(hc:∀c,r'.st=.at1 c->c<=2)(hT:Tl S r')(hb:bs'.length=2)(hb':∀j,j≠i->bs'[j]?=bs[j]?)
  (hf:∀l,r'.st=.half l->∃b A B,bs'[i]?=some (some b)/\b<T+1/\P=A++B/\(∀p∈A,Cf b p=true)/\(∀p∈B,Cf b p=false)/\l=FQ kd sz (Dg bg A) (B.map (·.1))):Iv kd sz bg (T+1) (DI S i r') P bs':=by
 have g:=iv.g;have mem:∀x∈(DI S i r').rs,x=r'∨x∈S.rs:=λx hx=>(List.mem_or_eq_of_mem_set hx).symm;refine⟨⟨g.kd3,g.s2,g.s10,by show (S.rs.set _ _).length=2;rw[List.length_set];exact g.two,g.cur,g.wor,g.mid,λx h=>?_,λx h l e=>?_,λx h l e=>?_,λx h c e=>?_⟩,iv.bgs,hb,iv.pw,(λp hp e he=>by have:=iv.pt p hp e he;omega),(by have:=iv.pl;omega),iv.mid,iv.all,iv.cur,λx h=>?_,λj x l h e=>?_⟩
 ·rcases mem x h with rfl|h
  ·exact hx
  ·exact g.xs x h
 ·rcases mem x h with rfl|h
  ·exact ht l e
  ·exact g.tl x h l e
 ·rcases mem x h with rfl|h
  ·exact hh l e
  ·exact g.hl x h l e
 ·rcases mem x h with rfl|h
  ·exact hc c e
  ·exact g.ct x h c e
 ·rcases mem x h with rfl|h
  ·exact hT
  ·exact iv.tl x h
 ·have h':(S.rs.set i r')[j]?=some x:=h;by_cases ij:j=i
  ·subst ij;rw[List.getElem?_set_self (AAU.mp hr).1] at h';cases h';exact hf l e
  ·rw[AAq (by omega)] at h';obtain⟨b,A,B,c1,c2,c3⟩:=iv.hf j x l h' e;exact⟨b,A,B,by rw[hb' j ij];exact c1,by omega,c3⟩
theorem X6(iv:Iv kd sz bg T S P bs)(hr:S.rs[i]?=some r):Iv kd sz bg (T+1) (DI S i { r with st:=.at0,t:=some (rdK S.cur (ccm S.W)) }) P bs:=by
 have g:=iv.g;have s10:=g.s10;have hcur:=g.cur;refine GV iv hr (g.xs r (AAV hr)) (λl e=>?_) (λl e=>nomatch e) (λc e=>nomatch e) ⟨(λz=>nomatch z),λ_=>⟨_,rfl,?_⟩⟩ iv.b2 (λ_ _=>rfl) (λl e=>nomatch e)
 ·cases e;unfold rdK;split
  ·refine⟨by simp,λx hx=>?_⟩;rw[AAL.mp hx];omega
  ·exact Ur
 ·unfold rdK;split
  ·rename_i h;refine .inr ⟨rfl,?_,(λm e=>nomatch e),(λc e=>nomatch e)⟩;cases hW:S.W with
   |idle=>rfl
   |on v=>
    have:=g.wor v (.inl hW);rw[hW] at h;have h:v=-1:=h;omega
   |mid v=>
    have:=g.wor v (.inr hW);rw[hW] at h;have h:v=-1:=h;omega
  ·exact .inl rfl
theorem X4(iv:Iv kd sz bg T S P bs)(hr:S.rs[i]?=some r)(hi:i<2)(hs:r.st=.at0)(hk:kd ≠ "whole"):Iv kd sz bg (T+1) (DI S i { r with st:=.half (Fy kd sz S) }) P (bs.set i (some T)):=by
 have g:=iv.g;have s10:=g.s10;have s2:=g.s2;have hcur:=g.cur;have b2:=iv.b2;have tl:=iv.tl r (AAV hr);have sb:(Fy kd sz S).length<=100/\∀x∈Fy kd sz S,0<=x/\x<sz:=by
  rw[QX];refine LE (by omega) s10 hcur (λx hx=>?_) ?_
  ·split at hx
   ·cases hx
   ·rw[AAL.mp hx];exact Va g (by assumption)
  ·split<;>simp
 refine GV iv hr (g.xs r (AAV hr)) (g.tl r (AAV hr)) (λl e=>?_) (λc e=>nomatch e) ⟨(λz=>nomatch z),λ_=>?_⟩ (by rw[List.length_set];exact b2) (λj hj=>AAq (by omega)) (λl e=>?_)
 ·cases e;exact⟨hk,sb⟩
 ·obtain⟨l,e,z⟩:=tl.2 (by rw[hs];exact λz=>nomatch z);refine⟨l,e,?_⟩;rcases z with z|⟨z1,z2,_⟩
  ·exact .inl z
  ·refine .inr ⟨z1,z2,λm e=>?_,(λc e=>nomatch e)⟩;cases e;unfold Fy;rw[z2];rfl
 ·cases e;have ea:∀{A:List Pt},(∀p∈A,p∈P)->(∀p∈A,p.2.2.isSome=true)->∀p∈A,Cf T p=true:=λh1 h2 p hp=>by
   have a:=h2 p hp;have b:=iv.pt p (h1 p hp);unfold Cf;cases h:p.2.2 with
   |none=>rw[h] at a;cases a
   |some e=>exact AAP (b e h)
  have bi:(bs.set i (some T))[i]?=some (some T):=List.getElem?_set_self (by omega);rw[QX];cases hW:S.W with
  |mid v=>
   obtain⟨A,s,hP,hA⟩:=iv.mid v hW;have hv:=g.wor v (.inr hW);refine⟨T,A,[(v,s,none)],bi,by omega,hP,ea (λp hp=>by rw[hP];simp[hp]) hA,λp hp=>?_,?_⟩
   ·rw[AAL.mp hp];rfl
   ·rw[if_neg (show ¬com (.mid v)=-1 by show ¬v=-1;omega)];have c:=iv.cur;rw[hP,Gc,show O2 A=A from Gd hA] at c;have c:S.cur=Dg bg (A++[]):=c;rw[AAb] at c;rw[c];rfl
  |idle=>
   have hA:=iv.all λv h=>by rw[hW] at h;cases h
   refine⟨T,P,[],bi,by omega,by simp,ea (λp hp=>hp) hA,(λp hp=>nomatch hp),?_⟩;have c:=iv.cur;rw[Gd hA] at c;rw[if_pos (show com _=-1 from rfl),c];rfl
  |on v=>
   have hA:=iv.all λv h=>by rw[hW] at h;cases h
   refine⟨T,P,[],bi,by omega,by simp,ea (λp hp=>hp) hA,(λp hp=>nomatch hp),?_⟩;have c:=iv.cur;rw[Gd hA] at c;rw[if_pos (show com _=-1 from rfl),c];rfl
theorem X2(iv:Iv kd sz bg T S P bs)(hr:S.rs[i]?=some r)(hs:r.st=.at0):Iv kd sz bg (T+1) (DI S i { r with st:=.at1 1,x:=S.cur }) P bs:=by
 have g:=iv.g;have s10:=g.s10;have hcur:=g.cur;have tl:=iv.tl r (AAV hr);refine GV iv hr ⟨hcur.1,by show S.cur<10;omega⟩ (g.tl r (AAV hr)) (λl e=>nomatch e) (λc e=>by cases e;decide) ⟨(λz=>nomatch z),λ_=>?_⟩ iv.b2 (λ_ _=>rfl) (λl e=>nomatch e);obtain⟨l,e,z⟩:=tl.2 (by rw[hs];exact λz=>nomatch z);refine⟨l,e,?_⟩;rcases z with z|⟨z1,z2,_⟩
 ·exact .inl z
 ·exact .inr ⟨z1,z2,(λm e=>nomatch e),λc e=>rfl⟩
theorem X3(iv:Iv kd sz bg T S P bs)(hr:S.rs[i]?=some r)(hs:r.st=.half m)(hp:pk∈m):Iv kd sz bg (T+1) (DI S i { r with st:=.at1 2,x:=pk }) P bs:=by
 have g:=iv.g;have s10:=g.s10;have tl:=iv.tl r (AAV hr);have hb:=(g.hl r (AAV hr) m hs).2.2 pk hp;refine GV iv hr ⟨hb.1,by show pk<10;omega⟩ (g.tl r (AAV hr)) (λl e=>nomatch e) (λc e=>by cases e;decide) ⟨(λz=>nomatch z),λ_=>?_⟩ iv.b2 (λ_ _=>rfl) (λl e=>nomatch e);obtain⟨l,e,z⟩:=tl.2 (by rw[hs];exact λz=>nomatch z);refine⟨l,e,?_⟩;rcases z with z|⟨z1,z2,z3,_⟩
 ·exact .inl z
 ·refine .inr ⟨z1,z2,(λm e=>nomatch e),λc e=>?_⟩;rw[z3 m hs] at hp;exact AAL.mp hp
theorem U4(iv:Iv kd sz bg T S P bs)(hr:S.rs[i]?=some r):Iv kd sz bg (T+1) (DI S i { r with st:=.idle,y:=0,t:=none }) P bs:=
 GV iv hr (iv.g.xs r (AAV hr)) (λl e=>nomatch e) (λl e=>nomatch e) (λc e=>nomatch e) ⟨(λz=>rfl),λz=>absurd rfl z⟩ iv.b2 (λ_ _=>rfl) (λl e=>nomatch e)
theorem dR(iv:Iv kd sz bg T S P bs)(hr:S.rs[i]?=some r)(hs:r.st=.at1 c):∃l,r.t=some l/\r.x∈l:=by
 have hx:=iv.g.xs r (AAV hr);obtain⟨l,e,z⟩:=(iv.tl r (AAV hr)).2 (by rw[hs];exact λz=>nomatch z);refine⟨l,e,?_⟩;rcases z with z|⟨z1,z2,_,z3⟩
 ·rw[z];exact nats_mem.mpr ⟨hx.1,hx.2⟩
 ·rw[z1,z3 c hs];exact AAL.mpr rfl
end
section
variable{w:World}{μ:Mh}{QD:D->Mh->Prop}{QS:Fl×Sl->Mh->Prop}{kd:Str}{sz bg T:Int}{n:Nat}{S:Sd}{i:Nat}{r:Rd}{P:List Pt}{b0 b1:Option Int}{τ:Sl}
theorem WQ(h:μ[n]?=some (.lst ds))(h2:atI ds k=some d)(q:QD d μ):WP (AM (.ref n) (.int k)) μ QD:=by
 refine AV (a:=d) (μ':=μ) ?_ q;show bnd (BU (.ref n)) (λds=>ixD ds k) μ=_;rw[Ap (show BU (.ref n) μ=some (ds,μ) from by show (match μ[n]? with|some (.lst ds)=>some (ds,μ)|_=>none)=_;rw[h])];unfold ixD;rw[h2];rfl
theorem Me(ht:τ[j]?=some (some (.ref n)))(h:μ[n]?=some (.lst ds))(hs:ds.length<sizeLine)(q:WP (ra τ) μ λes μ1=>μ1=μ/\∃y,es=[y]/\QD .non (μ.set n (.lst (ds++[y])))):WP (BT Hb (AC j) ra τ) μ QD:=by
 refine Dv (Co ht ?_);have hg:Cb (.ref n) μ=some ((),μ):=by
  unfold Cb;rw[Ap (show Bo (.ref n) μ=some (ds,μ) from by show (match μ[n]? with|some (.lst ds)=>some (ds,μ)|_=>none)=_;rw[h])];rfl
 refine AV hg (AU q λes μ1 ⟨e,y,e2,q⟩=>?_);subst e e2;refine AV (a:=.non) (μ':=_) ?_ q;show Gy n _ _=_;unfold Gy;rw[h];dsimp only;rw[if_pos hs];rfl
theorem Pd(hp:Pz d)(hd:dpt d<=64)(q:QD (.bl false) μ):WP (Ce d d) μ QD:=by
 refine OM hp hp hd hd λe he=>?_;have:e=true:=he.mpr rfl;subst this;exact q
abbrev dkD(b0 b1:Option Int):List (Key×D):=[(.inr "r",oD b0),(.inr "s",oD b1)]
theorem Qh(hi:i<2):AM (.str "rs") (.int (((i+1:Nat):Int)-1)) ν=some (.str (rnm i),ν):=by
 match i,hi with
 |0,_=>rfl
 |1,_=>rfl
theorem bw(k:Nat):PyData.strOk (CL k)=true:=by
 match k with
 |0=>decide +kernel
 |1=>decide +kernel
 |_+2=>exact(by decide +kernel:PyData.strOk ("s" : Str)=true)
theorem Za(i:Nat):PyData.strOk (rnm i)=true:=by
 unfold rnm;split<;>decide +kernel
theorem EW{p:Nat×Int->Bool}:∀{l:List Int},(∀x,p (k,x)=b)->(l.map λx=>(k,x)).filter p=if b then l.map λx=>(k,x) else []
 |[],_=>by cases b<;>rfl
 |x::l,h=>by
  rw[AAX,List.filter_cons,h x,EW h];cases b<;>rfl
theorem Zp(two:S.rs.length=2)(hr:S.rs[i]?=some r):((pks S).filter λm=>CL m.1==rnm i).map (λm=>D.int m.2)=(pkR r.st).map D.int:=by
 obtain⟨W,rs,cur⟩:=S;dsimp only at two hr;obtain⟨r1,r2,rfl⟩:∃r1 r2,rs=[r1,r2]:=Il two;rw[IS,List.filter_append,List.filter_append];rcases i with _|_|i
 ·cases hr;rw[EW (b:=false) λ_=>show (CL 0==rnm 0)=false by decide +kernel,EW (b:=true) λ_=>show (CL 1==rnm 0)=true by decide +kernel,EW (b:=false) λ_=>show (CL 2==rnm 0)=false by decide +kernel];simp
 ·cases hr;rw[EW (b:=false) λ_=>show (CL 0==rnm 1)=false by decide +kernel,EW (b:=false) λ_=>show (CL 1==rnm 1)=false by decide +kernel,EW (b:=true) λ_=>show (CL 2==rnm 1)=true by decide +kernel];simp
 ·cases hr
noncomputable abbrev dW(w:World):Sl->M (Fl×Sl):=(AY (Ai (mOp AM (mC (.str "rs")) (mOp Kk (AC 10) (mC (.int 1)))) (AR 11))
  (sIf (DA (AS (mOp A7 (mOp AM (mOp AM (mOp AM (AC 5) (mC (.int 0))) (AC 10)) (mC (.int 0))) (mC (.int 0)))) (AS (mOp (DK true) (mOp AM (mOp AM (mOp AM (AC 5) (mC (.int 0))) (AC 10)) (mC (.int 1))) (mC .non)))) (AY (Ai (AJ (Jr w) (AD (AC 2) (AD (AC 1) (AD (AC 3) (AD (AC 6) (AD (mOp Gg (AC 7) (AC 11)) AN)))))) (AR 12))
  (sIf (mOr (AS (mOp Ce (Bp 2 [11] (EA (AC 9)) (Eg [0,1]) (AS (mOp A7 (AC 0) (AC 2))) (AC 1) BM) (AC 12))) (AS (mOp Ce (mOp AM (mOp AM (mOp AM (AC 5) (mC (.int 0))) (AC 10)) (mC (.int 1))) (AJ C9 (AD (AC 12) AN))))) (Am (mC (.bl false))) BB)) BB))
theorem TK(iv:Iv kd sz bg T S P [b0,b1])(hT:T<=40)(hr:S.rs[i]?=some r)(hi:i<2)(hL:μ[L]?=some (.lst (P.map ptD)))(hD:μ[L+1]?=some (.dK (dkD b0 b1)))
  (q:∀o11 o12,QS (.next,[s0,some (.str kd),some (.int sz),some (.int bg),s4,some (sD S),some (.ref L),some (.ref (L+1)),s8,some (.lst ((pks S).map spD)),some (.int ((i+1:Nat):Int)),o11,o12,s13,s14,s15,s16,s17,s18,s19]) μ) :
  WP (dW w [s0,some (.str kd),some (.int sz),some (.int bg),s4,some (sD S),some (.ref L),some (.ref (L+1)),s8,some (.lst ((pks S).map spD)),some (.int ((i+1:Nat):Int)),o11,o12,s13,s14,s15,s16,s17,s18,s19]) μ QS:=by
 have g:=iv.g;have s10:=g.s10;have s2:=g.s2;have hbg:=iv.bgs;have pl:=iv.pl;have h1:=HZ (S:=S) hr;have pln:=QG g;cases hs:r.st with
 |idle=>
  rw[show rD r=.tup [.int (-1),.non,.int 0,.int 0,.tup [.int r.x,.int r.y]] by unfold rD;rw[hs];rfl] at h1;wtm_at "a";refine AV (Qh hi) ?_;wtm_at "a";refine Aq h1 ?_;wtm_at "a";exact q _ _
 |at1 c=>
  rw[show rD r=.tup [.int 1,.non,.int 0,.int c,.tup [.int r.x,.int r.y]] by unfold rD;rw[hs];rfl] at h1;wtm_at "a";refine AV (Qh hi) ?_;wtm_at "a";refine Aq h1 ?_;wtm_at "a";exact q _ _
 |at0=>
  rw[show rD r=.tup [.int 0,.non,.int 0,.int 0,.tup [.int r.x,.int r.y]] by unfold rD;rw[hs];rfl] at h1;wtm_at "a";refine AV (Qh hi) ?_;wtm_at "a";refine Aq h1 ?_;wtm_at "a";refine Aq h1 ?_;wtm_at "a";exact q _ _
 |half l=>
  rw[show rD r=.tup [.int 0,.tup (l.map D.int),.int 0,.int 1,.tup [.int r.x,.int r.y]] by unfold rD;rw[hs];rfl] at h1;obtain⟨hk,l100,lb⟩:=g.hl r (AAV hr) l hs;obtain⟨hkd,_,_⟩:=SB g hk;obtain⟨b,A,B,c1,c2,c3,c4,c5,c6⟩:=iv.hf i r l hr hs;have hd:GU (.str (rnm i))=some (.inr (rnm i))/\Fw (dkD b0 b1) (.inr (rnm i))=some (.int b):=by
   match i,hi,c1 with
   |0,_,c1=>cases c1;exact⟨rfl,rfl⟩
   |1,_,c1=>cases c1;exact⟨rfl,rfl⟩
  have fl:=Zp (S:=S) g.two hr;rw[hs] at fl;have fl:((pks S).filter λm=>CL m.1==rnm i).map (λm=>D.int m.2)=l.map D.int:=fl;have mf:P.foldl (De b) (bg,[])=(Dg bg A,B.map (·.1)):=by rw[c3];exact Xp c4 c5
  wtm_at "a";refine AV (Qh hi) ?_;wtm_at "a";refine Aq h1 ?_;wtm_at "a";refine Aq h1 ?_;wtm_at "a";refine DP hD hd.1 hd.2 ?_;wtm_at "a";refine ZB hkd (by omega) s10 hL (by omega) (λp hp=>?_) (by omega) mf ?_
  ·have:=iv.pw p hp;omega
  rw[←c6];wtm_at "a";refine⟨by rw[AAG,sizeLine_eq];omega,?_⟩;refine Bs spD (λm=>CL m.1==rnm i) (λm=>D.int m.2) (λm hm=>?_) ?_
  ·(with_reducible apply Az);refine⟨rfl,?_⟩;(with_reducible apply LP);(with_reducible apply S6);refine Co rfl ?_;refine Co rfl ?_;refine LU (bw _) (Za _) ?_;refine⟨_,rfl,rfl,rfl,λ_=>?_⟩;refine Co rfl ⟨rfl,rfl⟩
  rw[fl];refine Bc (by rw[AAG,sizeLine_eq];omega) ?_;wtm_at "a";refine Pd (by unfold Pz;exact IR l) (by unfold dpt;rw[Gf];omega) ?_;wtm_at "a";refine Aq h1 ?_;wtm_at "a";refine Pd (by unfold Pz;exact IR l) (by unfold dpt;rw[Gf];omega) ?_;wtm_at "a";exact q _ _
end
section
variable{w:World}{μ:Mh}{QD:D->Mh->Prop}{QS:Fl×Sl->Mh->Prop}{kd:Str}{sz bg T:Int}{L:Nat}{S:Sd}{P:List Pt}{b0 b1:Option Int}{τ:Sl}{s0 s9 o10 o12 o14 o15 o16 o17 o18 o19:Option D}{p:Int}
theorem B2(h:WP (mo τ) μ λx μ1=>∃s,x=.str s/\WP (ra τ) μ1 λds μ2=>WP (g (.str s) ds) μ2 QD):WP (Jb g mo ra τ) μ QD:=by
 unfold Jb;refine AT (AU h λx μ1 ⟨s,e,h⟩=>?_);subst e;exact AT (AV (a:=s) (μ':=μ1) rfl (AT h))
theorem sx(hk:k<3):Ka (.str "wrs") [.str (CL k)] ν=some (.int (k:Int),ν):=by
 have e:Builtin.Str.occurrences ("wrs" : Str) (CL k) 0 ("wrs" : Str).length 1=[k]:=by
  match k,hk with
  |0,_=>exact(by decide +kernel)
  |1,_=>exact(by decide +kernel)
  |2,_=>exact(by decide +kernel)
 unfold Ka;dsimp only;rw[e]
noncomputable abbrev tlB(w:World):Sl->M (Fl×Sl):=(AY (Ai (Jb Ka (mC (.str "wrs")) (AD (AC 11) AN)) (AR 10))
  (AY (sIf (DA (AS (mOp A7 (AC 10) (mC (.int 0)))) (AS (mOp A7 (mOp AM (mOp AM (mOp AM (AC 5) (mC (.int 0))) (mC (.int 0))) (mC (.int 0))) (mUn FC (mC (.int 1)))))) (Ai (mOp C1 (AC 13) (AC 2)) (AR 13)) BB)
  (AY (Ai (Fa (mOp AM (mOp AM (AC 5) (mC (.int 0))) (AC 10)) Ch (EB (mC (.int 2)))) (Eg [14,15]))
  (AY (Ai (AJ (BN w) (AD (AC 4) (AD (AC 5) (AD (AJ As (AD (AC 11) (AD (AC 13) AN))) AN)))) (Eg [16,17,18]))
  (AY (sIf (AS (mOp (DK true) (AC 17) (mC .non))) (Am (mC (.bl false))) BB)
  (AY (sIf (DA (AS (mOp A7 (AC 10) (mC (.int 0)))) (DA (AS (mOp A7 (AC 14) (mC (.int 0)))) (AS (mOp (DK false) (AC 15) (mC .non))))) (D4 (BT Hb (AC 6) (AD (AJ As (AD (mOp AM (mOp AM (mOp AM (AC 5) (mC (.int 0))) (mC (.int 0))) (mC (.int 2))) (AD (AC 8) (AD (mOp AM (AJ BM (AD (mC .non) (AD (AC 8) AN))) (AJ VA (AD (mOp A7 (AC 1) (mC (.str "whole"))) AN))) AN)))) AN))) (sIf (DA (AS (mOp A7 (AC 10) (mC (.int 0)))) (AS (mOp A7 (AC 14) (mC (.int 0))))) (Ai (mOp A5 (Fa (mOp AM (AC 6) (mUn FC (mC (.int 1)))) Ch (EB (mC (.int 2)))) (AJ As (AD (AC 8) AN))) (Vk (AC 6) (mUn FC (mC (.int 1))))) (sIf (DA (AS (mOp NF (AC 10) (mC (.int 0)))) (DA (AS (mOp A7 (AC 14) (mC (.int 0)))) (DA (AS (mOp (DK false) (AC 15) (mC .non))) (AS (mOp Ce (AC 1) (mC (.str "whole"))))))) (GO (AC 7) (AC 11) (AC 8)) (sIf (DA (AS (mOp NF (AC 10) (mC (.int 0)))) (AS (mOp A7 (AC 14) (mC (.int 0))))) (AY (Ai (AC 13) (AR 19))
  (AY (sIf (AS (mOp A7 (AC 1) (mC (.str "whole")))) (Ai (mOp AM (mOp A5 (AJ BM (AD (AC 3) AN)) (Bp 1 [] (Qa (AC 6)) (AR 0) C3 (mOp AM (AC 0) (mC (.int 0))) BM)) (mUn FC (mC (.int 1)))) (AR 19)) BB)
  (sIf (mOr (AS (mOp Ce (mOp AM (mOp AM (mOp AM (mOp AM (AC 16) (mC (.int 0))) (AC 10)) (mC (.int 4))) (mC (.int 0))) (AC 19))) (AS (mOp Ce (mOp AM (mOp AM (mOp AM (AC 16) (mC (.int 0))) (AC 10)) (mC (.int 0))) (mC (.int 1))))) (Am (mC (.bl false))) BB))) BB))))
  (Ai (AC 16) (AR 5))))))))
abbrev hp(μ:Mh)(P:List Pt)(b0 b1:Option Int):Mh:=μ++[.lst (P.map ptD),.dK (dkD b0 b1)]
def Wt(μ:Mh)(L:Nat)(s0 s9:Option D)(kd:Str)(sz bg T:Int)(QS:Fl×Sl->Mh->Prop):Prop:=∀(S':Sd) (P':List Pt) (b0 b1:Option Int) (o10 o11 o12 o13 o14 o15 o16 o17 o18 o19:Option D),Iv kd sz bg (T+1) S' P' [b0,b1]->QS (.next,[s0,some (.str kd),some (.int sz),some (.int bg),some (mkD kd sz bg),some (sD S'),some (.ref L),some (.ref (L+1)),some (.int T),s9,o10,o11,o12,o13,o14,o15,o16,o17,o18,o19]) (hp μ P' b0 b1)
theorem EM(q:QD (.int (-1)) μ):WP (FC (.int 1)) μ QD:=⟨_,μ,rfl,q⟩
theorem Nj(hL:μ.length=L):(hp μ P b0 b1)[L]?=some (.lst (P.map ptD))/\(hp μ P b0 b1)[L+1]?=some (.dK (dkD b0 b1)):=by
 subst hL;refine⟨Bn _,?_⟩;rw[AAS (by omega),show μ.length+1-μ.length=1 by omega];rfl
theorem VC(hL:μ.length=L):(hp μ P b0 b1).set L (.lst (P'.map ptD))=hp μ P' b0 b1:=by
 subst hL;rw[AAh _ _ (by omega),AA3];rfl
theorem V6(iv:Iv kd sz bg T S P [b0,b1])(hW:S.W=.idle)(hp9:p∈BI 10)(q:Wt μ L s0 s9 kd sz bg T QS):WP (tlB w [s0,some (.str kd),some (.int sz),some (.int bg),some (mkD kd sz bg),some (sD S),some (.ref L),some (.ref (L+1)),some (.int T),s9,o10,some (.str (CL 0)),o12,some (.int p),o14,o15,o16,o17,o18,o19]) (hp μ P b0 b1) QS:=by
 have g:=iv.g;have s10:=g.s10;have s2:=g.s2;have m1:=AAZ p (show sz≠0 by omega);have m2:=AAa p (show 0<sz by omega);have h0:atI (hsD S) ((0:Nat):Int)=some (.tup [.int (-1),.non,.int 0,.int 0,.tup []]):=Bk (by rw[hsD,hW];rfl);have iv':=X5 (v:=p % sz) iv hW ⟨m1,m2⟩;have hm:(0,p % sz)∈pks S:=by
  unfold pks;rw[hW];refine AAd _ (AAM.mpr ⟨p % sz,nats_mem.mpr ⟨m1,?_⟩,rfl⟩);show p % sz<10;omega
 have hst:∀{QD:D->Mh->Prop},QD (.tup [sD (JH S (p % sz)),.non,.lst [.tup [.str "begin",.str "w",.int (p % sz)]]]) (hp μ P b0 b1)->WP (BN w [mkD kd sz bg,sD S,spD (0,p % sz)]) (hp μ P b0 b1) QD:=λz=>Bh g hm (by omega) (AH (Ab (AH (BF _) (AH (BF _) (AH (Af _) AX)))) AX) (λν pa=>Wc g hW (by omega) pa λμ1 c=>⟨c,rfl⟩) z;wtm_at "a";(with_reducible apply B2);wtm_at "a";refine⟨_,rfl,?_⟩;wtm_at "a";refine AV (sx (k:=0) (by decide)) ?_;wtm_at "a";refine Aq h0 ?_;wtm_at "a";(with_reducible apply EM);wtm_at "a";(with_reducible apply Be);wtm_at "a";refine Aq h0 ?_;wtm_at "a";refine AV (a:=.tup [.int (-1),.non]) (μ':=_) rfl ?_;(with_reducible apply Az);wtm_at "a";(with_reducible apply Be);wtm_at "a";refine hst ?_;(with_reducible apply CC);wtm_at "a";exact q _ _ _ _ _ _ _ _ _ _ _ _ _ _ iv'
end
section
variable{w:World}{μ:Mh}{QD:D->Mh->Prop}{QS:Fl×Sl->Mh->Prop}{kd:Str}{sz bg T:Int}{L:Nat}{S:Sd}{P:List Pt}{b0 b1:Option Int}{s0 s9 o10 o12 o14 o15 o16 o17 o18 o19:Option D}{p:Int}
theorem UA:RfL [D.tup [.str a,.str b]]:=AH (Ab (AH (BF _) (AH (BF _) AX))) AX
theorem pk0(h:p∈pkW S.W):(0,p)∈pks S:=AAd _ (AAM.mpr ⟨p,h,rfl⟩)
theorem VD{p:Pt}(hL:μ.length=L):(hp μ P b0 b1).set L (.lst (P.map ptD++[ptD p]))=hp μ (P++[p]) b0 b1:=by
 rw[show P.map ptD++[ptD p]=(P++[p]).map ptD by simp];exact VC hL
theorem V5(iv:Iv kd sz bg T S P [b0,b1])(hT:T<=40)(hL:μ.length=L)(hW:S.W=.on v)(hp0:p=0)(q:Wt μ L s0 s9 kd sz bg T QS):WP (tlB w [s0,some (.str kd),some (.int sz),some (.int bg),some (mkD kd sz bg),some (sD S),some (.ref L),some (.ref (L+1)),some (.int T),s9,o10,some (.str (CL 0)),o12,some (.int p),o14,o15,o16,o17,o18,o19]) (hp μ P b0 b1) QS:=by
 have g:=iv.g;have pl:=iv.pl;have hl:(P.map ptD).length<sizeLine:=by rw[AAG,sizeLine_eq];omega
 have h0:atI (hsD S) ((0:Nat):Int)=some (.tup [.int 0,.non,.int v,.int 0,.tup []]):=Bk (by rw[hsD,hW];rfl);have hm:(0,p)∈pks S:=pk0 (by rw[hW,hp0];exact AAL.mpr rfl);obtain⟨c1,c2⟩:=Nj (μ:=μ) (P:=P) (b0:=b0) (b1:=b1) hL;by_cases hk:kd = "whole"
 ·have iv':=aQ iv hW hk;have hst:∀{QD:D->Mh->Prop},QD (.tup [sD (FA S v),.non,.lst [.tup [.str "end",.str "w"]]]) (hp μ P b0 b1)->WP (BN w [mkD kd sz bg,sD S,spD (0,p)]) (hp μ P b0 b1) QD:=λz=>Bh g hm (by omega) UA (λν pa=>Y7 g hW hk pa λμ1 c=>⟨c,rfl⟩) z;subst hk;wtm_at "a";(with_reducible apply B2);wtm_at "a";refine⟨_,rfl,?_⟩;wtm_at "a";refine AV (sx (k:=0) (by decide)) ?_;wtm_at "a";refine Aq h0 ?_;wtm_at "a";(with_reducible apply EM);wtm_at "a";(with_reducible apply Be);wtm_at "a";refine Aq h0 ?_;wtm_at "a";refine AV (a:=.tup [.int 0,.non]) (μ':=_) rfl ?_;(with_reducible apply Az);wtm_at "a";(with_reducible apply Be);wtm_at "a";refine hst ?_;(with_reducible apply CC);wtm_at "a";refine Me rfl c1 hl ?_;wtm_at "a";refine Aq h0 ?_;wtm_at "a";refine⟨rfl,_,rfl,?_⟩;wtm_at "a";rw[show D.tup [.int v,.int T,.int T]=ptD (v,T,some T) from rfl,VD hL];exact q _ _ _ _ _ _ _ _ _ _ _ _ _ _ iv'
 ·have iv':=aR iv hW hk hT;have hst:∀{QD:D->Mh->Prop},QD (.tup [sD (JG kd sz S v),.non,.lst []]) (hp μ P b0 b1)->WP (BN w [mkD kd sz bg,sD S,spD (0,p)]) (hp μ P b0 b1) QD:=λz=>Bh g hm (by omega) AX (λν pa=>Y8 g hW hk pa λμ1 c=>⟨c,rfl⟩) z;obtain⟨_,k2,k3⟩:=SB g hk;wtm_at "a";(with_reducible apply B2);wtm_at "a";refine⟨_,rfl,?_⟩;wtm_at "a";refine AV (sx (k:=0) (by decide)) ?_;wtm_at "a";refine Aq h0 ?_;wtm_at "a";(with_reducible apply EM);wtm_at "a";(with_reducible apply Be);wtm_at "a";refine Aq h0 ?_;wtm_at "a";refine AV (a:=.tup [.int 0,.non]) (μ':=_) rfl ?_;(with_reducible apply Az);wtm_at "a";(with_reducible apply Be);wtm_at "a";refine hst ?_;(with_reducible apply CC);wtm_at "a";refine Me rfl c1 hl ?_;wtm_at "a";refine Aq h0 ?_;wtm_at "a";refine GE k2 (by decide +kernel) k3 ?_;wtm_at "a";refine⟨rfl,_,rfl,?_⟩;wtm_at "a";rw[show D.tup [.int v,.int T,.non]=ptD (v,T,none) from rfl,VD hL];exact q _ _ _ _ _ _ _ _ _ _ _ _ _ _ iv'
theorem V4(iv:Iv kd sz bg T S P [b0,b1])(hT:T<=40)(hL:μ.length=L)(hW:S.W=.mid v)(hp0:p=0)(q:Wt μ L s0 s9 kd sz bg T QS):WP (tlB w [s0,some (.str kd),some (.int sz),some (.int bg),some (mkD kd sz bg),some (sD S),some (.ref L),some (.ref (L+1)),some (.int T),s9,o10,some (.str (CL 0)),o12,some (.int p),o14,o15,o16,o17,o18,o19]) (hp μ P b0 b1) QS:=by
 have g:=iv.g;have h0:atI (hsD S) ((0:Nat):Int)=some (.tup [.int 0,.tup [],.int v,.int 1,.tup []]):=Bk (by rw[hsD,hW];rfl);have hm:(0,p)∈pks S:=pk0 (by rw[hW,hp0];exact AAL.mpr rfl);obtain⟨A,s,hP,iv'⟩:=X1 iv hW;obtain⟨c1,c2⟩:=Nj (μ:=μ) (P:=P) (b0:=b0) (b1:=b1) hL;have hst:∀{QD:D->Mh->Prop},QD (.tup [sD (FA S v),.non,.lst [.tup [.str "end",.str "w"]]]) (hp μ P b0 b1)->WP (BN w [mkD kd sz bg,sD S,spD (0,p)]) (hp μ P b0 b1) QD:=λz=>Bh g hm (by omega) UA (λν pa=>WN g hW pa λμ1 c=>⟨c,rfl⟩) z;have hl:atI (P.map ptD) (-1)=some (ptD (v,s,none)):=by rw[hP,AAY];exact OB _ _
 have hx:ixN (P.map ptD).length (-1)=some A.length:=by
  rw[hP,AAG,AAH];unfold ixN;rw[if_neg (by decide),if_pos (by show -((A.length+1:Nat):Int)<=-1;omega)];show some (-1+((A.length+1:Nat):Int)).toNat=_;congr 1;omega
 have hset:(P.map ptD).set A.length (ptD (v,s,some T))=(A++[(v,s,some T)]).map ptD:=by
  rw[hP,AAY,AAY,AAh _ _ (by rw[AAG];omega),AAG,AA3];rfl
 wtm_at "a";(with_reducible apply B2);wtm_at "a";refine⟨_,rfl,?_⟩;wtm_at "a";refine AV (sx (k:=0) (by decide)) ?_;wtm_at "a";refine Aq h0 ?_;wtm_at "a";(with_reducible apply EM);wtm_at "a";(with_reducible apply Be);wtm_at "a";refine Aq h0 ?_;wtm_at "a";refine AV (a:=.tup [.int 0,.tup []]) (μ':=_) rfl ?_;(with_reducible apply Az);wtm_at "a";(with_reducible apply Be);wtm_at "a";refine hst ?_;(with_reducible apply CC);wtm_at "a";(with_reducible apply Be);wtm_at "a";(with_reducible apply EM);refine WQ c1 hl ?_;wtm_at "a";refine AV (a:=.tup [.int v,.int s]) (μ':=_) rfl ?_;wtm_at "a";refine AV (a:=.tup [.int v,.int s,.int T]) (μ':=_) rfl ?_;refine TN ?_;wtm_at "a";(with_reducible apply EM);refine⟨L,-1,_,_,rfl,rfl,c1,hx,?_⟩;wtm_at "a";rw[show D.tup [.int v,.int s,.int T]=ptD (v,s,some T) from rfl,hset,VC hL];exact q _ _ _ _ _ _ _ _ _ _ _ _ _ _ iv'
end
section
variable{w:World}{μ:Mh}{QD:D->Mh->Prop}{QS:Fl×Sl->Mh->Prop}{kd:Str}{sz bg T:Int}{L:Nat}{S:Sd}{i:Nat}{r:Rd}{P:List Pt}{b0 b1:Option Int}{s0 s9 o10 o12 o14 o15 o16 o17 o18 o19:Option D}{p:Int}
theorem pk1(hi:i<2)(hr:S.rs[i]?=some r)(h:p∈pkR r.st):(i+1,p)∈pks S:=by
 refine AAc _ (List.mem_flatMap.mpr ⟨(r,i+1),?_,AAM.mpr ⟨p,h,rfl⟩⟩);rw[List.mem_iff_getElem?];exact⟨i,by rw[List.getElem?_zipIdx,hr];show some (r,1+i)=_;rw[Nat.add_comm]⟩
theorem Vl(hr:S.rs[i]?=some r):atI (hsD (DI S i r')) ((i+1:Nat):Int)=some (rD r'):=HZ (S:=DI S i r') (List.getElem?_set_self (AAU.mp hr).1)
theorem WA(iv:Iv kd sz bg T S P [b0,b1])(hr:S.rs[i]?=some r)(hi:i<2)(hs:r.st=.idle)(hp0:p=0)(q:Wt μ L s0 s9 kd sz bg T QS):WP (tlB w [s0,some (.str kd),some (.int sz),some (.int bg),some (mkD kd sz bg),some (sD S),some (.ref L),some (.ref (L+1)),some (.int T),s9,o10,some (.str (CL (i+1))),o12,some (.int p),o14,o15,o16,o17,o18,o19]) (hp μ P b0 b1) QS:=by
 have g:=iv.g;have h1:=HZ (S:=S) hr;rw[show rD r=.tup [.int (-1),.non,.int 0,.int 0,.tup [.int r.x,.int r.y]] by unfold rD;rw[hs];rfl] at h1;have hm:(i+1,p)∈pks S:=pk1 hi hr (by rw[hs,hp0];exact AAL.mpr rfl);have iv':=X6 iv hr;subst hp0;have hst:∀{QD:D->Mh->Prop},QD (.tup [sD (DI S i { r with st:=.at0,t:=some (rdK S.cur (ccm S.W)) }),.non,.lst [.tup [.str "begin",.str (rnm i)]]]) (hp μ P b0 b1)->WP (BN w [mkD kd sz bg,sD S,spD (i+1,0)]) (hp μ P b0 b1) QD:=λz=>Bh g hm (by omega) UA (λν pa=>Wd g hr hi hs pa λμ1 c=>⟨c,rfl⟩) z;wtm_at "a";(with_reducible apply B2);wtm_at "a";refine⟨_,rfl,?_⟩;wtm_at "a";refine AV (sx (k:=i+1) (by omega)) ?_;wtm_at "a";(with_reducible apply Be);wtm_at "a";refine Aq h1 ?_;wtm_at "a";refine AV (a:=.tup [.int (-1),.non]) (μ':=_) rfl ?_;(with_reducible apply Az);wtm_at "a";(with_reducible apply Be);wtm_at "a";refine hst ?_;(with_reducible apply CC);wtm_at "a";exact q _ _ _ _ _ _ _ _ _ _ _ _ _ _ iv'
theorem V7(iv:Iv kd sz bg T S P [b0,b1])(hr:S.rs[i]?=some r)(hi:i<2)(hs:r.st=.at1 c)(hp0:p=0)(q:Wt μ L s0 s9 kd sz bg T QS):WP (tlB w [s0,some (.str kd),some (.int sz),some (.int bg),some (mkD kd sz bg),some (sD S),some (.ref L),some (.ref (L+1)),some (.int T),s9,o10,some (.str (CL (i+1))),o12,some (.int p),o14,o15,o16,o17,o18,o19]) (hp μ P b0 b1) QS:=by
 have g:=iv.g;have h1:=HZ (S:=S) hr;rw[show rD r=.tup [.int 1,.non,.int 0,.int c,.tup [.int r.x,.int r.y]] by unfold rD;rw[hs];rfl] at h1;have hm:(i+1,p)∈pks S:=pk1 hi hr (by rw[hs,hp0];exact AAL.mpr rfl);have iv':=U4 iv hr;obtain⟨l,ht,hx⟩:=dR iv hr hs;have hst:∀{QD:D->Mh->Prop},QD (.tup [sD (DI S i { r with st:=.idle,y:=0,t:=none }),.non,.lst [.tup [.str "end",.str (rnm i),.int r.x]]]) (hp μ P b0 b1)->WP (BN w [mkD kd sz bg,sD S,spD (i+1,p)]) (hp μ P b0 b1) QD:=λz=>Bh g hm (by omega) (AH (Ab (AH (BF _) (AH (BF _) (AH (Af _) AX)))) AX) (λν pa=>Sv g hr hi hs ht hx pa λμ1 c=>⟨c,rfl⟩) z;wtm_at "a";(with_reducible apply B2);wtm_at "a";refine⟨_,rfl,?_⟩;wtm_at "a";refine AV (sx (k:=i+1) (by omega)) ?_;wtm_at "a";(with_reducible apply Be);wtm_at "a";refine Aq h1 ?_;wtm_at "a";refine AV (a:=.tup [.int 1,.non]) (μ':=_) rfl ?_;(with_reducible apply Az);wtm_at "a";(with_reducible apply Be);wtm_at "a";refine hst ?_;(with_reducible apply CC);wtm_at "a";exact q _ _ _ _ _ _ _ _ _ _ _ _ _ _ iv'
theorem YF(hL:μ.length=L):(hp μ P b0 b1).set (L+1) (.dK (dkD c0 c1))=hp μ P c0 c1:=by
 subst hL;rw[AAh _ _ (by omega),show μ.length+1-μ.length=1 by omega];rfl
theorem V9(iv:Iv kd sz bg T S P [b0,b1])(hL:μ.length=L)(hr:S.rs[i]?=some r)(hi:i<2)(hs:r.st=.at0)(hk:kd ≠ "whole")(hp0:p=0)(q:Wt μ L s0 s9 kd sz bg T QS):WP (tlB w [s0,some (.str kd),some (.int sz),some (.int bg),some (mkD kd sz bg),some (sD S),some (.ref L),some (.ref (L+1)),some (.int T),s9,o10,some (.str (CL (i+1))),o12,some (.int p),o14,o15,o16,o17,o18,o19]) (hp μ P b0 b1) QS:=by
 have g:=iv.g;have h1:=HZ (S:=S) hr;rw[show rD r=.tup [.int 0,.non,.int 0,.int 0,.tup [.int r.x,.int r.y]] by unfold rD;rw[hs];rfl] at h1;have hm:(i+1,p)∈pks S:=pk1 hi hr (by rw[hs,hp0];exact AAL.mpr rfl);have iv':=X4 iv hr hi hs hk;obtain⟨_,k2,k3⟩:=SB g hk;obtain⟨c1,c2⟩:=Nj (μ:=μ) (P:=P) (b0:=b0) (b1:=b1) hL;obtain⟨d0,d1,e1,e2,e3⟩:∃d0 d1:Option Int,[b0,b1].set i (some T)=[d0,d1]/\GU (.str (CL (i+1)))=some (.inr (CL (i+1)))/\FD (dkD b0 b1) (.inr (CL (i+1))) (.int T)=dkD d0 d1:=by
  exact(show ∀i<2,∃d0 d1:Option Int,[b0,b1].set i (some T)=[d0,d1]/\GU (.str (CL (i+1)))=some (.inr (CL (i+1)))/\FD (dkD b0 b1) (.inr (CL (i+1))) (.int T)=dkD d0 d1 from fun
   |0,_=>⟨some T,b1,rfl,rfl,rfl⟩
   |1,_=>⟨b0,some T,rfl,rfl,rfl⟩) i hi
 rw[e1] at iv';have hst:∀{QD:D->Mh->Prop},QD (.tup [sD (DI S i { r with st:=.half (Fy kd sz S) }),.non,.lst []]) (hp μ P b0 b1)->WP (BN w [mkD kd sz bg,sD S,spD (i+1,p)]) (hp μ P b0 b1) QD:=λz=>Bh g hm (by omega) AX (λν pa=>WV g hr hi hs hk pa λμ1 c=>⟨c,rfl⟩) z;wtm_at "a";(with_reducible apply B2);wtm_at "a";refine⟨_,rfl,?_⟩;wtm_at "a";refine AV (sx (k:=i+1) (by omega)) ?_;wtm_at "a";(with_reducible apply Be);wtm_at "a";refine Aq h1 ?_;wtm_at "a";refine AV (a:=.tup [.int 0,.non]) (μ':=_) rfl ?_;(with_reducible apply Az);wtm_at "a";(with_reducible apply Be);wtm_at "a";refine hst ?_;(with_reducible apply CC);wtm_at "a";refine IJ k2 (by decide +kernel) k3 ?_;wtm_at "a";refine MX ?_;wtm_at "a";refine⟨_,_,_,rfl,c2,e2,by show 2<1000;omega,?_⟩;wtm_at "a";rw[e3,YF hL];exact q _ _ _ _ _ _ _ _ _ _ _ _ _ _ iv'
theorem Su(iv:Iv kd sz bg T S P [b0,b1])(hT:T<=40)(hL:μ.length=L)(hr:S.rs[i]?=some r)(hi:i<2)(hs:r.st=.at0)(hk:kd = "whole")(hp0:p=0)(q:Wt μ L s0 s9 kd sz bg T QS):WP (tlB w [s0,some (.str kd),some (.int sz),some (.int bg),some (mkD kd sz bg),some (sD S),some (.ref L),some (.ref (L+1)),some (.int T),s9,o10,some (.str (CL (i+1))),o12,some (.int p),o14,o15,o16,o17,o18,o19]) (hp μ P b0 b1) QS:=by
 have g:=iv.g;have pl:=iv.pl;have h1:=HZ (S:=S) hr;rw[show rD r=.tup [.int 0,.non,.int 0,.int 0,.tup [.int r.x,.int r.y]] by unfold rD;rw[hs];rfl] at h1;have h2:=Vl (S:=S) (r':={ r with st:=.at1 1,x:=S.cur }) hr;rw[show rD { r with st:=.at1 1,x:=S.cur }=.tup [.int 1,.non,.int 0,.int 1,.tup [.int S.cur,.int r.y]] from rfl] at h2;have hm:(i+1,p)∈pks S:=pk1 hi hr (by rw[hs,hp0];exact AAL.mpr rfl);have iv':=X2 iv hr hs;have hst:∀{QD:D->Mh->Prop},QD (.tup [sD (DI S i { r with st:=.at1 1,x:=S.cur }),.non,.lst []]) (hp μ P b0 b1)->WP (BN w [mkD kd sz bg,sD S,spD (i+1,p)]) (hp μ P b0 b1) QD:=λz=>Bh g hm (by omega) AX (λν pa=>WT g hr hi hs hk pa λμ1 c=>⟨c,rfl⟩) z;obtain⟨c1,c2⟩:=Nj (μ:=μ) (P:=P) (b0:=b0) (b1:=b1) hL;have hcur:S.cur=Dg bg P:=by
  have:=iv.cur;rw[Gd (iv.all λv hv=>g.mid v hv hk)] at this;exact this
 have hlast:atI (D.int bg::P.map λp=>D.int p.1) (-1)=some (.int S.cur):=by
  rw[hcur];rcases List.eq_nil_or_concat P with rfl|⟨A,x,rfl⟩
  ·rfl
  ·rw[List.concat_eq_append,HI,AAY,←List.cons_append];exact OB _ _
 subst hk;wtm_at "a";(with_reducible apply B2);wtm_at "a";refine⟨_,rfl,?_⟩;wtm_at "a";refine AV (sx (k:=i+1) (by omega)) ?_;wtm_at "a";(with_reducible apply Be);wtm_at "a";refine Aq h1 ?_;wtm_at "a";refine AV (a:=.tup [.int 0,.non]) (μ':=_) rfl ?_;(with_reducible apply Az);wtm_at "a";(with_reducible apply Be);wtm_at "a";refine hst ?_;(with_reducible apply CC);wtm_at "a";refine K21.WC rfl c1 ?_;refine⟨by rw[AAG,sizeLine_eq];omega,?_⟩;refine Bs ptD (λ_=>true) (λp=>D.int p.1) (λm hm=>?_) ?_
 ·wtm_at "a";refine⟨rfl,?_⟩;wtm_at "a";refine⟨rfl,rfl,λ_=>?_⟩;wtm_at "a";exact⟨rfl,rfl⟩
 rw[List.filter_eq_self.mpr λ_ _=>rfl];refine Bc (by rw[AAG,sizeLine_eq];omega) ?_;refine K21.Pg (by rw[AAG];show 1+_<=_;omega) ?_;wtm_at "a";(with_reducible apply EM);refine C8 hlast ?_;wtm_at "a";refine Aq h2 ?_;wtm_at "a";refine Aq h2 ?_;wtm_at "a";exact q _ _ _ _ _ _ _ _ _ _ _ _ _ _ iv'
theorem V8(iv:Iv kd sz bg T S P [b0,b1])(hr:S.rs[i]?=some r)(hi:i<2)(hs:r.st=.half l)(hpl:p∈l)(q:Wt μ L s0 s9 kd sz bg T QS):WP (tlB w [s0,some (.str kd),some (.int sz),some (.int bg),some (mkD kd sz bg),some (sD S),some (.ref L),some (.ref (L+1)),some (.int T),s9,o10,some (.str (CL (i+1))),o12,some (.int p),o14,o15,o16,o17,o18,o19]) (hp μ P b0 b1) QS:=by
 have g:=iv.g;have s10:=g.s10;have h1:=HZ (S:=S) hr;rw[show rD r=.tup [.int 0,.tup (l.map D.int),.int 0,.int 1,.tup [.int r.x,.int r.y]] by unfold rD;rw[hs];rfl] at h1;have h2:=Vl (S:=S) (r':={ r with st:=.at1 2,x:=p }) hr;rw[show rD { r with st:=.at1 2,x:=p }=.tup [.int 1,.non,.int 0,.int 2,.tup [.int p,.int r.y]] from rfl] at h2;have hm:(i+1,p)∈pks S:=pk1 hi hr (by rw[hs];exact hpl);obtain⟨hk,_,hb⟩:=g.hl r (AAV hr) l hs;have hb:=hb p hpl;obtain⟨_,k2,k3⟩:=SB g hk;have iv':=X3 iv hr hs hpl;have hst:∀{QD:D->Mh->Prop},QD (.tup [sD (DI S i { r with st:=.at1 2,x:=p }),.non,.lst []]) (hp μ P b0 b1)->WP (BN w [mkD kd sz bg,sD S,spD (i+1,p)]) (hp μ P b0 b1) QD:=λz=>Bh g hm (by omega) AX (λν pa=>WU g hr hi hs (by omega) pa λμ1 c=>⟨c,rfl⟩) z;wtm_at "a";(with_reducible apply B2);wtm_at "a";refine⟨_,rfl,?_⟩;wtm_at "a";refine AV (sx (k:=i+1) (by omega)) ?_;wtm_at "a";(with_reducible apply Be);wtm_at "a";refine Aq h1 ?_;wtm_at "a";refine AV (a:=.tup [.int 0,.tup (l.map D.int)]) (μ':=_) rfl ?_;(with_reducible apply Az);wtm_at "a";(with_reducible apply Be);wtm_at "a";refine hst ?_;(with_reducible apply CC);wtm_at "a";refine GE k2 (by decide +kernel) k3 ?_;wtm_at "a";refine Aq h2 ?_;wtm_at "a";refine Aq h2 ?_;wtm_at "a";exact q _ _ _ _ _ _ _ _ _ _ _ _ _ _ iv'
end
section
variable{w:World}{μ:Mh}{QD:D->Mh->Prop}{QS:Fl×Sl->Mh->Prop}{kd:Str}{sz bg T:Int}{n L:Nat}{S:Sd}{i:Nat}{r:Rd}{P:List Pt}{b0 b1:Option Int}{τ:Sl}{s0 s9 o10 o12 o14 o15 o16 o17 o18 o19:Option D}{p:Int}
theorem Zo(two:S.rs.length=2)(h:(k,p)∈pks S):(k=0/\p∈pkW S.W)∨∃i r,k=i+1/\i<2/\S.rs[i]?=some r/\p∈pkR r.st:=by
 obtain⟨W,rs,cur⟩:=S;dsimp only at two;obtain⟨r1,r2,rfl⟩:∃r1 r2,rs=[r1,r2]:=Il two;rw[IS] at h;rcases AAK.mp h with z|z
 ·obtain⟨p',h1,e⟩:=AAM.mp z;cases e;exact .inl ⟨rfl,h1⟩
 ·rcases AAK.mp z with z|z
  ·obtain⟨p',h1,e⟩:=AAM.mp z;cases e;exact .inr ⟨0,r1,rfl,by omega,rfl,h1⟩
  ·obtain⟨p',h1,e⟩:=AAM.mp z;cases e;exact .inr ⟨1,r2,rfl,by omega,rfl,h1⟩
theorem WB(iv:Iv kd sz bg T S P [b0,b1])(hT:T<=40)(hL:μ.length=L)(hm:(k,p)∈pks S)(q:Wt μ L s0 s9 kd sz bg T QS):WP (tlB w [s0,some (.str kd),some (.int sz),some (.int bg),some (mkD kd sz bg),some (sD S),some (.ref L),some (.ref (L+1)),some (.int T),s9,o10,some (.str (CL k)),o12,some (.int p),o14,o15,o16,o17,o18,o19]) (hp μ P b0 b1) QS:=by
 rcases Zo iv.g.two hm with ⟨rfl,hp⟩|⟨i,r,rfl,hi,hr,hp⟩
 ·cases hW:S.W with
  |idle=>rw[hW] at hp;exact V6 iv hW hp q
  |on v=>rw[hW] at hp;exact V5 iv hT hL hW (AAL.mp hp) q
  |mid v=>rw[hW] at hp;exact V4 iv hT hL hW (AAL.mp hp) q
 ·cases hs:r.st with
  |idle=>rw[hs] at hp;exact WA iv hr hi hs (AAL.mp hp) q
  |at0=>
   rw[hs] at hp;by_cases hk:kd = "whole"
   ·exact Su iv hT hL hr hi hs hk (AAL.mp hp) q
   ·exact V9 iv hL hr hi hs hk (AAL.mp hp) q
  |half l=>rw[hs] at hp;exact V8 iv hr hi hs hp q
  |at1 c=>rw[hs] at hp;exact V7 iv hr hi hs (AAL.mp hp) q
theorem XR(S:Sd):0<(pks S).length:=by
 unfold pks;rw[AAH,AAG];have:0<(pkW S.W).length:=by
  cases S.W with
  |idle=>exact(by decide:0<(BI 10).length)
  |_=>exact Nat.one_pos
 omega
theorem iv0(hk:kd = "safe" ∨ kd = "steady" ∨ kd = "whole")(h2:2<=sz)(h10:sz<=10)(hb:0<=bg/\bg<sz):Iv kd sz bg 0 (S0 bg) [] [none,none]:=by
 have m:∀r∈(S0 bg).rs,r=⟨.idle,0,0,none⟩:=λr hr=>by
  rcases AAJ.mp hr with z|z
  ·exact z
  ·exact AAL.mp z
 refine⟨⟨hk,h2,h10,rfl,hb,(λv h=>by rcases h with h|h<;>cases h),(λv h=>by cases h),λr h=>?_,λr h l e=>?_,λr h l e=>?_,λr h c e=>?_⟩,hb,rfl,(λp h=>nomatch h),(λp h=>nomatch h),Int.le_refl _,(λv h=>by cases h),(λ_ p h=>nomatch h),rfl,λr h=>?_,λi r l h e=>?_⟩
 ·rw[m r h];exact⟨Int.le_refl _,by decide⟩
 ·rw[m r h] at e;cases e
 ·rw[m r h] at e;cases e
 ·rw[m r h] at e;cases e
 ·rw[m r h];exact⟨(λ_=>rfl),λz=>absurd rfl z⟩
 ·rw[m r (AAV h)] at e;cases e
theorem Js:Jc [.inr "r",.inr "s"] (AD (mC .non) (AD (mC .non) AN)) τ ν=some (.ref ν.length,ν++[.dK (dkD none none)]):=by
 have e:AD (mC .non) (AD (mC .non) AN) τ (ν++[.dK []])=some ([.non,.non],ν++[.dK []]):=rfl;unfold Jc;rw[e];dsimp only;rw[Bn];dsimp only;refine(if_pos rfl).trans ?_;rw[AAh _ _ (AAF _),AA3];rfl
theorem V0(hk:kd = "safe" ∨ kd = "steady" ∨ kd = "whole")(h2:2<=sz)(h10:sz<=10)(hb:0<=bg/\bg<sz)(x:Xs μ n K)(hK:30<=K)(q:∀μ1,XU n μ μ1->Xs μ1 n (K-30)->QD (.bl true) μ1):WP (GZ w [.ref n,.str kd,.int sz,.int bg]) μ QD:=by
 unfold GZ;refine TR (n:=n) rfl ?_;unfold QZ;wtm_at "a";refine av ?_;wtm_at "a";refine TH ?_;wtm_at "a";refine AV Js ?_;rw[AAo];rw[show (μ++[MO.lst []]).length=μ.length+1 by simp];wtm_at "a";refine LY (n:=30) rfl (by omega) ?_;refine OQ (I:=λj τ μ'=>∃(S:Sd) (P:List Pt) (b0 b1:Option Int) (μ1:Mh) (o8 o9 o10 o11 o12 o13 o14 o15 o16 o17 o18 o19:Option D),XU n μ μ1/\Xs μ1 n (K-j)/\Iv kd sz bg (j:Int) S P [b0,b1]/\μ'=hp μ1 P b0 b1/\τ=[some (.ref n),some (.str kd),some (.int sz),some (.int bg),some (mkD kd sz bg),some (sD S),some (.ref μ.length),some (.ref (μ.length+1)),o8,o9,o10,o11,o12,o13,o14,o15,o16,o17,o18,o19]) ?_ ?_ ⟨S0 bg,[],none,none,μ,none,none,none,none,none,none,none,none,none,none,none,none,x.refl,x,iv0 hk h2 h10 hb,rfl,rfl⟩
 ·rintro j τ μ' hj ⟨S,P,b0,b1,μ1,o8,o9,o10,o11,o12,o13,o14,o15,o16,o17,o18,o19,u,x1,iv,rfl,rfl⟩;have g:=iv.g;have two:=g.two;have hL:=u.len;have pos:=XR S;obtain⟨c1,c2⟩:=Nj (μ:=μ1) (P:=P) (b0:=b0) (b1:=b1) hL;obtain⟨r1,e1⟩:∃r,S.rs[0]?=some r:=⟨_,AAw (by omega)⟩;obtain⟨r2,e2⟩:∃r,S.rs[1]?=some r:=⟨_,AAw (by omega)⟩;wtm_at "a";refine Sx g ?_;wtm_at "a";refine BP ?_;(with_reducible apply Dy);refine TK (i:=0) iv (by omega) e1 (by omega) c1 c2 λo11 o12=>?_;refine A0 (BP ?_);(with_reducible apply Dy);refine TK (i:=1) iv (by omega) e2 (by omega) c1 c2 λo11 o12=>?_;refine A0 (DH ?_);wtm_at "a";(with_reducible apply Be);wtm_at "a";refine Pc rfl x1 (by omega) λv μ2 u2 x2=>?_;wtm_at "a";refine K21.IN ?_;rw[AAG];refine S8 (by omega) ?_;have m1:=AAZ (v / 3) (show ((pks S).length:Int)≠0 by omega);have m2:=AAa (v / 3) (show (0:Int)<((pks S).length:Int) by omega);obtain⟨a,ha⟩:∃a:Nat,v / 3 % ((pks S).length:Int)=(a:Int):=⟨_,(Int.toNat_of_nonneg m1).symm⟩;rw[ha] at m2 ⊢;obtain⟨⟨k,p⟩,ep⟩:∃m,(pks S)[a]?=some m:=⟨_,AAw (by omega)⟩;refine C8 (d:=spD (k,p)) (Bk (by rw[AAW,ep];rfl)) ?_;(with_reducible apply Az);(with_reducible apply Ez);refine WB (μ:=μ2) iv (by omega) (u2.len.trans hL) (AAV ep) ?_;intro S' P' d0 d1 a10 a11 a12 a13 a14 a15 a16 a17 a18 a19 iv';refine A0 ⟨S',P',d0,d1,μ2,_,_,_,_,_,_,_,_,_,_,_,_,u.trans u2,x2.mono (by omega),iv',rfl,rfl⟩
 ·rintro τ μ' ⟨S,P,b0,b1,μ1,o8,o9,o10,o11,o12,o13,o14,o15,o16,o17,o18,o19,u,x1,iv,rfl,rfl⟩;wtm_at "a";exact⟨_,_,μ1,_,rfl,rfl,u,by unfold Cl;trivial,q μ1 u x1⟩
end
end K22
namespace K22
open PySem L2 Mi Xt
open K21 (Gi)
section
variable{w:World}{μ:Mh}{QD:D->Mh->Prop}{n:Nat}
theorem Q6(q:∀n μ1,Xs μ1 n 140->QD (.ref n) μ1):WP (FW w [.int c,.int 140]) [] QD:=by
 unfold FW;refine Ie rfl ?_;unfold Kv;wtm_at "d";refine Y5 (by decide) ?_;wtm_at "d";cases e0:decide (((10:Int) ^ (40:Int).toNat)<=c) with
 |true=>
  wtm_at "d";refine LY (n:=140) rfl (by omega) ?_;refine OQ (I:=λj τ μ'=>∃(l:List Int) (r:Int) (o4:Option D),l.length=j/\μ'=[.lst (l.map D.int)]/\τ=[some (.int c),some (.int 140),some (.ref 0),some (.int r),o4,none,none]) ?_ ?_ ⟨[],c / 7,none,rfl,rfl,rfl⟩
  ·rintro j τ μ' hj ⟨l,r,o4,hl,rfl,rfl⟩;wtm_at "d";refine GF (gs:=[]) rfl (by rw[AAG,sizeLine_eq];omega) ?_;wtm_at "d";refine⟨[],_,rfl,rfl,rfl,?_⟩;wtm_at "d";refine A0 ⟨l++[r % 10000019],r / 10000019,_,by simp[hl],by rw[AAY];rfl,rfl⟩
  ·rintro τ μ' ⟨l,r,o4,hl,rfl,rfl⟩;wtm_at "d";refine AV (a:=.int (-1)) (μ':=[.lst (l.map D.int)]) rfl ?_;refine AV (a:=.ref 1) (μ':=[.lst (l.map D.int),.lst (l.reverse.map D.int)]) ?_ ?_
   ·show bnd (Bo (.ref 0)) (λds=>GS ds.reverse) [.lst (l.map D.int)]=_;rw[Ap (show Bo (.ref 0) [.lst (l.map D.int)]=some (l.map D.int,[.lst (l.map D.int)]) from rfl)];unfold GS;rw[Ap (HH (by rw[List.length_reverse,AAG,sizeLine_eq];omega) _),List.map_reverse];rfl
   ·wtm_at "d";refine⟨_,_,rfl,AAm _,λj o e=>.inr ?_,by unfold Cl;simp,q 1 _ ⟨l.reverse,rfl,by rw[List.length_reverse];omega⟩⟩
    match j,e with
    |0,e=>cases e;exact Gi _
    |1,e=>cases e;exact Gi _
 |false=>
  wtm_at "d";refine LT (.inr (by decide)) ?_;wtm_at "d";refine LT (.inr (by decide)) ?_;wtm_at "d";refine LY (n:=140) rfl (by omega) ?_;refine OQ (I:=λj τ μ'=>∃(l:List Int) (a b:Int) (o4:Option D),l.length=j/\μ'=[.lst (l.map D.int)]/\0<=a/\a<4000000000/\0<=b/\b<4000000000/\τ=[some (.int c),some (.int 140),some (.ref 0),none,o4,some (.int a),some (.int b)]) ?_ ?_ ⟨[],_,_,none,rfl,rfl,AAZ _ (by decide),by have:=AAa ((c % 2147483647+1) * 48271) (show (0:Int)<2147483647 by decide);omega,AAZ _ (by decide),by have:=AAa ((c % 1000003+1) * 69621) (show (0:Int)<2147483629 by decide);omega,rfl⟩
  ·rintro j τ μ' hj ⟨l,a,b,o4,hl,rfl,ha,ha2,hb,hb2,rfl⟩;wtm_at "d";refine LT (.inl (by omega)) ?_;wtm_at "d";refine LT (.inr (by decide)) ?_;wtm_at "d";refine GF (gs:=[]) rfl (by rw[AAG,sizeLine_eq];omega) ?_;wtm_at "d";refine⟨[],_,rfl,rfl,rfl,?_⟩;have m1:=AAZ (a * (a / 1009+69621)) (show (2147483647:Int)≠0 by decide);have m2:=AAa (a * (a / 1009+69621)) (show (0:Int)<2147483647 by decide);have m3:=AAZ (b * 48271) (show (2147483629:Int)≠0 by decide);have m4:=AAa (b * 48271) (show (0:Int)<2147483629 by decide);refine A0 ⟨l++[_],_,_,_,by simp[hl],by rw[AAY];rfl,?_,?_,m3,by omega,rfl⟩
   ·omega
   ·omega
  ·rintro τ μ' ⟨l,a,b,o4,hl,rfl,ha,ha2,hb,hb2,rfl⟩;wtm_at "d";refine⟨_,_,rfl,AAm _,λj o e=>.inr ?_,by unfold Cl;simp,q 0 _ ⟨l,rfl,by omega⟩⟩
   match j,e with
   |0,e=>cases e;exact Gi _
theorem Wb(q:∀x:Int,QD (.int x) μ):WP (Eb w [.scr sc,.int 0]) μ QD:=by
 unfold Eb;refine Ar rfl ?_;unfold Ja;wtm_at "d";refine AV (a:=.int (sc.length:Int)) (μ':=μ) ?_ ?_
 ·show some (D.int (((sc.map D.int).length:Nat):Int),μ)=_;rw[AAG]
 wtm_at "d";cases sc with
 |nil=>
  rw[show decide ((0:Int)<((([]:List Int).length:Nat):Int))=false from rfl];refine EF ?_;wtm_at "d";exact⟨_,_,[],rfl,by simp,by unfold Cl;trivial,q 0⟩
 |cons c sc=>
  rw[AAP (show (0:Int)<(((c::sc).length:Nat):Int) by rw[AAI];omega)];refine Ph ?_;wtm_at "d";refine AV (a:=.int c) (μ':=μ) ?_ ?_
  ·show bnd (BU (.scr (c::sc))) (λds=>ixD ds 0) μ=_;rw[Ap (show BU (.scr (c::sc)) μ=some ((c::sc).map D.int,μ) from rfl)];unfold ixD;rw[show atI ((c::sc).map D.int) 0=some (.int c) from Bk (j:=0) rfl];rfl
  exact⟨_,_,[],rfl,by simp,by unfold Cl;trivial,q c⟩
end
theorem ZC:WP (No w [.scr sc]) [] λd _=>d=.bl true:=by
 unfold No;refine Ar rfl ?_;unfold Yh;wtm_at "a";refine Wb λx=>?_;wtm_at "a";refine Q6 λn μ1 x1=>?_;have one:∀{kd:Str} {K:Nat} {μ2:Mh} {o2 o3:Option D} {QS:Fl×Sl->Mh->Prop},(kd = "safe" ∨ kd = "steady" ∨ kd = "whole")->Xs μ2 n K->32<=K->(∀o3 μ3,Xs μ3 n (K-32)->QS (.next,[some (.scr sc),some (.ref n),some (.str kd),o3]) μ3)->WP ((AY (Ai (mOp A5 (mC (.int 2)) (mOp C1 (mOp DS (Cq Lq (AC 1)) (mC (.int 3))) (mC (.int 9)))) (AR 3))
  (sIf (Rq (AS (AJ (GZ w) (AD (AC 1) (AD (AC 2) (AD (AC 3) (AD (mOp C1 (mOp DS (Cq Lq (AC 1)) (mC (.int 3))) (AC 3)) AN))))))) (Am (mC (.bl false))) BB)) [some (.scr sc),some (.ref n),some (.str kd),o3]) μ2 QS:=λ{kd K μ2 o2 o3 QS} hk x2 hK q=>by
  wtm_at "a";refine Sz rfl x2 (by omega) λv μ3 u3 x3=>?_;have m1:=AAZ (v / 3) (show (9:Int)≠0 by decide);have m2:=AAa (v / 3) (show (0:Int)<9 by decide);wtm_at "a";refine Sz rfl x3 (by omega) λv2 μ4 u4 x4=>?_;have m3:=AAZ (v2 / 3) (show 2+v / 3 % 9≠0 by omega);have m4:=AAa (v2 / 3) (show 0<2+v / 3 % 9 by omega);wtm_at "a";refine V0 hk (by omega) (by omega) ⟨m3,m4⟩ x4 (by omega) λμ5 u5 x5=>?_;wtm_at "a";refine EF ?_;wtm_at "a";exact q _ _ (x5.mono (by omega))
 wtm_at "a";refine BP ?_;(with_reducible apply Dy);refine one (o2:=none) (.inl rfl) x1 (by omega) λo3 μ2 x2=>?_;refine A0 (BP ?_);(with_reducible apply Dy);refine one (o2:=none) (.inr (.inl rfl)) x2 (by omega) λo3 μ3 x3=>?_;refine A0 (BP ?_);(with_reducible apply Dy);refine one (o2:=none) (.inr (.inr rfl)) x3 (by omega) λo3 μ4 x4=>?_;refine A0 (DH ?_);wtm_at "a";exact⟨_,_,_,rfl,rfl,by unfold Cl;trivial,rfl⟩
theorem dJ(w:World)(sc:List Int)(h:sc.length<=63):∃μ',No w [.scr sc] []=some (.bl true,μ'):=by
 obtain⟨a,μ',e,rfl⟩:=ZC (w:=w) (sc:=sc);exact⟨μ',e⟩
end K22
open PySem PySem.W PyProof.Rows
local macro_rules | `(tactic| wtm_at "c")=>`(tactic| (refine' Mi.cP ?qa ?ql ?qc ?qk;(case qa=>k_is);(case ql=>k_is);(case qc=>k_is);(case qk=>k_is)))
local macro_rules | `(tactic| wtm_at "q")=>`(tactic| (refine' Mi.cQ ?qa ?qb ?qc ?qd ?qe ?qf;(case qa=>k_is);(case qb=>k_is);(case qc=>k_is);(case qd=>k_is);(case qe=>k_is)))
local macro_rules | `(tactic| wtm_at "o")=>`(tactic| (refine' Mi.cO ?qa ?qb ?qc ?qd ?qe ?qf ?qg ?qh;(case qa=>k_is);(case qb=>k_is);(case qc=>k_is);(case qd=>k_is);(case qe=>k_is);(case qf=>k_is);(case qg=>k_is);(case qh=>k_is)))
local macro_rules | `(tactic| wtm_at "j")=>`(tactic| (refine' Mi.cM ?qa ?qb ?qc ?qd ?qe ?qf ?qg ?qh ?qi ?qj;(case qa=>k_is);(case qb=>k_is);(case qc=>k_is);(case qd=>k_is);(case qe=>k_is);(case qf=>k_is);(case qg=>k_is);(case qh=>k_is);(case qi=>k_is);(case qj=>k_is)))
local macro_rules | `(tactic| wtm_at "h")=>`(tactic| (refine' Mi.a0 ?pl ?pe;(case pl=>k_is);(case pe=>rfl)))
set_option maxRecDepth 100000 in
set_option maxHeartbeats 0 in
theorem PySem.Challenge.cw_strongboxes_k22_a_get_beside_puts_holds : PySem.Challenge.rw_strongboxes_k22_a_get_beside_puts.Holds := by
 w_on;o_law;k_head;(case hw=>w_witness2)
 k_fill
 refine Mi.ax (k:=17) (l:=PySem.Challenge.rw_strongboxes_k22_a_get_beside_puts) rfl rfl (by decide) (λw h Y=>PySem.W.kIn_of Y) ?F
 case F=>
  intro w mg fa h KX G hmg;refine' K22.ak (K22.dJ w) ⟨KX,G,?e0,?e1,?e2,?e3,?e4,?e5,?e6,?e7,?e8,?e9,?e10,?e11,?e12,?e13,?e14,?e15,?e16,?e17,?e18,?e19,?e20,?e21,?e22,?e23,?e24,?e25,?e26,?e27,?e28,?e29,?e30,?e31,?e32,?e33,?e34,?e35,?e36,?e37,?e38,?e39,?e40,?e41,?e42,?e43,?e44,?e45,?e46,?e47,?e48,?e49,?e50,(PySem.W.mg_none_of KX G ?z0),(PySem.W.mg_none_of KX G ?z1),(PySem.W.mg_none_of KX G ?z2),(PySem.W.mg_none_of KX G ?z3),(PySem.W.mg_none_of KX G ?z4),(PySem.W.mg_none_of KX G ?z5),(PySem.W.mg_none_of KX G ?z6),(PySem.W.mg_none_of KX G ?z7),(PySem.W.mg_none_of KX G ?z8),(PySem.W.mg_none_of KX G ?z9),(PySem.W.mg_none_of KX G ?z10),(PySem.W.mg_none_of KX G ?z11),?gk0,?gk1,?gk2,?gk3,?gk4⟩ hmg
  (case e0=>wtm_at "c")
  (case e1=>wtm_at "c")
  (case e2=>wtm_at "c")
  (case e3=>wtm_at "c")
  (case e4=>wtm_at "c")
  (case e5=>wtm_at "c")
  (case e6=>wtm_at "o")
  (case e7=>wtm_at "c")
  (case e8=>wtm_at "c")
  (case e9=>wtm_at "c")
  (case e10=>wtm_at "j")
  (case e11=>wtm_at "c")
  (case e12=>wtm_at "c")
  (case e13=>wtm_at "c")
  (case e14=>wtm_at "c")
  (case e15=>wtm_at "c")
  (case e16=>wtm_at "c")
  (case e17=>wtm_at "c")
  (case e18=>wtm_at "c")
  (case e19=>wtm_at "c")
  (case e20=>wtm_at "c")
  (case e21=>wtm_at "c")
  (case e22=>wtm_at "c")
  (case e23=>wtm_at "c")
  (case e24=>wtm_at "c")
  (case e25=>wtm_at "c")
  (case e26=>wtm_at "c")
  (case e27=>wtm_at "c")
  (case e28=>wtm_at "j")
  (case e29=>wtm_at "j")
  (case e30=>wtm_at "c")
  (case e31=>wtm_at "c")
  (case e32=>wtm_at "c")
  (case e33=>wtm_at "c")
  (case e34=>wtm_at "c")
  (case e35=>wtm_at "j")
  (case e36=>wtm_at "c")
  (case e37=>wtm_at "c")
  (case e38=>wtm_at "c")
  (case e39=>wtm_at "c")
  (case e40=>wtm_at "j")
  (case e41=>wtm_at "c")
  (case e42=>wtm_at "c")
  (case e43=>wtm_at "c")
  (case e44=>wtm_at "c")
  (case e45=>wtm_at "c")
  (case e46=>wtm_at "c")
  (case e47=>wtm_at "c")
  (case e48=>wtm_at "c")
  (case e49=>wtm_at "c")
  (case e50=>wtm_at "q";exact⟨by k_is,by k_is,by k_is,by k_is,by k_is,by k_is,trivial⟩)
  (case z0=>k_is)
  (case z1=>k_is)
  (case z2=>k_is)
  (case z3=>k_is)
  (case z4=>k_is)
  (case z5=>k_is)
  (case z6=>k_is)
  (case z7=>k_is)
  (case z8=>k_is)
  (case z9=>k_is)
  (case z10=>k_is)
  (case z11=>k_is)
  (case gk0=>refine' Mi.L8 KX G ?qa;(case qa=>k_is))
  (case gk1=>refine' Mi.L8 KX G ?qa;(case qa=>k_is))
  (case gk2=>refine' Mi.L8 KX G ?qa;(case qa=>k_is))
  (case gk3=>refine' Mi.YG (xs:=["let", "jump", "unless"]) KX G ?qa ?ql ?qh;(case qa=>k_is);(case ql=>wtm_at "h");(case qh=>decide))
  (case gk4=>refine' Mi.Xy KX G ?qa ?ql ?qk ?qs ?qT;(case qa=>k_is);(case ql=>k_is);(case qk=>exact⟨⟨_,_,rfl,rfl⟩,⟨⟨_,_,rfl,rfl⟩,⟨⟨_,_,rfl,rfl⟩,⟨⟨_,_,rfl,rfl⟩,⟨⟨_,_,rfl,rfl⟩,⟨⟨_,_,rfl,rfl⟩,⟨⟨_,_,rfl,rfl⟩,trivial⟩⟩⟩⟩⟩⟩⟩);(case qs=>rfl);(case qT=>refine' ⟨_,_,_,_,_,rfl,rfl,rfl,?qt,?qu,?_⟩;(case qt=>wtm_at "h");(case qu=>decide);refine' ⟨_,_,_,_,_,rfl,rfl,rfl,?qt,?qu,?_⟩;(case qt=>wtm_at "h");(case qu=>decide);refine' ⟨_,_,_,_,_,rfl,rfl,rfl,?qt,?qu,?_⟩;(case qt=>wtm_at "h");(case qu=>decide);refine' ⟨_,_,_,_,_,rfl,rfl,rfl,?qt,?qu,?_⟩;(case qt=>wtm_at "h");(case qu=>decide);refine' ⟨_,_,_,_,_,rfl,rfl,rfl,?qt,?qu,?_⟩;(case qt=>wtm_at "h");(case qu=>decide);refine' ⟨_,_,_,_,_,rfl,rfl,rfl,?qt,?qu,?_⟩;(case qt=>wtm_at "h");(case qu=>decide);refine' ⟨_,_,_,_,_,rfl,rfl,rfl,?qt,?qu,?_⟩;(case qt=>wtm_at "h");(case qu=>decide);rfl))

import PyProof.Rows.All
import Wide.All
import Wide.FinOn
import OpenK.KLine
import KE.KPairTest
import KE.KDictSum
import KE.KDictOf
import KE.KRevSl
import KE.KDictList
import KE.KIsAll
import KE.KPairComp
import KE.KItem
import PyProof.EqAt
import PyProof.EqKinds
import PyProof.TupleCall
import OpenK.AllK
import KE.KSortTup
import KE.KSortAsk
import PySem.Challenge.RW_strongboxes_k93_whole_whole_boxes_by_all
set_option Elab.async false
set_option linter.all false
set_option maxRecDepth 100000
set_option maxHeartbeats 4000000
set_option autoImplicit true
set_option relaxedAutoImplicit true
section
open PySem PySem.W PyProof.Rows
abbrev AAA:=@wpAny_bind
abbrev AAB:=@wpAny_pure
abbrev AAC:=@Heap.get?_push_of_some
abbrev AAD:=@Heap.get?_push_size
abbrev AAE:=@Nat.le_refl
abbrev AAF:=@List.length_map
abbrev AAG:=@List.length_append
abbrev AAH:=@List.length_cons
abbrev AAI:=@List.mem_cons
abbrev AAJ:=@List.mem_append
abbrev AAK:=@List.mem_singleton
abbrev AAL:=@List.mem_map
abbrev AAM:=@Nat.lt_of_lt_of_le
abbrev AAN:=@decide_eq_false
abbrev AAO:=@decide_eq_true
abbrev AAP:=@List.mem_cons_self
abbrev AAQ:=@List.mem_cons_of_mem
abbrev AAR:=@List.getElem?_append_right
abbrev AAS:=@List.getElem?_append_left
abbrev AAT:=@List.getElem?_eq_some_iff
abbrev AAU:=@List.mem_of_getElem?
abbrev AAV:=@List.getElem?_map
abbrev AAW:=@List.map_cons
abbrev AAX:=@List.map_append
abbrev AAY:=@Int.emod_nonneg
abbrev AAZ:=@Int.emod_lt_of_pos
abbrev AAa:=@List.append_nil
abbrev AAb:=@List.mem_append_right
abbrev AAc:=@List.mem_append_left
abbrev AAd:=@wpAny_call_entry
abbrev AAe:=@Nat.ne_of_lt
abbrev AAf:=@beq_eq_false_iff_ne
abbrev AAg:=@List.set_append_right
abbrev AAh:=@Bool.false_ne_true
abbrev AAi:=@Nat.lt_succ_of_lt
abbrev AAj:=@wpAny_mono
abbrev AAk:=@Nat.zero_le
abbrev AAl:=@List.replicate_succ
abbrev AAm:=@List.append_assoc
abbrev AAn:=@List.length_replicate
abbrev AAo:=@List.getElem?_set_ne
abbrev AAp:=@wpAny_holding
abbrev AAq:=@wpAny_newObj_type
abbrev AAr:=@Nat.lt_of_le_of_lt
abbrev AAs:=@Nat.le_trans
abbrev AAt:=@List.getElem?_eq_getElem
abbrev AAu:=@Nat.sub_self
abbrev AAv:=@List.length_set
abbrev AAw:=@Nat.lt_irrefl
abbrev AAx:=@List.pairwise_cons
end
noncomputable def PySem.W.Fast.tw9208301658809603146:Nat:=0
noncomputable def PySem.W.Fast.tw3817487394311136262:Nat:=0
noncomputable def PySem.W.Fast.tw1158790002455658884:Nat:=0
noncomputable def PySem.W.Fast.tw15859856690647871375:Nat:=0
noncomputable def PySem.W.Fast.tw4485466686890366513:Nat:=0
noncomputable def PySem.W.Fast.tw12924210493713742512:Nat:=0
noncomputable def PySem.W.Fast.tw13188698126631283428:Nat:=0
noncomputable def PySem.W.Fast.tw10732175713010751562:Nat:=0
noncomputable def PySem.W.Fast.tw4504822432459214131:Nat:=0
noncomputable def PySem.W.Fast.tw16062713133516145131:Nat:=0
noncomputable def PySem.W.Fast.tw16259094224571287722:Nat:=0
noncomputable def PySem.W.Fast.tw10454488224342064980:Nat:=0
noncomputable def PySem.W.Fast.tw6133038238925249750:Nat:=0
noncomputable def PySem.W.Fast.tw7509595838762000861:Nat:=0
noncomputable def PySem.W.Fast.tw17579598000176272660:Nat:=0
noncomputable def PySem.W.Fast.tw17798672802116957919:Nat:=0
noncomputable def PySem.W.Fast.tw11115555813341541263:Nat:=0
noncomputable def PySem.W.Fast.tw3701265816500200269:Nat:=0
noncomputable def PySem.W.Fast.tw11184987969321056868:Nat:=0
noncomputable def PySem.W.Fast.tw17854153148325536073:Nat:=0
noncomputable def PySem.W.Fast.tw11009018434133918476:Nat:=0
noncomputable def PySem.W.Fast.tw6502398352513054661:Nat:=0
noncomputable def PySem.W.Fast.tw289697769202222772:Nat:=0
noncomputable def PySem.W.Fast.tw2769093045990606071:Nat:=0
noncomputable def PySem.W.Fast.tw567618610397482772:Nat:=0
noncomputable def PySem.W.Fast.tw429897203345224992:Nat:=0
noncomputable def PySem.W.Fast.tw12094769525958758486:Nat:=0
noncomputable def PySem.W.Fast.tw14419894409167091660:Nat:=0
noncomputable def PySem.W.Fast.tw15242583778959080046:Nat:=0
noncomputable def PySem.W.Fast.tw12556402349175996520:Nat:=0
noncomputable def PySem.W.Fast.tw6758446902361502583:Nat:=0
noncomputable def PySem.W.Fast.tw17828949410048296317:Nat:=0
noncomputable def PySem.W.Fast.tw15774200389275376127:Nat:=0
noncomputable def PySem.W.Fast.tw10369765303547949651:Nat:=0
noncomputable def PySem.W.Fast.tw16283964282004081065:Nat:=0
noncomputable def PySem.W.Fast.tw12071416643845550260:Nat:=0
noncomputable def PySem.W.Fast.tw3867131426325635432:Nat:=0
noncomputable def PySem.W.Fast.tw3092468401276639571:Nat:=0
noncomputable def PySem.W.Fast.tw5772084498010251258:Nat:=0
noncomputable def PySem.W.Fast.tw1331591889893541613:Nat:=0
noncomputable def PySem.W.Fast.tw2362555043183586923:Nat:=0
noncomputable def PySem.W.Fast.tw12220301686249356403:Nat:=0
noncomputable def PySem.W.Fast.tw15070882077673709977:Nat:=0
noncomputable def PySem.W.Fast.tw3516317323229076397:Nat:=0
noncomputable def PySem.W.Fast.tw7613017398655849387:Nat:=0
noncomputable def PySem.W.Fast.tw15122577732595923185:Nat:=0
noncomputable def PySem.W.Fast.tw15961132567222063647:Nat:=0
noncomputable def PySem.W.Fast.tw15455898540031901553:Nat:=0
noncomputable def PySem.W.Fast.tw145417292930749278:Nat:=0
noncomputable def PySem.W.Fast.tw11032875548658634574:Nat:=0
noncomputable def PySem.W.Fast.tw6576437214873392991:Nat:=0
noncomputable def PySem.W.Fast.tw7196457854033991319:Nat:=0
noncomputable def PySem.W.Fast.tw13659728770070233235:Nat:=0
noncomputable def PySem.W.Fast.tw10209159195443838326:Nat:=0
noncomputable def PySem.W.Fast.tw12459290526254269876:Nat:=0
noncomputable def PySem.W.Fast.tw756639020054686355:Nat:=0
noncomputable def PySem.W.Fast.tw1645791316207076268:Nat:=0
noncomputable def PySem.W.Fast.tw17355623805208873510:Nat:=0
noncomputable def PySem.W.Fast.tw17815948955337838816:Nat:=0
noncomputable def PySem.W.Fast.tw8537099347552273018:Nat:=0
noncomputable def PySem.W.Fast.tw6363035783148439486:Nat:=0
noncomputable def PySem.W.Fast.tw13278623403182057299:Nat:=0
noncomputable def PySem.W.Fast.tw6019148491709768056:Nat:=0
noncomputable def PySem.W.Fast.tw16964904510279554512:Nat:=0
noncomputable def PySem.W.Fast.tw6568231938783437618:Nat:=0
noncomputable def PySem.W.Fast.tw17765630184077695923:Nat:=0
noncomputable def PySem.W.Fast.tw1134756989159527743:Nat:=0
noncomputable def PySem.W.Fast.tw16269187545129476327:Nat:=0
noncomputable def PySem.W.Fast.tw1904082917655279927:Nat:=0
noncomputable def PySem.W.Fast.tw18373103391695077873:Nat:=0
noncomputable def PySem.W.Fast.tw3801388570865382719:Nat:=0
noncomputable def PySem.W.Fast.tw13613627489570445913:Nat:=0
noncomputable def PySem.W.Fast.tw14125186780533606480:Nat:=0
noncomputable def PySem.W.Fast.tw16345726730812194622:Nat:=0
noncomputable def PySem.W.Fast.tw12368581426991893897:Nat:=0
noncomputable def PySem.W.Fast.tw6222740723154249799:Nat:=0
noncomputable def PySem.W.Fast.tw14434551841158534041:Nat:=0
noncomputable def PySem.W.Fast.tw9501516574200324690:Nat:=0
noncomputable def PySem.W.Fast.tw14275098326841545336:Nat:=0
noncomputable def PySem.W.Fast.tw7601541280463567917:Nat:=0
noncomputable def PySem.W.Fast.tw14037547887695979710:Nat:=0
noncomputable def PySem.W.Fast.tw4537878282538124455:Nat:=0
noncomputable def PySem.W.Fast.tw9107282707990372362:Nat:=0
noncomputable def PySem.W.Fast.tw16905648763134286593:Nat:=0
noncomputable def PySem.W.Fast.tw11863816258402907938:Nat:=0
noncomputable def PySem.W.Fast.tw18413987984880872287:Nat:=0
noncomputable def PySem.W.Fast.tw15624464532214268644:Nat:=0
noncomputable def PySem.W.Fast.tw7464760361901611186:Nat:=0
noncomputable def PySem.W.Fast.tw15735353842024667508:Nat:=0
noncomputable def PySem.W.Fast.tw18213213885750358876:Nat:=0
noncomputable def PySem.W.Fast.tw9253283526360413980:Nat:=0
noncomputable def PySem.W.Fast.tw2133127021617969129:Nat:=0
noncomputable def PySem.W.Fast.tw15947818887478585396:Nat:=0
noncomputable def PySem.W.Fast.tw14778656618242025357:Nat:=0
noncomputable def PySem.W.Fast.tw9731674981337570690:Nat:=0
noncomputable def PySem.W.Fast.tw1133749018268940111:Nat:=0
noncomputable def PySem.W.Fast.tw10642930561808638681:Nat:=0
noncomputable def PySem.W.Fast.tw9079519669463272127:Nat:=0
noncomputable def PySem.W.Fast.tw6492426821463305628:Nat:=0
noncomputable def PySem.W.Fast.tw6538412556591407704:Nat:=0
noncomputable def PySem.W.Fast.tw4174311074999006214:Nat:=0
noncomputable def PySem.W.Fast.tw2872521149154914599:Nat:=0
noncomputable def PySem.W.Fast.tw16805845006811355513:Nat:=0
noncomputable def PySem.W.Fast.tw13709052611320629310:Nat:=0
noncomputable def PySem.W.Fast.tw5829411169271259398:Nat:=0
noncomputable def PySem.W.Fast.tw8229651030312831167:Nat:=0
noncomputable def PySem.W.Fast.tw5287107318021102044:Nat:=0
noncomputable def PySem.W.Fast.tw3174190729324154990:Nat:=0
noncomputable def PySem.W.Fast.tw17157522442136339838:Nat:=0
noncomputable def PySem.W.Fast.tw13850632416713174455:Nat:=0
noncomputable def PySem.W.Fast.tw9051575200359089399:Nat:=0
noncomputable def PySem.W.Fast.tw9837925677050161415:Nat:=0
noncomputable def PySem.W.Fast.tw9070209417357613025:Nat:=0
noncomputable def PySem.W.Fast.tw9062045730953869808:Nat:=0
noncomputable def PySem.W.Fast.tw7912184635364919167:Nat:=0
noncomputable def PySem.W.Fast.tw6637436829860272692:Nat:=0
noncomputable def PySem.W.Fast.tw5851018040043036662:Nat:=0
noncomputable def PySem.W.Fast.tw5420625953278441630:Nat:=0
noncomputable def PySem.W.Fast.tw3772288150544037613:Nat:=0
noncomputable def PySem.W.Fast.tw3420760778720465017:Nat:=0
namespace L2
open PySem PySem.Spec PyProof.Rows
abbrev Key:=Sum Int Str
noncomputable def JF:Key->Value->Bool
 | .inl k,v=>Value.isInt k v
 | .inr x,v=>Value.isStrOf x v
noncomputable def ZF(w:World):Key->Int
 | .inl k=>hashInt k
 | .inr x=>hashStr w x
theorem BZ:∀{k:Key} {v:Value},JF k v=true->(∃i t,k=Sum.inl i/\v=Value.int i t)∨(∃x t,k=Sum.inr x/\v=Value.str x t)
 | .inl i,v,h=>by
  obtain⟨t,e⟩:=Value.isInt_shape (k:=i) (v:=v) h;exact .inl ⟨i,t,rfl,e⟩
 | .inr x,v,h=>by
  obtain⟨t,e⟩:=Value.isStrOf_shape (x:=x) (v:=v) h;exact .inr ⟨x,t,rfl,e⟩
theorem Oe(i:Int)(t:Tok):JF (.inl i) (.int i t)=true:=by simp[JF,Value.isInt]
theorem Oc(x:Str)(t:Tok):JF (.inr x) (.str x t)=true:=by simp[JF,Value.isStrOf]
theorem WV(a b:Int):decide ((Sum.inl a:Key)=Sum.inl b)=(a==b):=by
 by_cases e:a=b
 ·subst e;simp
 ·have h:¬(Sum.inl a:Key)=Sum.inl b:=λq=>e (Sum.inl.inj q);rw[AAN h];exact(AAf.mpr e).symm
theorem WS(a b:Str):decide ((Sum.inr a:Key)=Sum.inr b)=decide (a=b):=by
 by_cases e:a=b
 ·subst e;simp
 ·have h:¬(Sum.inr a:Key)=Sum.inr b:=λq=>e (Sum.inr.inj q);rw[AAN h,AAN e]
theorem WU(a:Int)(b:Str):decide ((Sum.inl a:Key)=Sum.inr b)=false:=AAN (λq=>nomatch q)
theorem WT(a:Str)(b:Int):decide ((Sum.inr a:Key)=Sum.inl b)=false:=AAN (λq=>nomatch q)
noncomputable def Bl(prog:Program)(w:World):PySem.KeyKind prog w Key where
 is:=JF
 hash:=ZF w
 inj:=λv a b ha hb=>by
  rcases BZ ha with ⟨i,t,rfl,rfl⟩|⟨x,t,rfl,rfl⟩
  ·rcases BZ hb with ⟨j,u,rfl,e⟩|⟨y,u,rfl,e⟩
   ·injection e with e1 _;rw[e1]
   ·exact nomatch e
  ·rcases BZ hb with ⟨j,u,rfl,e⟩|⟨y,u,rfl,e⟩
   ·exact nomatch e
   ·injection e with e1 _;rw[e1]
 byValue:=λk v h=>by
  rcases BZ h with ⟨i,t,rfl,rfl⟩|⟨x,t,rfl,rfl⟩<;>rfl
 pyHash:=λhv h=>by
  rcases BZ hv with ⟨i,t,rfl,rfl⟩|⟨x,t,rfl,rfl⟩
  ·exact wpAny_pyHash_int h
  ·exact wpAny_pyHash_str h
 eqBool:=λhu hv h=>by
  rcases BZ hu with ⟨i,t,rfl,rfl⟩|⟨x,t,rfl,rfl⟩
  ·rcases BZ hv with ⟨j,u,rfl,rfl⟩|⟨y,u,rfl,rfl⟩
   ·rw[WV] at h;exact wpAny_eqBool_int h
   ·rw[WU] at h;exact SeqAt.EqAt.int_str i t y u _ _ _ _ h
  ·rcases BZ hv with ⟨j,u,rfl,rfl⟩|⟨y,u,rfl,rfl⟩
   ·rw[WT] at h;exact SeqAt.EqAt.str_int x t j u _ _ _ _ h
   ·rw[WS] at h;exact wpAny_eqBool_str h
 «strs»:=λk x t v h=>by
  rcases BZ h with ⟨i,u,rfl,e⟩|⟨y,u,rfl,e⟩
  ·exact nomatch e
  ·injection e with e1 _
   subst e1;cases v<;>rfl
theorem LH(prog:Program)(w:World)(i:Int)(t:Tok):(Bl prog w).is (.inl i) (.int i t)=true:=Oe i t
theorem LG(prog:Program)(w:World)(x:Str)(t:Tok):(Bl prog w).is (.inr x) (.str x t)=true:=Oc x t
inductive V where
 |non|bl (b:Bool)|int (i:Int)|str (x:Str)|byt (b:Array UInt8)|flt (b:UInt64)|ref (a:Addr)|ty (n:String)
 deriving DecidableEq
def RelV:V->Value->Prop
 | .non,u=>u=Value.none
 | .bl b,u=>u=Value.bool b
 | .int i,u=>∃t,u=Value.int i t
 | .str x,u=>∃t,u=Value.str x t
 | .byt b,u=>∃t,u=Value.bytes b t
 | .flt b,u=>∃t,u=Value.float b t
 | .ref a,u=>u=Value.ref a
 | .ty n,u=>u=Value.type n
abbrev Vals:List V->List Value->Prop:=Paired RelV
theorem Vals.length(r:Vals xs us):xs.length=us.length:=Paired.length r
theorem Vals.get:∀{xs:List V} {us:List Value} {i:Nat} {x:V},Vals xs us->xs[i]?=some x->∃u,us[i]?=some u/\RelV x u
 |_,_,_,_,.nil,e=>by simp at e
 |_,_,0,_,.cons r _,e=>by simp at e;subst e;exact⟨_,rfl,r⟩
 |_,_,i+1,x,.cons _ t,e=>by
  obtain⟨u,h1,h2⟩:=Vals.get (i:=i) (x:=x) t (by simpa using e);exact⟨u,by simpa using h1,h2⟩
theorem Vals.set(r:RelV x u):∀{xs:List V} {us:List Value} (i:Nat),Vals xs us->Vals (xs.set i x) (us.set i u)
 |_,_,_,.nil=>.nil
 |_,_,0,.cons _ t=>.cons r t
 |_,_,i+1,.cons q t=>.cons q (Vals.set r i t)
theorem Vals.append:∀{xs ys:List V} {us ws:List Value},Vals xs us->Vals ys ws->Vals (xs++ys) (us++ws)
 |_,_,_,_,.nil,s=>s
 |_,_,_,_,.cons r t,s=>.cons r (Vals.append t s)
theorem Vals.take:∀{xs:List V} {us:List Value} (n:Nat),Vals xs us->Vals (xs.take n) (us.take n)
 |_,_,0,_=>.nil
 |_,_,_+1,.nil=>.nil
 |_,_,n+1,.cons r t=>.cons r (Vals.take n t)
theorem Vals.drop:∀{xs:List V} {us:List Value} (n:Nat),Vals xs us->Vals (xs.drop n) (us.drop n)
 |_,_,0,r=>r
 |_,_,_+1,.nil=>.nil
 |_,_,n+1,.cons _ t=>Vals.drop n t
noncomputable def RelO:Option V->Option Value->Prop
 |some v,some u=>RelV v u
 |none,none=>True
 |_,_=>False
noncomputable def KV{κ:Type}:List (κ×V)->List (κ×Value)->Prop:=Paired λ(p:κ×V) (q:κ×Value)=>p.1=q.1/\RelV p.2 q.2
noncomputable def kV:Key->V
 | .inl i=>.int i
 | .inr x=>.str x
inductive HO where
 |lst (xs:List V)
 |tup (xs:List V)
 |dK (kvs:List (Key×V))|dT (kvs:List (List Key×V))
 |set (S:Int->Bool) (n:Nat)
 |ins (C dx:Addr) (fs:List (Str×V))
 |own (x:Addr)
 |xd (fs:List (Str×V))
 |met (f x:Addr)
 |rng (lo hi:Int)
 |frz (o:Obj) (u:HO)
 |tbl (ps:Array Value)
 |ext (φ:Heap->Prop)
abbrev Hp:=Addr->Option HO
noncomputable def upd(H:Hp)(a:Addr)(o:HO):Hp:=λb=>if b=a then some o else H b
theorem Bw:upd H a o a=some o:=by unfold upd;rw[if_pos rfl]
theorem AS(h:b≠a):upd H a o b=H b:=by unfold upd;rw[if_neg h]
theorem X7{H:Hp}(h:H a=some o)(h':H b=some u)(d:o≠u):a≠b:=by
 intro e;subst e;rw[h] at h';exact d (Option.some.inj h')
theorem Cc{H:Hp}(h:H a=some o)(h':H b=none):a≠b:=by
 intro e;subst e;rw[h] at h';cases h'
section
variable(P:Program)(w:World)
noncomputable def ObjOk(H:Hp)(h:Heap)(a:Addr):HO->Prop
 | .lst xs=>xs.length<=sizeLine/\∃(its:List Value) (n:Nat),Vals xs its/\h.get? a=some { cls:=.type "list",data:=.seq its.toArray n }
 | .tup xs=>xs.length<=sizeLine/\∃its:List Value,Vals xs its/\IsTup h a its.toArray
 | .dK kvs=>kvs.length<=sizeLine/\(a==sysModules)=false/\∃vs,KV kvs vs/\h.DictOf (Bl P w) a vs
 | .dT kvs=>kvs.length<=sizeLine/\(a==sysModules)=false/\∃xs:List (List Key×Addr×Value),
   Paired (λ(p:List Key×V) (q:List Key×Addr×Value)=>p.1=q.1/\H q.2.1=some (.tup (p.1.map kV))/\RelV p.2 q.2.2) kvs xs /\
   ∃o es ep,h.get? a=some o/\o.ExactDict/\o.data=.dict es ep/\es.toList=xs.map (entryOfKey (tupleKind (Bl P w)))/\(xs.map (·.1)).Nodup
 | .set S n=>h.SetOf (intKind P w) a S n
 | .ins C dx fs=>H dx=some (.own a)/\fs.length<=1000/\dx≠a/\h.get? a=some (PySem.W.instObj C dx) /\
   ∃mA,h.Ns1 dx mA/\(∀f,RelO (fs.lookup f) (mA f))/\PySem.Within mA (fs.map (·.1))
 | .own _=>∃o,h.get? a=some o
 | .xd fs=>∃mA,h.Ns1 a mA/\∀f,RelO (fs.lookup f) (mA f)
 | .rng lo hi=>∃t u v,h.get? a=some { cls:=.type "range",data:=.fields #[.int lo t,.int hi u,.int 1 v] }
 | .frz o u=>h.get? a=some o/\ObjOk H h a u
 | .tbl ps=>h.get? a=some { cls:=.none,data:=.fields ps }
 | .met f x=>h.get? a=some (PySem.W.methodObj (.ref f) (.ref x))
 | .ext φ=>φ h/\(∃o,h.get? a=some o)/\∀h1 h2:Heap,φ h1->(∀o,h1.get? a=some o->h2.get? a=some o)->φ h2
def HOk(H:Hp)(h:Heap):Prop:=∀a o,H a=some o->ObjOk P w H h a o
end
section
variable{P:Program}{w:World}{H H':Hp}{h h':Heap}{a:Addr}{o:HO}
theorem ObjOk.lt(x:ObjOk P w H h a o):a<h.objs.size:=by
 cases o with
 |lst xs=>obtain⟨_,_,_,_,e⟩:=x;exact Heap.lt_size e
 |tup xs=>obtain⟨_,_,_,p⟩:=x;exact p.lt
 |dK kvs=>obtain⟨_,_,_,_,o,_,_,e,_⟩:=x;exact Heap.lt_size e
 |dT kvs=>obtain⟨_,_,_,_,o,_,_,e,_⟩:=x;exact Heap.lt_size e
 |set S n=>obtain⟨o,_,_,_,e,_⟩:=x;exact Heap.lt_size e
 |ins C dx fs=>obtain⟨_,_,_,e,_⟩:=x;exact Heap.lt_size e
 |own y=>obtain⟨_,e⟩:=x;exact Heap.lt_size e
 |xd fs=>obtain⟨_,⟨_,_,_,e,_⟩,_⟩:=x;exact Heap.lt_size e
 |rng lo hi=>obtain⟨_,_,_,e⟩:=x;exact Heap.lt_size e
 |frz ob u=>obtain⟨e,_⟩:=x;exact Heap.lt_size e
 |tbl ps=>exact Heap.lt_size (show h.get? a=some _ from x)
 |met f y=>exact Heap.lt_size (show h.get? a=some _ from x)
 |ext φ=>obtain⟨_,⟨_,e⟩,_⟩:=x;exact Heap.lt_size e
theorem Paired.mapP:∀{l₁:List α} {l₂:List β},Paired F l₁ l₂->(∀a b,F a b->G a b)->Paired G l₁ l₂
 |_,_,.nil,_=>.nil
 |_,_,.cons r t,f=>.cons (f _ _ r) (Paired.mapP t f)
theorem ObjOk.stay(x:ObjOk P w H h a o)(k:∀b u,(b=a∨H b=some (.own a))->h.get? b=some u->h'.get? b=some u)
  (ho:∀b,H b=some (.own a)->H' b=some (.own a)) (ht:∀b xs,H b=some (.tup xs)->H' b=some (.tup xs)):ObjOk P w H' h' a o:=by
 induction o with
 |lst xs=>obtain⟨z,its,n,r,e⟩:=x;exact⟨z,its,n,r,k _ _ (.inl rfl) e⟩
 |tup xs=>obtain⟨z,its,r,ob,e,c⟩:=x;exact⟨z,its,r,ob,k _ _ (.inl rfl) e,c⟩
 |dK kvs=>obtain⟨z,y,vs,r,ob,es,ep,e,c⟩:=x;exact⟨z,y,vs,r,ob,es,ep,k _ _ (.inl rfl) e,c⟩
 |dT kvs=>
  obtain⟨z,y,xs,r,ob,es,ep,e,c⟩:=x;exact⟨z,y,xs,Paired.mapP r λp q z=>⟨z.1,ht _ _ z.2.1,z.2.2⟩,ob,es,ep,k _ _ (.inl rfl) e,c⟩
 |set S n=>obtain⟨ob,es,ep,t,e,c⟩:=x;exact⟨ob,es,ep,t,k _ _ (.inl rfl) e,c⟩
 |ins C dx fs=>
  obtain⟨d,z,ne,e,mA,⟨od,es,ep,e2,c⟩,r⟩:=x;exact⟨ho _ d,z,ne,k _ _ (.inl rfl) e,mA,⟨od,es,ep,k _ _ (.inr d) e2,c⟩,r⟩
 |own y=>obtain⟨ob,e⟩:=x;exact⟨ob,k _ _ (.inl rfl) e⟩
 |xd fs=>obtain⟨mA,⟨od,es,ep,e,c⟩,r⟩:=x;exact⟨mA,⟨od,es,ep,k _ _ (.inl rfl) e,c⟩,r⟩
 |rng lo hi=>obtain⟨t,u,v,e⟩:=x;exact⟨t,u,v,k _ _ (.inl rfl) e⟩
 |frz ob u ih=>obtain⟨e,q⟩:=x;exact⟨k _ _ (.inl rfl) e,ih q⟩
 |tbl ps=>
  have e:h.get? a=some { cls:=.none,data:=.fields ps }:=x;show h'.get? a=some { cls:=.none,data:=.fields ps };exact k a _ (.inl rfl) e
 |met f y=>
  have e:h.get? a=some (PySem.W.methodObj (.ref f) (.ref y)):=x;show h'.get? a=some (PySem.W.methodObj (.ref f) (.ref y));exact k a _ (.inl rfl) e
 |ext φ=>obtain⟨p,⟨o,e⟩,st⟩:=x;exact⟨st _ _ p λo q=>k _ _ (.inl rfl) q,⟨o,k _ _ (.inl rfl) e⟩,st⟩
theorem HOk.lt(x:HOk P w H h)(e:H a=some o):a<h.objs.size:=(x a o e).lt
theorem HOk.fresh(x:HOk P w H h)(e:h.objs.size<=a):H a=none:=by
 cases q:H a with
 |none=>rfl
 |some u=>exact absurd (AAM (x.lt q) e) (AAw _)
theorem HOk.kept(x:HOk P w H h)(k:∀b u,h.get? b=some u->h'.get? b=some u):HOk P w H h':=λa o e=>
 (x a o e).stay (λb u _ q=>k b u q) (λ_ q=>q) λ_ _ q=>q
theorem HOk.laid(x:HOk P w H h)(k:∀b u,h.get? b=some u->h'.get? b=some u)(hp:h.objs.size<=a)(new:ObjOk P w (upd H a o) h' a o):HOk P w (upd H a o) h':=λb u e=>by
 have hn:=x.fresh hp;by_cases hb:b=a
 ·subst hb;rw[Bw] at e;cases e;exact new
 ·rw[AS hb] at e;exact(x b u e).stay (λc v _ q=>k c v q) (λc q=>by rw[AS (Cc q hn)];exact q) λc xs q=>by rw[AS (Cc q hn)];exact q
end
def Rd(H:Hp)(a:Addr)(u:HO):Prop:=H a=some u∨∃o,H a=some (.frz o u)
theorem Rd.ok(r:Rd H a u)(x:HOk P w H h):ObjOk P w H h a u:=by
 rcases r with r|⟨o,r⟩
 ·exact x a u r
 ·obtain⟨_,q⟩:=x a _ r;exact q
noncomputable def Mut:Option HO->Prop
 |some (.lst _)=>True
 |some (.dK _)=>True
 |some (.dT _)=>True
 |some (.set _ _)=>True
 |some (.ins _ _ _)=>True
 |some (.ext _)=>True
 |_=>False
section
variable{P:Program}{w:World}{H:Hp}{h h':Heap}{x e:Addr}{o':HO}
theorem HOk.write(ok:HOk P w H h)(mu:Mut (H x))(he:e=x∨H e=some (.own x))(k:∀b u,b≠e->h.get? b=some u->h'.get? b=some u)(heo:∃u,h'.get? e=some u)
  (new:ObjOk P w (upd H x o') h' x o'):HOk P w (upd H x o') h':=λb u q=>by
 have nown:∀c y,H c=some (.own y)->c≠x:=λc y r z=>by subst z;rw[r] at mu;exact mu
 have ntup:∀c xs,H c=some (.tup xs)->c≠x:=λc xs r z=>by subst z;rw[r] at mu;exact mu
 by_cases hb:b=x
 ·subst hb;rw[Bw] at q;cases q;exact new
 ·rw[AS hb] at q;by_cases hbe:b=e
  ·have q':H b=some (.own x):=by
    rcases he with z|z
    ·exact absurd (hbe.trans z) hb
    ·rw[hbe];exact z
   rw[q] at q';cases q';obtain⟨v,hv⟩:=heo;exact⟨v,by rw[hbe];exact hv⟩
  ·refine(ok b u q).stay (λc v hc r=>k c v ?_ r) (λc r=>by rw[AS (nown c b r)];exact r) λc xs r=>by rw[AS (ntup c xs r)];exact r
   rcases hc with rfl|hc
   ·exact hbe
   ·rintro rfl;rcases he with z|z
    ·exact nown c b hc z
    ·rw[hc] at z;cases z;exact hb rfl
end
structure Un(fs ex:List Addr)(H H':Hp)(h h':Heap):Prop where
 keep:∀b o,h.get? b=some o->H b=none->b∉fs->b∉ex->h'.get? b=some o
 slot:∀b o,h.get? b=some o->H b=none->b∈fs->b∉ex->∃sl,h'.get? b=some { o with slots:=sl }
 free:∀b o,h.get? b=some o->H b=none->b∉ex->H' b=none
 there:∀b o,h.get? b=some o->b∉ex->∃o',h'.get? b=some o'
 tups:∀b xs,H b=some (.tup xs)->H' b=some (.tup xs)
 frzs:∀b o u,H b=some (.frz o u)->H' b=some (.frz o u)
 tbls:∀b ps,H b=some (.tbl ps)->∃more,H' b=some (.tbl (ps++more))
section
variable{fs ex:List Addr}{H H1:Hp}{h h1 h':Heap}{a x e:Addr}{o:HO}
theorem Un.any(u:Un fs ex H H1 h h1)(q:h.get? b=some ob)(n:H b=none)(hx:b∉ex):∃sl,h1.get? b=some { ob with slots:=sl }:=by
 by_cases hb:b∈fs
 ·exact u.slot b ob q n hb hx
 ·exact⟨ob.slots,u.keep b ob q n hb hx⟩
theorem Un.kept(k:∀b u,h.get? b=some u->h'.get? b=some u):Un fs ex H H h h':=
 ⟨λb ob q _ _ _=>k b ob q,λb ob q _ _ _=>⟨ob.slots,k b ob q⟩,λ_ _ _ n _=>n,λb ob q _=>⟨ob,k b ob q⟩,λ_ _ q=>q,λ_ _ _ q=>q,λ_ ps q=>⟨#[],by rw[q];simp⟩⟩
theorem Un.refl:Un fs ex H H h h:=Un.kept λ_ _ q=>q
theorem Un.laid(k:∀b u,h.get? b=some u->h'.get? b=some u)(hp:h.objs.size<=a)(hn:H a=none):Un fs ex H (upd H a o) h h' where
 keep:=λb u q _ _ _=>k b u q
 slot:=λb u q _ _ _=>⟨u.slots,k b u q⟩
 free:=λb u q n _=>by rw[AS (AAe (AAM (Heap.lt_size q) hp))];exact n
 there:=λb u q _=>⟨u,k b u q⟩
 tups:=λb xs q=>by rw[AS (Cc q hn)];exact q
 frzs:=λb u xs q=>by rw[AS (Cc q hn)];exact q
 tbls:=λb ps q=>⟨#[],by rw[AS (Cc q hn),q];simp⟩
theorem Un.write(mu:Mut (H x))(he:e=x∨H e=some (.own x))(k:∀b u,b≠e->h.get? b=some u->h'.get? b=some u)(heo:∃u,h'.get? e=some u):Un fs ex H (upd H x o) h h':=by
 have hx:∀b,H b=none->b≠x:=λb n z=>by subst z;rw[n] at mu;exact mu
 have hb:∀b,H b=none->b≠e:=λb n z=>by
  subst z;rcases he with r|r
  ·exact hx b n r
  ·rw[n] at r;cases r
 have hm:∀b u,H b=some u->¬Mut (some u)->b≠x:=λb u q nm z=>by subst z;rw[q] at mu;exact nm mu
 refine⟨λb u q n _ _=>k b u (hb b n) q,λb u q n _ _=>⟨u.slots,k b u (hb b n) q⟩,λb u q n _=>by rw[AS (hx b n)];exact n,λb u q _=>?_,
  λb xs q=>by rw[AS (hm b _ q λz=>z)];exact q,λb u xs q=>by rw[AS (hm b _ q λz=>z)];exact q,λb ps q=>⟨#[],by rw[AS (hm b _ q λz=>z),q];simp⟩⟩
 by_cases hbe:b=e
 ·subst hbe;exact heo
 ·exact⟨u,k b u hbe q⟩
end
noncomputable def trk(h:Heap)(H:Hp):List Addr:=(List.range h.objs.size).filter λa=>(H a).isSome
noncomputable def KI(h:Heap)(H:Hp):Heap:=PySem.W.hideAll h (trk h H)
theorem Ol(h:Heap)(H:Hp):(KI h H).objs.size=h.objs.size:=PySem.W.hideAll_size _ _
theorem RM(e:h.get? b=some o)(n:H b=none):(KI h H).get? b=some o:=
 PySem.W.hideAll_get _ e λhm=>by
  have q:(H b).isSome=true:=(List.mem_filter.mp hm).2;rw[n] at q;simp at q
theorem Tt(e:(KI h H).get? b=some o):h.get? b=some o/\H b=none:=by
 have e':h.get? b=some o:=PySem.W.of_hideAll (trk h H) e;refine⟨e',?_⟩;cases q:H b with
 |none=>rfl
 |some x=>
  have hm:b∈trk h H:=List.mem_filter.mpr ⟨List.mem_range.mpr (Heap.lt_size e'),by simp[q]⟩;have z:(KI h H).get? b=none:=PySem.W.hideAll_none (trk h H) hm;rw[z] at e;cases e
structure Mod(K:PySem.W.Frag)(mg:Str->Option Value)(base:Heap):Prop where
 kin:K.In base
 glob:base.Ns mainGlobals mg
 blt:∃mb,base.Ns builtinsNs mb/\∀x:Str,x ≠ "__name__" -> mb x=bootBuiltins x
 nolimit:base.NoLimit
set_option genInjectivity false in
structure Cx where
 prog:Program
 w:World
 K:PySem.W.Frag
 mg:Str->Option Value
 base:Heap
 A:Around
 N:List Str
 s₀:Shared
 H₀:Hp
 env:Env
 outer:List Env
 stack:List Env
 ex:List Addr
 fn:Str->Bool
 calm:Bool
 pn:List (Addr×Obj)
 xe:Value->Shared->Prop
noncomputable def frs(l:List Env):List Addr:=l.filterMap (·.frame)
noncomputable abbrev Cx.fs(X:Cx):List Addr:=frs X.outer
def Vis(sc:Scope)(x:Str):Prop:=sc.names.lookup x=some .local∨sc.names.lookup x=some .cell∨sc.names.lookup x=some .free
def Loc(sc:Scope)(x:Str):Prop:=sc.names.lookup x=some .local∨sc.names.lookup x=some .cell
def ZX(env:Env)(h:Heap)(m:Str->Option Value)(x:Str)(u:Value):Prop:=
 (env.kindOf x=some .local/\m x=some u)∨((env.kindOf x=some .cell∨env.kindOf x=some .free)/\∃c,env.cells.lookup x=some c/\h.IsCell c (some u))
structure Cx.Ok(X:Cx):Prop where
 mod:Mod X.K X.mg X.base
 kind:X.env.scope.kind=.function
 glob:X.env.globals=mainGlobals
 blt:X.env.builtins=builtinsNs
 above:X.s₀.heap.objs.size<=X.env.locals
 inj:∀x y c,X.env.cells.lookup x=some c->X.env.cells.lookup y=some c->x=y
 has:∀x,(X.env.kindOf x=some .cell∨X.env.kindOf x=some .free)->∃c,X.env.cells.lookup x=some c
 cab:∀x c,X.fn x=true->X.env.cells.lookup x=some c->X.s₀.heap.objs.size<=c
 hd:X.calm=true->X.A.handled=none
 frames:X.A.frames=some X.stack
 stk:X.stack=X.outer∨(X.stack=X.env::X.outer/\X.env.frame=some X.env.locals)
 exf:∀b∈X.ex,b≠X.env.locals/\∀x c,X.env.cells.lookup x=some c->c≠b
 bs:∀b o,X.base.get? b=some o->X.s₀.heap.get? b=some o/\X.H₀ b=none
 bsz:X.base.objs.size<=X.s₀.heap.objs.size
 noex:∀b o,X.base.get? b=some o->b∉X.ex
 exfs:∀b∈X.ex,b∉X.fs
 funs:X.s₀.heap.FunFrames X.base X.outer
 frf:∀b∈X.fs,X.H₀ b=none
structure Inv(X:Cx)(w4:List (Addr×Obj))(O:List (Option V))(H:Hp)(s:Shared):Prop where
 ok:X.Ok
 os:s.os=X.s₀.os
 bare:AllBare s.gens
 base:Un X.fs X.ex X.H₀ H X.s₀.heap s.heap
 loc:∃m,s.heap.Ns X.env.locals m/\∀(i:Nat) (x:Str) (v:V),X.N[i]?=some x->O[i]?=some (some v)->Vis X.env.scope x->∃u,RelV v u/\ZX X.env s.heap m x u
 cell:∀x c,X.env.cells.lookup x=some c->∃v,s.heap.IsCell c v
 free:H X.env.locals=none
 freeC:∀x c,X.env.cells.lookup x=some c->H c=none
 pin:∀p∈X.pn++w4,s.heap.get? p.1=some p.2/\H p.1=none/\p.1≠X.env.locals/\p.1∉X.fs/\∀v,p.2.data≠.cell v
 hok:HOk X.prog X.w H s.heap
 len:O.length=X.N.length
section
variable{X:Cx}{w4:List (Addr×Obj)}{O:List (Option V)}{H H':Hp}{s:Shared}{h':Heap}
theorem Cx.Ok.nofr(ok:X.Ok)(e:X.base.get? b=some o):b∉X.fs:=λhb=>by
 have:=(ok.funs.mem hb).1;rw[e] at this;cases this
theorem Inv.bs(I:Inv X w4 O H s):∀b o,X.base.get? b=some o->s.heap.get? b=some o/\H b=none:=λb o e=>
 ⟨I.base.keep b o (I.ok.bs b o e).1 (I.ok.bs b o e).2 (I.ok.nofr e) (I.ok.noex b o e),I.base.free b o (I.ok.bs b o e).1 (I.ok.bs b o e).2 (I.ok.noex b o e)⟩
theorem Inv.bk(I:Inv X w4 O H s):∀b o,X.base.get? b=some o->s.heap.get? b=some o:=λb o e=>(I.bs b o e).1
theorem Inv.mod(I:Inv X w4 O H s):Mod X.K X.mg X.base:=I.ok.mod
theorem Inv.kIn(I:Inv X w4 O H s):X.K.In s.heap:=I.ok.mod.kin.keeps I.bk
theorem Inv.lt(I:Inv X w4 O H s):X.env.locals<s.heap.objs.size:=let ⟨_,hn,_⟩:=I.loc;hn.lt
theorem Inv.sz(I:Inv X w4 O H s):X.s₀.heap.objs.size<=s.heap.objs.size:=AAs I.ok.above (Nat.le_of_lt I.lt)
theorem Inv.nofs(I:Inv X w4 O H s)(h:s.heap.objs.size<=a):a∉X.fs:=λhb=>by
 obtain⟨_,o,ho,_⟩:=I.ok.funs.mem hb;exact absurd (AAM (Heap.lt_size ho) (AAs I.sz h)) (AAw _)
theorem Inv.cne(I:Inv X w4 O H s):∀x c,X.env.cells.lookup x=some c->c≠X.env.locals:=λx c e z=>by
 obtain⟨v,o,ho,hd⟩:=I.cell x c e;obtain⟨m,⟨o',es,ep,ho',hd',_⟩,_⟩:=I.loc;rw[z,ho'] at ho;cases ho;rw[hd'] at hd;cases hd
theorem Inv.funs(I:Inv X w4 O H s):s.heap.FunFrames X.base X.outer:=by
 have all:∀(l:List Env),(∀b∈frs l,b∈X.fs)->X.s₀.heap.FunFrames X.base l->s.heap.FunFrames X.base l:=by
  intro l
  induction l with
  |nil=>intro _ _;trivial
  |cons env r ih=>
   intro hs hl;obtain⟨hk,⟨L,o,hf,hn,ho,hd⟩,hr⟩:=hl;have hL:L∈X.fs:=hs L (by unfold frs;rw[List.filterMap_cons,hf];exact AAP);obtain⟨sl,e⟩:=I.base.slot L o ho (I.ok.frf L hL) hL λz=>I.ok.exfs L z hL;exact⟨hk,⟨L,_,hf,hn,e,hd⟩,ih (λb hb=>hs b (by unfold frs;rw[List.filterMap_cons,hf];exact AAQ _ hb)) hr⟩
 exact all X.outer (λ_ hb=>hb) I.ok.funs
theorem Inv.stack(I:Inv X w4 O H s):s.heap.FunFrames X.base X.stack:=by
 rcases I.ok.stk with e|⟨e,hf⟩
 ·rw[e];exact I.funs
 ·rw[e];obtain⟨m,hn,_⟩:=I.loc;refine .cons (by rw[I.ok.kind];decide) hf hn ?_ I.funs;exact Heap.get?_none_of_le (AAs I.ok.bsz I.ok.above)
theorem Inv.stkSub(I:Inv X w4 O H s):∀b∈frs X.stack,b∈X.env.locals::X.fs:=λb hb=>by
 rcases I.ok.stk with e|⟨e,hf⟩
 ·rw[e] at hb;exact AAQ _ hb
 ·rw[e] at hb;unfold frs at hb;rw[List.filterMap_cons,hf] at hb;exact hb
theorem Inv.stkFree(I:Inv X w4 O H s):∀b∈frs X.stack,H b=none:=λb hb=>by
 rcases AAI.mp (I.stkSub b hb) with e|hb
 ·rw[e];exact I.free
 ·obtain⟨_,o,ho,_⟩:=I.ok.funs.mem hb;exact I.base.free b o ho (I.ok.frf b hb) λz=>I.ok.exfs b z hb
theorem Inv.step{g':Array GenState}{t':Nat}{ch:List Addr}(I:Inv X w4 O H s)
  (hch:∀b∈ch,(b∈X.ex∨X.s₀.heap.objs.size<=b)/\b≠X.env.locals/\(∀x c,X.env.cells.lookup x=some c->c≠b)/\∀p∈X.pn++w4,p.1≠b)
  (keep:∀b o,b≠X.env.locals->b∉X.fs->b∉ch->s.heap.get? b=some o->H b=none->h'.get? b=some o)
  (slot:∀b o,b≠X.env.locals->b∈X.fs->b∉ch->s.heap.get? b=some o->H b=none->∃sl,h'.get? b=some { o with slots:=sl }) (free:∀b o,b∉ch->s.heap.get? b=some o->H b=none->H' b=none)
  (there:∀b o,b∉ch->s.heap.get? b=some o->∃o',h'.get? b=some o')
  (tups:∀b xs,H b=some (.tup xs)->H' b=some (.tup xs)) (frzs:∀b o u,H b=some (.frz o u)->H' b=some (.frz o u)) (tbls:∀b ps,H b=some (.tbl ps)->∃more,H' b=some (.tbl (ps++more)))
  (ns:∀m,s.heap.Ns X.env.locals m->h'.Ns X.env.locals m) (hok:HOk X.prog X.w H' h') (hg:AllBare g') :
  Inv X w4 O H' { s with heap:=h',gens:=g',drawn:=d',toks:=t' }:=by
 have neL:∀b o,X.s₀.heap.get? b=some o->b≠X.env.locals:=λb o e=>AAe (AAM (Heap.lt_size e) I.ok.above);have neC:∀b o,X.s₀.heap.get? b=some o->b∉X.ex->b∉ch:=λb o e hx hb=>by
  rcases(hch b hb).1 with z|z
  ·exact hx z
  ·exact absurd (AAM (Heap.lt_size e) z) (AAw _)
 have cellK:∀x c,X.env.cells.lookup x=some c->∀v,s.heap.IsCell c v->h'.IsCell c v:=λx c e v ⟨o,ho,hd⟩=>by
  have nch:c∉ch:=λz=>(hch c z).2.2.1 x c e rfl;by_cases hc:c∈X.fs
  ·obtain⟨sl,q⟩:=slot c o (I.cne x c e) hc nch ho (I.freeC x c e);exact⟨_,q,hd⟩
  ·exact⟨o,keep c o (I.cne x c e) hc nch ho (I.freeC x c e),hd⟩
 refine⟨I.ok,I.os,hg,⟨λb o e n hb hx=>?_,λb o e n hb hx=>?_,λb o e n hx=>?_,λb o e hx=>?_,λb xs e=>tups b xs (I.base.tups b xs e),λb o xs e=>frzs b o xs (I.base.frzs b o xs e),λb ps e=>?_⟩,?_,λx c e=>?_,?_,λx c e=>?_,λp hp=>?_,hok,I.len⟩
 ·exact keep b o (neL b o e) hb (neC b o e hx) (I.base.keep b o e n hb hx) (I.base.free b o e n hx)
 ·obtain⟨sl,e1⟩:=I.base.slot b o e n hb hx;obtain⟨sl',e2⟩:=slot b _ (neL b o e) hb (neC b o e hx) e1 (I.base.free b o e n hx);exact⟨sl',e2⟩
 ·obtain⟨o',e1⟩:=I.base.there b o e hx;exact free b o' (neC b o e hx) e1 (I.base.free b o e n hx)
 ·obtain⟨o',e1⟩:=I.base.there b o e hx;exact there b o' (neC b o e hx) e1
 ·obtain⟨m1,e1⟩:=I.base.tbls b ps e;obtain⟨m2,e2⟩:=tbls b _ e1;exact⟨m1++m2,by rw[e2,Array.append_assoc]⟩
 ·obtain⟨m,hn,hl⟩:=I.loc;refine⟨m,ns m hn,λi x v e1 e2 e3=>?_⟩;obtain⟨u,r,l⟩:=hl i x v e1 e2 e3;refine⟨u,r,?_⟩;rcases l with l|⟨k,c,e,z⟩
  ·exact .inl l
  ·exact .inr ⟨k,c,e,cellK x c e _ z⟩
 ·obtain⟨v,z⟩:=I.cell x c e;exact⟨v,cellK x c e v z⟩
 ·obtain⟨m,⟨o,_,_,ho,_⟩,_⟩:=I.loc;exact free _ o (λz=>(hch _ z).2.1 rfl) ho I.free
 ·obtain⟨v,o,ho,hd⟩:=I.cell x c e;exact free c o (λz=>(hch c z).2.2.1 x c e rfl) ho (I.freeC x c e)
 ·obtain⟨e,n,ne,nf,d⟩:=I.pin p hp;have nch:p.1∉ch:=λz=>(hch p.1 z).2.2.2 p hp rfl;exact⟨keep p.1 p.2 ne nf nch e n,free p.1 p.2 nch e n,ne,nf,d⟩
theorem Inv.un{t':Nat}(I:Inv X w4 O H s)(u:Un X.fs [] H H' s.heap h')(hok:HOk X.prog X.w H' h'):Inv X w4 O H' { s with heap:=h',toks:=t' }:=by
 obtain⟨m,⟨o,es,ep,ho,r⟩,_⟩:=id I.loc;obtain⟨sl,hL⟩:=u.any ho I.free (by simp);exact I.step (g':=s.gens) (d':=s.drawn) (ch:=[]) (λ_ z=>nomatch z) (λb o _ hb _ e n=>u.keep b o e n hb (by simp)) (λb o _ hb _ e n=>u.slot b o e n hb (by simp)) (λb o _ e n=>u.free b o e n (by simp)) (λb o _ e=>u.there b o e (by simp)) u.tups u.frzs u.tbls (λm' hm=>by
  obtain⟨o',es',ep',ho',r'⟩:=hm;rw[ho] at ho';cases ho';exact⟨_,es',ep',hL,r'⟩) hok I.bare
theorem Inv.call{g':Array GenState}{t':Nat}{ch:List Addr}(I:Inv X w4 O H s)(u:Un (frs X.stack) ch H H' s.heap h')(hok:HOk X.prog X.w H' h')(hg:AllBare g')
  (hch:∀b∈ch,(b∈X.ex∨X.s₀.heap.objs.size<=b)/\b≠X.env.locals/\(∀x c,X.env.cells.lookup x=some c->c≠b)/\∀p∈X.pn++w4,p.1≠b) :
  Inv X w4 O H' { s with heap:=h',gens:=g',drawn:=d',toks:=t' }:=by
 obtain⟨m,⟨o,es,ep,ho,r⟩,_⟩:=id I.loc;obtain⟨sl,hL⟩:=u.any ho I.free λz=>(hch _ z).2.1 rfl;exact I.step (ch:=ch) hch (λb o hL hb hc e n=>u.keep b o e n (λz=>(AAI.mp (I.stkSub b z)).elim hL hb) hc) (λb o _ _ hc e n=>u.any e n hc) (λb o hc e n=>u.free b o e n hc) (λb o hc e=>u.there b o e hc) u.tups u.frzs u.tbls (λm' hm=>by
  obtain⟨o',es',ep',ho',r'⟩:=hm;rw[ho] at ho';cases ho';exact⟨_,es',ep',hL,r'⟩) hok hg
theorem Inv.turned{t':Nat}{it:Addr}(I:Inv X w4 O H s)(k:∀b o,b≠it->s.heap.get? b=some o->h'.get? b=some o)(hn:H it=none)(hL:it≠X.env.locals)
  (h1:it∈X.ex∨X.s₀.heap.objs.size<=it) (h2:∀x c,X.env.cells.lookup x=some c->c≠it) (h3:∀p∈X.pn++w4,p.1≠it):Inv X w4 O H { s with heap:=h',toks:=t' }:=by
 have nit:∀b u,H b=some u->b≠it:=λb u e z=>by rw[z,hn] at e;cases e
 refine I.step (g':=s.gens) (d':=s.drawn) (ch:=[it]) (λb hb=>?_) (λb o _ _ hc e _=>k b o (λz=>hc (by simp[z])) e) (λb o _ _ hc e _=>⟨o.slots,k b o (λz=>hc (by simp[z])) e⟩) (λ_ _ _ _ n=>n)
  (λb o hc e=>⟨o,k b o (λz=>hc (by simp[z])) e⟩) (λ_ _ e=>e) (λ_ _ _ e=>e) (λb ps e=>⟨#[],by rw[e];simp⟩) (λm hm=>?_) (λb u e=>?_) I.bare
 ·have e:b=it:=by simpa using hb
  subst e;exact⟨h1,hL,h2,h3⟩
 ·obtain⟨o,es,ep,ho,r⟩:=hm;exact⟨o,es,ep,k _ o (Ne.symm hL) ho,r⟩
 ·refine(I.hok b u e).stay (λc v hc q=>k c v ?_ q) (λ_ q=>q) λ_ _ q=>q;rcases hc with z|z
  ·rw[z];exact nit b u e
  ·exact nit c _ z
theorem Inv.tok(I:Inv X w4 O H s)(t:Nat):Inv X w4 O H { s with toks:=t }:=I.un (h':=s.heap) (t':=t) Un.refl I.hok
theorem Inv.kept(I:Inv X w4 O H s)(k:∀b u,s.heap.get? b=some u->h'.get? b=some u):Inv X w4 O H { s with heap:=h',toks:=t' }:=I.un (Un.kept k) (I.hok.kept k)
theorem Inv.laid(I:Inv X w4 O H s)(k:∀b u,s.heap.get? b=some u->h'.get? b=some u)(hp:s.heap.objs.size<=a)(new:ObjOk X.prog X.w (upd H a o) h' a o):
  Inv X w4 O (upd H a o) { s with heap:=h',toks:=t' }:=I.un (Un.laid k hp (I.hok.fresh hp)) (I.hok.laid k hp new)
theorem Inv.write(I:Inv X w4 O H s)(mu:Mut (H x))(he:e=x∨H e=some (.own x))(k:∀b u,b≠e->s.heap.get? b=some u->h'.get? b=some u)(heo:∃u,h'.get? e=some u)
  (new:ObjOk X.prog X.w (upd H x o) h' x o):Inv X w4 O (upd H x o) { s with heap:=h',toks:=t' }:=I.un (Un.write mu he k heo) (I.hok.write mu he k heo new)
theorem Inv.weak(I:Inv X w4 O H s)(hl:O'.length=O.length)(w:∀(i:Nat) v,O'[i]?=some (some v)->O[i]?=some (some v)):Inv X w4 O' H s:=
 ⟨I.ok,I.os,I.bare,I.base,let ⟨m,hn,hl'⟩:=I.loc;⟨m,hn,λi x v e1 e2 e3=>hl' i x v e1 (w i v e2) e3⟩,I.cell,I.free,I.freeC,I.pin,I.hok,hl.trans I.len⟩
theorem Inv.pins_of(I:Inv X w4 O H s)(h:∀p∈pins',s.heap.get? p.1=some p.2/\H p.1=none/\p.1≠X.env.locals/\p.1∉X.fs/\∀v,p.2.data≠.cell v):Inv X pins' O H s:=
 ⟨I.ok,I.os,I.bare,I.base,I.loc,I.cell,I.free,I.freeC,λp hp=>(AAJ.mp hp).elim (λz=>I.pin p (AAc _ z)) (h p),I.hok,I.len⟩
theorem LF{N:List Str}(hN:N.Nodup){i j:Nat}{x:Str}(a:N[i]?=some x)(b:N[j]?=some x):i=j:=by
 obtain⟨h1,e1⟩:=AAT.mp a;obtain⟨h2,e2⟩:=AAT.mp b;exact(List.getElem_inj hN).mp (e1.trans e2.symm)
theorem Il{M:Model}{A:Around}{E:Value->Shared->Prop}{i:Nat}{x:Str}{u:Value}{Q:Unit->Shared->Prop}(I:Inv X w4 O H s)(hN:X.N.Nodup)(hi:X.N[i]?=some x)(hx:Loc X.env.scope x)(r:RelV v u)
  (h:∀s',Inv X w4 (O.set i (some v)) H s'->(∃a,Heap.SameBut a s.heap s'.heap/\(a=X.env.locals∨X.env.cells.lookup x=some a))->Q () s') (hf:X.fn x=true∨X.env.scope.names.lookup x=some .local:=by first|exact .inl rfl|exact .inr rfl|assumption):wpAny M A (storeName X.env x u) Q E s:=by
 obtain⟨m,hn,hl⟩:=id I.loc;have hcls:(X.env.scope.kind==.class||(X.env.scope.kind==.module&&X.env.locals != X.env.globals))=false:=by rw[I.ok.kind];rfl
 have hiσ:i<O.length:=by rw[I.len];exact(AAT.mp hi).1
 have cne:=I.cne;have tracked:∀{a:Addr} {h':Heap},(∃o,s.heap.get? a=some o/\H a=none)->Heap.SameBut a s.heap h'->HOk X.prog X.w H h':=λ{a h'} ha hs b ob e=>by
  obtain⟨_,_,hfree⟩:=ha;refine(I.hok b ob e).stay (λc w' hc q=>(hs.2 c ?_).trans q) (λ_ q=>q) λ_ _ q=>q;rintro rfl;rcases hc with rfl|hc
  ·rw[hfree] at e;cases e
  ·rw[hfree] at hc;cases hc
 rcases hx with hk|hk
 ·refine wpAny_storeName_local hk hn (λh' hn' hs=>?_) hcls;obtain⟨oL,_,_,hoL,_⟩:=id hn;refine h _ ⟨I.ok,I.os,I.bare,⟨λb o e n hb hx=>?_,λb o e n hb hx=>?_,I.base.free,λb o e hx=>?_,I.base.tups,I.base.frzs,I.base.tbls⟩,⟨_,hn',λj y v' e1 e2 e3=>?_⟩,λy c e=>?_,I.free,I.freeC,λp hp=>?_,tracked ⟨oL,hoL,I.free⟩ hs,by simpa using I.len⟩ ⟨_,hs,.inl rfl⟩
  ·exact(hs.2 b (AAe (AAM (Heap.lt_size e) I.ok.above))).trans (I.base.keep b o e n hb hx)
  ·obtain⟨sl,e1⟩:=I.base.slot b o e n hb hx;exact⟨sl,(hs.2 b (AAe (AAM (Heap.lt_size e) I.ok.above))).trans e1⟩
  ·obtain⟨o',e1⟩:=I.base.there b o e hx;exact⟨o',(hs.2 b (AAe (AAM (Heap.lt_size e) I.ok.above))).trans e1⟩
  ·by_cases hj:j=i
   ·subst hj;rw[hi] at e1;cases e1;rw[List.getElem?_set_self hiσ] at e2;cases e2;exact⟨u,r,.inl ⟨hk,by simp⟩⟩
   ·rw[AAo (Ne.symm hj)] at e2;obtain⟨u',r',q⟩:=hl j y v' e1 e2 e3;refine⟨u',r',?_⟩;rcases q with ⟨k,e⟩|⟨k,c,e,z⟩
    ·refine .inl ⟨k,?_⟩;have:y≠x:=λe=>hj (LF hN e1 (e ▸ hi));simp[this,e]
    ·exact .inr ⟨k,c,e,z.sameBut hs (cne y c e)⟩
  ·obtain⟨w',z⟩:=I.cell y c e;exact⟨w',z.sameBut hs (cne y c e)⟩
  ·obtain⟨e,n,ne,nf,d⟩:=I.pin p hp;exact⟨(hs.2 p.1 ne).trans e,n,ne,nf,d⟩
 ·have hfn:X.fn x=true:=by
   rcases hf with z|z
   ·exact z
   ·rw[z] at hk;cases hk
  obtain⟨c,hc⟩:=I.ok.has x (.inl hk);obtain⟨w',z⟩:=I.cell x c hc;refine wpAny_storeName_cell I.ok.kind hk hc z (λh' hc' hs=>?_);obtain⟨oc,hoc,hocd⟩:=id z;refine h { s with heap:=h' } ⟨I.ok,I.os,I.bare,⟨λb o e n hb hx=>?_,λb o e n hb hx=>?_,I.base.free,λb o e hx=>?_,I.base.tups,I.base.frzs,I.base.tbls⟩,⟨m,hn.sameBut hs (Ne.symm (cne x c hc)),λj y v' e1 e2 e3=>?_⟩,λy c' e=>?_,I.free,I.freeC,λp hp=>?_,tracked ⟨oc,hoc,I.freeC x c hc⟩ hs,by simpa using I.len⟩ ⟨c,hs,.inr hc⟩
  ·exact(hs.2 b (AAe (AAM (Heap.lt_size e) (I.ok.cab x c hfn hc)))).trans (I.base.keep b o e n hb hx)
  ·obtain⟨sl,e1⟩:=I.base.slot b o e n hb hx;exact⟨sl,(hs.2 b (AAe (AAM (Heap.lt_size e) (I.ok.cab x c hfn hc)))).trans e1⟩
  ·obtain⟨o',e1⟩:=I.base.there b o e hx;exact⟨o',(hs.2 b (AAe (AAM (Heap.lt_size e) (I.ok.cab x c hfn hc)))).trans e1⟩
  ·by_cases hj:j=i
   ·subst hj;rw[hi] at e1;cases e1;rw[List.getElem?_set_self hiσ] at e2;cases e2;exact⟨u,r,.inr ⟨.inl hk,c,hc,hc'⟩⟩
   ·rw[AAo (Ne.symm hj)] at e2;obtain⟨u',r',q⟩:=hl j y v' e1 e2 e3;refine⟨u',r',?_⟩;rcases q with q|⟨k,c',e,z'⟩
    ·exact .inl q
    ·refine .inr ⟨k,c',e,z'.sameBut hs ?_⟩;rintro rfl;exact hj (LF hN e1 (I.ok.inj _ _ _ e hc ▸ hi))
  ·by_cases hcc:c'=c
   ·subst hcc;exact⟨_,hc'⟩
   ·obtain⟨w2,z2⟩:=I.cell y c' e;exact⟨w2,z2.sameBut hs hcc⟩
  ·obtain⟨e,n,ne,nf,d⟩:=I.pin p hp;refine⟨(hs.2 p.1 ?_).trans e,n,ne,nf,d⟩;intro q;rw[q,hoc] at e;have q':oc=p.2:=Option.some.inj e;exact d w' (by rw[←q'];exact hocd)
theorem HN(I:Inv X w4 O H s)(hN:X.N.Nodup)(hi:X.N[i]?=some x)(hx:Loc X.env.scope x)(r:RelV v u)
  (h:∀s',Inv X w4 (O.set i (some v)) H s'->Q () s') (hf:X.fn x=true∨X.env.scope.names.lookup x=some .local:=by first|exact .inl rfl|exact .inr rfl|assumption):wpAny M A (storeName X.env x u) Q E s:=
 Il I hN hi hx r (λs' I' _=>h s' I') hf
theorem Inv.call'(I:Inv X w4 O H s)(ho:s'.os=s.os)(u:Un (frs X.stack) ch H H' s.heap s'.heap)(hok:HOk X.prog X.w H' s'.heap)(hg:AllBare s'.gens)
  (hch:∀b∈ch,(b∈X.ex∨X.s₀.heap.objs.size<=b)/\b≠X.env.locals/\(∀x c,X.env.cells.lookup x=some c->c≠b)/\∀p∈X.pn++w4,p.1≠b):Inv X w4 O H' s':=by
 obtain⟨h',g',d',t',o'⟩:=s';have e:o'=s.os:=ho;subst e;exact I.call (g':=g') (t':=t') (d':=d') u hok hg hch
end
noncomputable abbrev XK:=Value->Option Addr->Hp->Prop
noncomputable abbrev St:=List (Option V)
noncomputable abbrev VK:=V->Hp->Prop
noncomputable abbrev TE:=St->Hp->VK->Prop
noncomputable abbrev TT:=St->Hp->(Bool->Hp->Prop)->Prop
noncomputable abbrev TA:=St->Hp->(List V->Hp->Prop)->Prop
structure SQ where
 nx:St->Hp->Prop
 rt:VK
 bk:St->Hp->Prop:=λ_ _=>False
 ct:St->Hp->Prop:=λ_ _=>False
noncomputable abbrev TS:=SQ->St->Hp->Prop
def EP(X:Cx)(w4:List (Addr×Obj))(O:St)(Q:VK)(u:Value)(s':Shared):Prop:=∃v H',Inv X w4 O H' s'/\RelV v u/\Q v H'
def TP(X:Cx)(w4:List (Addr×Obj))(O:St)(Q:Bool->Hp->Prop)(b:Bool)(s':Shared):Prop:=∃H',Inv X w4 O H' s'/\Q b H'
def AP(X:Cx)(w4:List (Addr×Obj))(O:St)(Q:List V->Hp->Prop)(us:List Value)(s':Shared):Prop:=∃vs H',Inv X w4 O H' s'/\Vals vs us/\Q vs H'
def SP(X:Cx)(w4:List (Addr×Obj))(D:SQ)(f:Flow)(s':Shared):Prop:=
 match f with
 | .next=>∃O' H',Inv X w4 O' H' s'/\D.nx O' H'
 | .brk=>∃O' H',Inv X w4 O' H' s'/\D.bk O' H'
 | .cont=>∃O' H',Inv X w4 O' H' s'/\D.ct O' H'
 | .ret u=>∃v O' H',Inv X w4 O' H' s'/\RelV v u/\D.rt v H'
def PE(X:Cx)(e:Expr)(t:TE):Prop:=
 ∀(w4:List (Addr×Obj)) (s:Shared) (O:St) (H:Hp) (Q:VK),Inv X w4 O H s->t O H Q->wpAny (model X.prog X.w) X.A (eval e X.env) (EP X w4 O Q) X.xe s
def PT(X:Cx)(e:Expr)(t:TT):Prop:=
 ∀(w4:List (Addr×Obj)) (s:Shared) (O:St) (H:Hp) (Q:Bool->Hp->Prop),Inv X w4 O H s->t O H Q->wpAny (model X.prog X.w) X.A (isTrue e X.env (eval e X.env)) (TP X w4 O Q) X.xe s
def PW(X:Cx)(e:Expr)(t:TT):Prop:=
 ∀(whole:Sem Value) (w4:List (Addr×Obj)) (s:Shared) (O:St) (H:Hp) (Q:Bool->Hp->Prop),Inv X w4 O H s->t O H Q->wpAny (model X.prog X.w) X.A (isTrue e X.env whole) (TP X w4 O Q) X.xe s
theorem PW.pt(h:PW X e t):PT X e t:=h _
def PA(X:Cx)(es:List Expr)(t:TA):Prop:=
 ∀(pos:Pos) (w4:List (Addr×Obj)) (s:Shared) (O:St) (H:Hp) (Q:List V->Hp->Prop),Inv X w4 O H s->t O H Q->wpAny (model X.prog X.w) X.A (spliced (backTo pos (starEach es X.env))) (AP X w4 O Q) X.xe s
def PS(X:Cx)(st:Stmt)(t:TS):Prop:=
 ∀(w4:List (Addr×Obj)) (s:Shared) (O:St) (H:Hp) (D:SQ),Inv X w4 O H s->t D O H->wpAny (model X.prog X.w) X.A (exec st X.env) (SP X w4 D) X.xe s
def PSs(X:Cx)(st:List Stmt)(t:TS):Prop:=
 ∀(w4:List (Addr×Obj)) (s:Shared) (O:St) (H:Hp) (D:SQ),Inv X w4 O H s->t D O H->wpAny (model X.prog X.w) X.A (execs st X.env) (SP X w4 D) X.xe s
theorem thn(h:wpAny M A t Q E s)(hQ:∀a s,Q a s->Q' a s):wpAny M A t Q' E s:=AAj h hQ λ_ _ x=>x
section
variable{X:Cx}
noncomputable def Yn(i:Nat):TE:=λO H Q=>∃v,O[i]?=some (some v)/\Q v H
noncomputable def tC(v:V):TE:=λ_ H Q=>Q v H
theorem Vr(hN:X.N[i]?=some x)(hv:Vis X.env.scope x)(hd:(x==("__debug__" : Str))=false:=by decide)(hcd:(x==("__classdict__" : Str))=false:=by decide):PE X (.Name x pos) (Yn i):=by
 intro w4 s O H Q I h;obtain⟨v,e,h⟩:=h;obtain⟨m,hn,hl⟩:=I.loc;obtain⟨u,r,l⟩:=hl i x v hN e hv;have fin:EP X w4 O Q u s:=⟨v,H,I,r,h⟩;rcases l with ⟨hk,hm⟩|⟨hk,c,hc,hcell⟩
 ·exact wpAny_Name (wpAny_loadName_local I.ok.kind hk hn hm fin) hd
 ·rcases hk with hk|hk
  ·exact wpAny_Name (wpAny_loadName_cell I.ok.kind hk hc hcell fin) hd
  ·exact wpAny_Name (wpAny_loadName_free I.ok.kind hk hc hcell fin hcd) hd
theorem Vx:PE X (.Constant (.int i) j pos) (tC (.int i)):=λ_ _ _ H _ I h=>wpAny_Constant_int ⟨.int i,H,I.tok _,⟨_,rfl⟩,h⟩
theorem Xr:PE X (.Constant (.bool b) j pos) (tC (.bl b)):=λ_ _ _ H _ I h=>Constant_bool ⟨.bl b,H,I,rfl,h⟩
theorem Vw:PE X (.Constant .none j pos) (tC .non):=λ_ _ _ H _ I h=>Constant_none ⟨.non,H,I,rfl,h⟩
theorem Vt:PE X (.Constant (.str x) j pos) (tC (.str x)):=λ_ _ _ H _ I h=>Calls.Constant_str ⟨.str x,H,I.tok _,⟨_,rfl⟩,h⟩
def Gl(X:Cx)(x:Str):Prop:=X.env.kindOf x=some .globalImplicit
theorem NZ(I:Inv X w4 O H s)(hg:Gl X x)(hm:X.mg x=some u)(h:Q u s)
  (hd:(x==("__debug__" : Str))=false:=by decide):wpAny (model X.prog X.w) X.A (eval (.Name x pos) X.env) Q E s:=
 Calls.Name_function_global I.ok.kind hg (Calls.loadGlobal_global (by rw[I.ok.glob];exact I.mod.glob.keeps I.bk) hm h) hd
theorem GI(I:Inv X w4 O H s)(hg:Gl X x)(hm:X.mg x=none)(hv:bootBuiltins x=some u)(h:Q u s)
  (hn:x ≠ "__name__" := by decide) (hd:(x==("__debug__" : Str))=false:=by decide):wpAny (model X.prog X.w) X.A (eval (.Name x pos) X.env) Q E s:=by
 obtain⟨mb,h1,h2⟩:=I.mod.blt;exact Calls.Name_function_global I.ok.kind hg (Calls.loadGlobal_builtin (by rw[I.ok.glob];exact I.mod.glob.keeps I.bk) hm (by rw[I.ok.blt];exact h1.keeps I.bk) ((h2 x hn).trans hv) h) hd
theorem Tf(hg:Gl X x)(hm:X.mg x=some u)(r:RelV v u)(hd:(x==("__debug__" : Str))=false:=by decide):PE X (.Name x pos) (tC v):=
 λ_ _ _ H _ I h=>NZ I hg hm ⟨v,H,I,r,h⟩ hd
theorem Tl(hg:Gl X x)(hm:X.mg x=none)(hv:bootBuiltins x=some u)(r:RelV v u)(hn:x ≠ "__name__" := by decide)(hd:(x==("__debug__" : Str))=false:=by decide):PE X (.Name x pos) (tC v):=
 λ_ _ _ H _ I h=>GI I hg hm hv ⟨v,H,I,r,h⟩ hn hd
variable{a b:Expr}{ta tb:TE}{pos:Pos}
def PC(X:Cx)(op:CmpOp)(a b:Expr)(t:TE):Prop:=
 ∀(w4:List (Addr×Obj)) (s:Shared) (O:St) (H:Hp) (Q:VK),Inv X w4 O H s->t O H Q->
  wpAny (model X.prog X.w) X.A (eval a X.env) (λv s₁=>wpAny (model X.prog X.w) X.A (eval b X.env) (λu s₂=>wpAny (model X.prog X.w) X.A (compareOp op v u) (EP X w4 O Q) X.xe s₂) X.xe s₁) X.xe s
noncomputable def tB(t:TE):TT:=λO H Q=>t O H λx H1=>∃c,x=.bl c/\Q c H1
theorem Vy(h:PC X op a b t)(h1:behindInMarks op b=false:=by first|exact nobehind _ (by decide) (by decide)|rfl):PE X (.Compare a [op] [b] pos) t:=λw4 s O H Q I hw=>wpAny_Compare1 (h w4 s O H Q I hw) h1
theorem Vh(h:PE X e t)(he:∀whole,isTrue e X.env whole=(do let v ←whole;standAt e.pos;holding [v] (truthy v)):=by intro _;rfl):PT X e (tB t):=by
 intro w4 s O H Q I hw;refine isTrue_plain (thn (h w4 s O H _ I hw) λv s1 ⟨x,H1,I1,r1,q1⟩=>?_) (he _);obtain⟨d,rfl,q⟩:=q1;cases r1;exact wpAny_truthy_bool ⟨H1,I1,q⟩
variable{tA tB':TT}{rest:List Expr}
noncomputable def Yx(t u:TT):TT:=λO H Q=>t O H λc H1=>if c=true then u O H1 Q else Q false H1
noncomputable def tOr(t u:TT):TT:=λO H Q=>t O H λc H1=>if c=true then Q true H1 else u O H1 Q
noncomputable def Yr(t:TT):TT:=λO H Q=>t O H λc H1=>Q (!c) H1
theorem TQ(ha:PT X a tA):PW X (.BoolOp .And [a] pos) tA:=by
 intro wh w4 s O H Q I h;refine isTrue_and (thn (ha w4 s O H Q I h) λc s1 e=>?_);cases c with
 |true=>exact isTrue_and_nil e
 |false=>exact e
theorem Vf(ha:PT X a tA):PW X (.BoolOp .Or [a] pos) tA:=by
 intro wh w4 s O H Q I h;refine isTrue_or (thn (ha w4 s O H Q I h) λc s1 e=>?_);cases c with
 |false=>exact isTrue_or_nil e
 |true=>exact e
theorem Vg(ha:PT X a tA)(hb:PW X (.BoolOp .And (b::rest) pos) tB'):PW X (.BoolOp .And (a::b::rest) pos) (Yx tA tB'):=by
 intro wh w4 s O H Q I h;refine isTrue_and (thn (ha w4 s O H _ I h) λc s1 ⟨H1,I1,q1⟩=>?_);cases c with
 |true=>exact hb wh w4 s1 O H1 Q I1 q1
 |false=>exact⟨H1,I1,q1⟩
theorem Xh(ha:PT X a tA)(hb:PW X (.BoolOp .Or (b::rest) pos) tB'):PW X (.BoolOp .Or (a::b::rest) pos) (tOr tA tB'):=by
 intro wh w4 s O H Q I h;refine isTrue_or (thn (ha w4 s O H _ I h) λc s1 ⟨H1,I1,q1⟩=>?_);cases c with
 |true=>exact⟨H1,I1,q1⟩
 |false=>exact hb wh w4 s1 O H1 Q I1 q1
theorem Vi(ha:PT X a tA):PT X (.UnaryOp .Not a pos) (Yr tA):=by
 intro w4 s O H Q I h;exact isTrue_not (ha w4 s O H (λc H1=>Q (!c) H1) I h)
noncomputable def XU(ta tb:TE):TE:=λO H Q=>ta O H λx H1=>∃c,x=.bl c/\if c=true then tb O H1 Q else Q (.bl false) H1
noncomputable def XI(ta:TE):TE:=λO H Q=>ta O H λx H1=>∃c,x=.bl c/\Q (.bl (!c)) H1
theorem Vu(h:PE X a t):PE X (.BoolOp op [a] pos) t:=λw4 s O H Q I hw=>BoolOp_one (h w4 s O H Q I hw)
theorem V1(ha:PE X a ta)(hb:PE X (.BoolOp .And (b::rest) pos) tb):PE X (.BoolOp .And (a::b::rest) pos) (XU ta tb):=by
 intro w4 s O H Q I h;refine BoolOp_and (thn (ha w4 s O H _ I h) λv s1 ⟨x,H1,I1,r1,q1⟩=>?_);obtain⟨c,rfl,q1⟩:=q1;cases r1;refine wpAny_truthy_bool ?_;cases c with
 |true=>exact hb w4 s1 O H1 Q I1 q1
 |false=>exact⟨.bl false,H1,I1,rfl,q1⟩
theorem Vv(ha:PE X a ta):PE X (.UnaryOp .Not a pos) (XI ta):=by
 intro w4 s O H Q I h;refine UnaryOp_ (thn (ha w4 s O H _ I h) λv s1 ⟨x,H1,I1,r1,q1⟩=>?_);obtain⟨c,rfl,q1⟩:=q1;cases r1;exact not_of (wpAny_truthy_bool ⟨.bl (!c),H1,I1,rfl,q1⟩)
noncomputable def tIf(t:TT)(ta tb:TE):TE:=λO H Q=>t O H λc H1=>if c=true then ta O H1 Q else tb O H1 Q
theorem Qa(hc:PT X c tA)(ha:PE X a ta)(hb:PE X b tb):PE X (.IfExp c a b pos) (tIf tA ta tb):=by
 intro w4 s O H Q I h;refine wpAny_IfExp (thn (hc w4 s O H _ I h) λd s1 ⟨H1,I1,q1⟩=>?_);cases d with
 |true=>exact ha w4 s1 O H1 Q I1 q1
 |false=>exact hb w4 s1 O H1 Q I1 q1
end
def SqL(K:PySem.W.Frag)(H:Hp)(a:Addr)(xs:List V):Prop:=
 Rd H a (.lst xs) ∨
  ∃(o:Obj) (its:Array Value) (n:Nat),K.lookup a=some o/\o.cls=.type "list" /\ o.dict=none/\o.data=.seq its n/\its.size<=sizeLine/\Vals xs its.toList
def SqT(K:PySem.W.Frag)(H:Hp)(a:Addr)(xs:List V):Prop:=
 Rd H a (.tup xs) ∨
  ∃(o:Obj) (its:Array Value) (n:Nat),K.lookup a=some o/\o.cls=.type "tuple" /\ o.data=.seq its n/\its.size<=sizeLine/\Vals xs its.toList
noncomputable def ZU:Value->Option V
 | .none=>some .non
 | .bool b=>some (.bl b)
 | .int i _=>some (.int i)
 | .str x _=>some (.str x)
 | .bytes b _=>some (.byt b)
 | .float b _=>some (.flt b)
 | .ref a=>some (.ref a)
 | .type n=>some (.ty n)
 |_=>none
theorem RelV.abs(r:RelV x u):ZU u=some x:=by
 cases x with
 |non=>cases r;rfl
 |bl _=>cases r;rfl
 |int _=>obtain⟨t,rfl⟩:=r;rfl
 |str _=>obtain⟨t,rfl⟩:=r;rfl
 |byt _=>obtain⟨t,rfl⟩:=r;rfl
 |flt _=>obtain⟨t,rfl⟩:=r;rfl
 |ref _=>cases r;rfl
 |ty _=>cases r;rfl
theorem RelV.inj(r:RelV x u)(q:RelV y u):x=y:=Option.some.inj (r.abs.symm.trans q.abs)
theorem Vals.inj:∀{xs ys:List V} {us:List Value},Vals xs us->Vals ys us->xs=ys
 |_,_,_,.nil,.nil=>rfl
 |_,_,_,.cons r t,.cons r' t'=>by rw[r.inj r',Vals.inj t t']
section
variable{X:Cx}{w4:List (Addr×Obj)}{O:St}{H:Hp}{s:Shared}{a:Addr}{xs ys:List V}
theorem SqL.of{K:PySem.W.Frag}(h:H a=some (.lst xs)):SqL K H a xs:=.inl (.inl h)
theorem SqT.of{K:PySem.W.Frag}(h:H a=some (.tup xs)):SqT K H a xs:=.inl (.inl h)
theorem Inv.list(I:Inv X w4 O H s)(h:SqL X.K H a xs):∃its:List Value,Vals xs its/\PlainL s.heap a its.toArray/\xs.length<=sizeLine:=by
 rcases h with h|⟨o,its,n,hk,hc,hd,hs,hz,r⟩
 ·obtain⟨z,its,n,r,e⟩:=h.ok I.hok;exact⟨its,r,⟨_,n,e,rfl,rfl,rfl⟩,z⟩
 ·refine⟨its.toList,r,⟨o,n,I.kIn a o hk,hc,hd,by simpa using hs⟩,?_⟩;have e:=r.length;simp only[Array.length_toList] at e;omega
theorem Inv.tuple(I:Inv X w4 O H s)(h:SqT X.K H a xs):∃its:List Value,Vals xs its/\IsTup s.heap a its.toArray/\xs.length<=sizeLine:=by
 rcases h with h|⟨o,its,n,hk,hc,hs,hz,r⟩
 ·obtain⟨z,its,r,p⟩:=h.ok I.hok;exact⟨its,r,p,z⟩
 ·refine⟨its.toList,r,⟨o,I.kIn a o hk,hc,n,by simpa using hs⟩,?_⟩;have e:=r.length;simp only[Array.length_toList] at e;omega
theorem Inv.list_inj(I:Inv X w4 O H s)(h:SqL X.K H a xs)(h':SqL X.K H a ys):xs=ys:=by
 obtain⟨its,r,⟨o,n,e,_,_,d⟩,_⟩:=I.list h;obtain⟨its',r',⟨o',n',e',_,_,d'⟩,_⟩:=I.list h';rw[e] at e';cases e';rw[d] at d';injection d' with d1 _
 have:its=its':=by simpa using congrArg Array.toList d1
 subst this;exact r.inj r'
theorem Inv.tuple_inj(I:Inv X w4 O H s)(h:SqT X.K H a xs)(h':SqT X.K H a ys):xs=ys:=by
 obtain⟨its,r,⟨o,e,_,n,d⟩,_⟩:=I.tuple h;obtain⟨its',r',⟨o',e',_,n',d'⟩,_⟩:=I.tuple h';rw[e] at e';cases e';rw[d] at d';injection d' with d1 _
 have:its=its':=by simpa using congrArg Array.toList d1
 subst this;exact r.inj r'
end
noncomputable abbrev Cx.wish(X:Cx)(E:Value->Shared->Prop):Cx:={ X with xe:=E }
noncomputable abbrev Cx.nox(X:Cx):Cx:=X.wish λ_ _=>False
theorem Cx.Ok.wish{X:Cx}(ok:X.Ok)(E:Value->Shared->Prop):(X.wish E).Ok:=
 ⟨ok.mod,ok.kind,ok.glob,ok.blt,ok.above,ok.inj,ok.has,ok.cab,ok.hd,ok.frames,ok.stk,ok.exf,ok.bs,ok.bsz,ok.noex,ok.exfs,ok.funs,ok.frf⟩
theorem Cx.Ok.unwish{X:Cx}(ok:(X.wish E).Ok):X.Ok:=
 ⟨ok.mod,ok.kind,ok.glob,ok.blt,ok.above,ok.inj,ok.has,ok.cab,ok.hd,ok.frames,ok.stk,ok.exf,ok.bs,ok.bsz,ok.noex,ok.exfs,ok.funs,ok.frf⟩
section
variable{X:Cx}{w4:List (Addr×Obj)}{O:St}{H:Hp}{s:Shared}{E:Value->Shared->Prop}
theorem Inv.wish(I:Inv X w4 O H s)(E:Value->Shared->Prop):Inv (X.wish E) w4 O H s:=⟨I.ok.wish E,I.os,I.bare,I.base,I.loc,I.cell,I.free,I.freeC,I.pin,I.hok,I.len⟩
theorem Inv.unwish(I:Inv (X.wish E) w4 O H s):Inv X w4 O H s:=⟨I.ok.unwish,I.os,I.bare,I.base,I.loc,I.cell,I.free,I.freeC,I.pin,I.hok,I.len⟩
theorem SP.unwish(h:SP (X.wish E) w4 D f s'):SP X w4 D f s':=by
 cases f with
 |next=>obtain⟨O',H',I,q⟩:=h;exact⟨O',H',I.unwish,q⟩
 |brk=>obtain⟨O',H',I,q⟩:=h;exact⟨O',H',I.unwish,q⟩
 |cont=>obtain⟨O',H',I,q⟩:=h;exact⟨O',H',I.unwish,q⟩
 |ret u=>obtain⟨v,O',H',I,r,q⟩:=h;exact⟨v,O',H',I.unwish,r,q⟩
theorem PSs.nox{st:List Stmt}(h:PSs X.nox st t):PSs X st t:=λw4 s O H D I hw=>
 AAj (h w4 s O H D (I.wish _) hw) (λ_ _ q=>q.unwish) λ_ _ z=>False.elim z
end
section
variable{X:Cx}{st:Stmt}{rest:List Stmt}{t u:TS}{e:Expr}{te:TE}{pos:Pos}
noncomputable def XJ:TS:=λD O H=>D.nx O H
noncomputable def Yp(t u:TS):TS:=λD O H=>t { D with nx:=u D } O H
theorem TW:PSs X [] XJ:=λ_ _ O H _ I h=>wpAny_execs_nil ⟨O,H,I,h⟩
theorem QM(h1:PS X st t)(h2:PSs X rest u):PSs X (st::rest) (Yp t u):=by
 intro w4 s O H D I h;refine wpAny_execs_cons (thn (h1 w4 s O H { D with nx:=u D } I h) λf s1 q=>?_);cases f with
 |next=>
  obtain⟨O',H',I',q⟩:=q;exact h2 w4 s1 O' H' D I' q
 |ret v=>exact q
 |brk=>exact q
 |cont=>exact q
theorem TV(h1:PS X st t):PSs X [st] t:=by
 intro w4 s O H D I h;refine wpAny_execs_cons (thn (h1 w4 s O H D I h) λf s1 q=>?_);cases f with
 |next=>exact wpAny_execs_nil q
 |ret v=>exact q
 |brk=>exact q
 |cont=>exact q
theorem Inv.quiet(I:Inv X w4 O H s):interactive X.env=false:=by simp[interactive,I.ok.kind]
noncomputable def XM(te:TE):TS:=λD O H=>te O H λ_ H1=>D.nx O H1
theorem TZ(he:PE X e te)(hs:swapsWith e none pos.line X.env=pure false:=by rfl):PS X (.Expr e pos) (XM te):=by
 intro w4 s O H D I h;exact wpAny_Expr_any (thn (he w4 s O H _ I h) λv s1 ⟨x,H1,I1,r1,q1⟩=>⟨O,H1,I1,q1⟩) I.quiet hs
noncomputable def Yq(te:TE):TS:=λD O H=>te O H D.rt
theorem Vk(he:PE X e te):PS X (.Return (some e) pos) (Yq te):=by
 intro w4 s O H D I h;exact wpAny_Return_some (thn (he w4 s O H _ I h) λv s1 ⟨x,H1,I1,r1,q1⟩=>⟨x,O,H1,I1,r1,q1⟩)
noncomputable def Yu(c:TT)(t u:TS):TS:=λD O H=>c O H λb H1=>if b=true then t D O H1 else u D O H1
theorem Xl(hc:PT X c tc)(ha:PSs X a t)(hb:PSs X b u):PS X (.If c a b pos) (Yu tc t u):=by
 intro w4 s O H D I h;refine wpAny_If (thn (hc w4 s O H _ I h) λd s1 ⟨H1,I1,q1⟩=>?_);cases d with
 |true=>exact ha w4 s1 O H1 D I1 q1
 |false=>exact hb w4 s1 O H1 D I1 q1
noncomputable def VR:TS:=λ_ _ _=>False
theorem QP:PS X st VR:=λ_ _ _ _ _ _ h=>h.elim
end
noncomputable abbrev TG:=V->St->Hp->(St->Hp->Prop)->Prop
noncomputable abbrev TGs:=List V->St->Hp->(St->Hp->Prop)->Prop
def PG(X:Cx)(target:Expr)(t:TG):Prop:=
 ∀(w4:List (Addr×Obj)) (s:Shared) (O:St) (H:Hp) (v:V) (u:Value) (Q:St->Hp->Prop),Inv X w4 O H s->RelV v u->t v O H Q->
  wpAny (model X.prog X.w) X.A (assign target X.env u) (λ_ s'=>∃O' H',Inv X w4 O' H' s'/\Q O' H') X.xe s
def PGs(X:Cx)(ts:List Expr)(t:TGs):Prop:=
 ∀(w4:List (Addr×Obj)) (s:Shared) (O:St) (H:Hp) (vs:List V) (us:List Value) (Q:St->Hp->Prop),Inv X w4 O H s->Vals vs us->t vs O H Q->
  wpAny (model X.prog X.w) X.A (assignInOrder ((assignEach ts X.env).map (·.2)) us) (λ_ s'=>∃O' H',Inv X w4 O' H' s'/\Q O' H') X.xe s
noncomputable abbrev Yi:=V->V->V->Hp->(Hp->Prop)->Prop
def Yj(X:Cx)(t:Yi):Prop:=
 ∀(w4:List (Addr×Obj)) (s:Shared) (O:St) (H:Hp) (o i v:V) (ov iv u:Value) (Q:Hp->Prop),Inv X w4 O H s->RelV o ov->RelV i iv->RelV v u->t o i v H Q->
  wpAny (model X.prog X.w) X.A (setItem ov iv u) (λ_ s'=>∃H',Inv X w4 O H' s'/\Q H') X.xe s
noncomputable abbrev TIp:=V->V->Hp->VK->Prop
def PIp(X:Cx)(op:Operator)(t:TIp):Prop:=
 ∀(w4:List (Addr×Obj)) (s:Shared) (O:St) (H:Hp) (x y:V) (v u:Value) (Q:VK),Inv X w4 O H s->RelV x v->RelV y u->t x y H Q->
  wpAny (model X.prog X.w) X.A (inplaceOp op v u) (EP X w4 O Q) X.xe s
section
variable{X:Cx}{pos:Pos}
noncomputable def Gh(i:Nat):TG:=λv O H Q=>Q (O.set i (some v)) H
theorem BK(hN:X.N.Nodup)(hi:X.N[i]?=some x)(hx:Loc X.env.scope x)(hf:X.fn x=true∨X.env.scope.names.lookup x=some .local:=by first|exact .inl rfl|exact .inr rfl|assumption):PG X (.Name x pos) (Gh i):=by
 intro w4 s O H v u Q I r h;exact wpAny_assign_Name (HN I hN hi hx r (λs' I'=>⟨_,H,I',h⟩) hf)
noncomputable def YK:TGs:=λvs O H Q=>vs=[]/\Q O H
noncomputable def Uz(t:TG)(u:TGs):TGs:=λvs O H Q=>∃v r,vs=v::r/\t v O H λO' H'=>u r O' H' Q
theorem G1:PGs X [] YK:=by
 intro w4 s O H vs us Q I r h;obtain⟨e,h⟩:=h;subst e;cases r;exact assignInOrder_nil ⟨O,H,I,h⟩
theorem DE(h1:PG X e t)(h2:PGs X es u)
  (hs:(assignEach (e::es) X.env).map (·.2)=assign e X.env::(assignEach es X.env).map (·.2):=by rfl):PGs X (e::es) (Uz t u):=by
 intro w4 s O H vs us Q I r h;obtain⟨v,vr,e1,h⟩:=h;subst e1;cases r with
 |cons r rr=>
  rw[hs];refine assignInOrder_cons (thn (h1 w4 s O H _ _ _ I r h) λ_ s1 ⟨u8,H1,I1,q1⟩=>?_);exact h2 w4 s1 u8 H1 _ _ Q I1 rr q1
noncomputable def ZH(K:PySem.W.Frag)(n:Nat)(t:TGs):TG:=λv O H Q=>∃a xs,v=.ref a/\SqT K H a xs/\xs.length=n/\t xs O H Q
theorem Vp(hc:X.calm=true)(h:PGs X es t)
  (hn:(assignEach es X.env).length=n:=by rfl) (hst:(assignEach es X.env).findIdx? (·.1)=none:=by rfl):PG X (.Tuple es k pos) (ZH X.K n t):=by
 intro w4 s O H v u Q I r hw;obtain⟨a,xs,e1,hq,hl,hw⟩:=hw;subst e1;cases r;obtain⟨its,rv,ht,hz⟩:=I.tuple hq;refine assign_Tuple_tuple (I.ok.hd hc) ht (by simp[hn,←hl,rv.length]) hst λh' hx=>?_;have I1:Inv X w4 O H { s with heap:=h' }:=I.kept (t':=s.toks) λb o e=>hx b o (AAe (Heap.lt_size e)) e;exact h w4 _ O H xs _ Q I1 (by simpa using rv) hw
noncomputable def ZI(to ti:TE)(t:Yi):TG:=λv O H Q=>to O H λo H1=>ti O H1 λi H2=>t o i v H2 λH3=>Q O H3
theorem Vq(ho:PE X o to)(hi:PE X i ti)(hs:Yj X t)
  (ha:∀v,assign (.Subscript o i pos) X.env v=(do
   let ov ←holding [v] (eval o X.env)
   let iv ←holding [v,ov] (eval i X.env)
   standAt pos
   holding [v,ov,iv] (setItem ov iv v)
   release [v,ov,iv] []):=by intro _;rfl):PG X (.Subscript o i pos) (ZI to ti t):=by
 intro w4 s O H v u Q I r h;rw[ha];refine AAA (AAp (thn (ho w4 s O H _ I h) λov s1 ⟨x,H1,I1,r1,q1⟩=>?_));refine AAA (AAp (thn (hi w4 s1 O H1 _ I1 q1) λiv s2 ⟨y,H2,I2,r2,q2⟩=>?_));refine AAA (wpAny_standAt (AAA (AAp (thn (hs w4 s2 O H2 x y v ov iv u _ I2 r1 r2 r q2) λ_ s3 ⟨H3,I3,q3⟩=>?_))));exact wpAny_release ⟨O,H3,I3,q3⟩
noncomputable def S6(te:TE)(g:TG):TS:=λD O H=>te O H λx H1=>g x O H1 D.nx
theorem Vn(he:PE X e te)(hg:PG X tg g)(hs:swapsWithSole [tg] e pos.line X.env=pure false:=by rfl)(hw:swappedStores [tg] e X.env=pure none:=by rfl)
  (h1:(assignEach [tg] X.env).map (·.2)=[assign tg X.env]:=by rfl):PS X (.Assign [tg] e pos) (S6 te g):=by
 intro w4 s O H D I h;refine wpAny_Assign_stores (thn (he w4 s O H _ I h) λv s1 ⟨x,H1,I1,r1,q1⟩=>?_) hs hw;rw[h1];exact thn (hg w4 s1 O H1 x v _ I1 r1 q1) λ_ s2 q=>q
theorem Vj(hN:X.N.Nodup)(hi:X.N[i]?=some x)(hx:Loc X.env.scope x)(he:PE X e te)(hs:swapsWith e (some (.Name x pos')) pos.line X.env=pure false:=by rfl)(hf:X.fn x=true∨X.env.scope.names.lookup x=some .local:=by first|exact .inl rfl|exact .inr rfl|assumption):
  PS X (.Assign [.Name x pos'] e pos) (S6 te (Gh i)):=by
 intro w4 s O H D I h;refine wpAny_Assign_Name (thn (he w4 s O H _ I h) λv s1 ⟨y,H1,I1,r1,q1⟩=>?_) hs;exact HN I1 hN hi hx r1 (λs2 I2=>⟨_,H1,I2,q1⟩) hf
noncomputable def Yw(i:Nat)(te:TE)(ti:TIp):TS:=λD O H=>∃x,O[i]?=some (some x)/\te O H λy H1=>ti x y H1 λz H2=>D.nx (O.set i (some z)) H2
theorem Vm(hN:X.N.Nodup)(hi:X.N[i]?=some x)(hx:Loc X.env.scope x)(he:PE X e te)(ho:PIp X op ti)(hf:X.fn x=true∨X.env.scope.names.lookup x=some .local:=by first|exact .inl rfl|exact .inr rfl|assumption):
  PS X (.AugAssign (.Name x pos') op e pos) (Yw i te ti):=by
 intro w4 s O H D I h;obtain⟨v,e1,h⟩:=h;obtain⟨m,hn,hl⟩:=I.loc;have vis:Vis X.env.scope x:=by rcases hx with k|k;exact .inl k;exact .inr (.inl k)
 obtain⟨u,r,l⟩:=hl i x v hi e1 vis;refine wpAny_AugAssign_Name ?_;have go:wpAny (model X.prog X.w) X.A (eval e X.env) (λw s₂=>wpAny (model X.prog X.w) X.A (inplaceOp op u w) (λr s₃=>wpAny (model X.prog X.w) X.A (storeName X.env x r) (λ_=>SP X w4 D .next) X.xe s₃) X.xe s₂) X.xe s:=by
  refine thn (he w4 s O H _ I h) λw s1 ⟨y,H1,I1,r1,q1⟩=>?_;refine thn (ho w4 s1 O H1 v y u w _ I1 r r1 q1) λz s2 ⟨zv,H2,I2,r2,q2⟩=>?_;exact HN I2 hN hi hx r2 (λs3 I3=>⟨_,H2,I3,q2⟩) hf
 rcases l with ⟨hk,hm⟩|⟨hk,c,hc,hcell⟩
 ·exact wpAny_loadName_local I.ok.kind hk hn hm go
 ·rcases hk with hk|hk
  ·exact wpAny_loadName_cell I.ok.kind hk hc hcell go
  ·rcases hx with k|k
   ·have:X.env.scope.names.lookup x=some .free:=hk;rw[k] at this;cases this
   ·have:X.env.scope.names.lookup x=some .free:=hk;rw[k] at this;cases this
noncomputable def ipI(f:Int->Int->Int):TIp:=λx y H Q=>∃i j,x=.int i/\y=.int j/\Q (.int (f i j)) H
theorem WY:PIp X .Add (ipI λi j=>i+j):=by
 intro w4 s O H x y v u Q I r1 r2 h;obtain⟨i,j,e1,e2,q⟩:=h;subst e1;subst e2;obtain⟨t,rfl⟩:=r1;obtain⟨t',rfl⟩:=r2;exact iadd_int ⟨.int _,H,I.tok _,⟨_,rfl⟩,q⟩
end
section
variable{X:Cx}{pos:Pos}
noncomputable def VQ(c:TT)(tb:TS):TS:=λD O H=>∃W:Nat->St->Hp->Prop,(∃m,W m O H)/\∀m O H,W m O H->
 c O H λb H1=>if b=true then ∃N:St->Hp->Prop,(∀O' H',N O' H'->∃m',m'<m/\W m' O' H')/\tb { D with nx:=N,ct:=N,bk:=D.nx } O H1 else D.nx O H1
theorem QN(hp:PassesOwn (model X.prog X.w) X.A X.env X.xe)(hc:PT X c tc)(hb:PSs X body tb):PS X (.While c body [] pos) (VQ tc tb):=by
 intro w4 s O H D I h;obtain⟨W,⟨m0,w0⟩,turn⟩:=h;refine wpAny_While (codeAny_whileLoop (λn s'=>∃O' H',Inv X w4 O' H' s'/\W n O' H') ?_ m0 ⟨O,H,I,w0⟩);rintro n s1 ⟨u8,H1,I1,w1⟩;refine wpAny_passesOwn hp (thn (hc w4 s1 u8 H1 _ I1 (turn n u8 H1 w1)) λb s2 ⟨H2,I2,q2⟩=>?_);cases b with
 |true=>
  obtain⟨N,hN,q2⟩:=q2;rw[if_pos rfl];refine wpAny_passesOwn hp (thn (hb w4 s2 u8 H2 _ I2 q2) λf s3 q3=>?_);cases f with
  |next=>
   obtain⟨u6,H3,I3,n3⟩:=q3;obtain⟨m',hm,w3⟩:=hN u6 H3 n3;exact⟨m',hm,u6,H3,I3,w3⟩
  |cont=>
   obtain⟨u6,H3,I3,n3⟩:=q3;obtain⟨m',hm,w3⟩:=hN u6 H3 n3;exact⟨m',hm,u6,H3,I3,w3⟩
  |brk=>exact q3
  |ret v=>exact q3
 |false=>
  rw[if_neg AAh];exact wpAny_execs_nil ⟨u8,H2,I2,q2⟩
end
set_option genInjectivity false in
structure It where
 go:Nat->Hp->Prop
 yld:Nat->Hp->V->Hp->Prop
 stop:Nat->Hp->Prop
def F8(X:Cx)(w4:List (Addr×Obj))(H:Hp)(b:Addr):Prop:=
 H b=none/\b≠X.env.locals/\b∉X.fs/\(b∈X.ex∨X.s₀.heap.objs.size<=b)/\(∀x c,X.env.cells.lookup x=some c->c≠b)/\∀p∈X.pn++w4,p.1≠b
theorem Inv.fpOk(I:Inv X w4 O H s)(hb:s.heap.objs.size<=b)(hn:H' b=none):F8 X w4 H' b:=by
 refine⟨hn,Nat.ne_of_gt (AAM I.lt hb),I.nofs hb,.inr (AAs I.sz hb),λx c e z=>?_,λp hp z=>?_⟩
 ·obtain⟨v,q⟩:=I.cell x c e;exact absurd (AAM q.lt (by rw[z];exact hb)) (AAw _)
 ·exact absurd (AAM (Heap.lt_size (I.pin p hp).1) (by rw[z];exact hb)) (AAw _)
structure Lp(P:Program)(w:World)(K:PySem.W.Frag)(tg:Expr)(J:It)(fp:List Addr)(it:Addr)(tn:Nat->Heap->Prop):Prop where
 mem:it∈fp
 obj:∀i h,tn i h->∀b∈fp,∃o,h.get? b=some o/\∀v,o.data≠.cell v
 keep:∀i h h',tn i h->(∀b∈fp,∀o,h.get? b=some o->h'.get? b=some o)->tn i h'
 item:∀(X:Cx),X.prog=P->X.w=w->X.K=K->X.calm=true->∀(i:Nat) (w4:List (Addr×Obj)) (s:Shared) (O:St) (H:Hp) (E:Value->Shared->Prop),Inv X w4 O H s->(∀b∈fp,F8 X w4 H b)->tn i s.heap->J.go i H->
  wpAny (model P w) X.A (pyNext (.ref it)) (λr s1=>∃u,r=some u /\
   wpAny (model P w) X.A (letOwnedTupleGo tg (.ref it) u) (λ_ s2=>∃x H',Inv X w4 O H' s2/\RelV x u/\J.yld i H x H'/\tn (i+1) s2.heap/\∀b∈fp,H' b=none) E s1) E s
 done:∀(X:Cx),X.prog=P->X.w=w->X.K=K->X.calm=true->∀(i:Nat) (w4:List (Addr×Obj)) (s:Shared) (O:St) (H:Hp) (E:Value->Shared->Prop),Inv X w4 O H s->(∀b∈fp,F8 X w4 H b)->tn i s.heap->J.stop i H->
  wpAny (model P w) X.A (pyNext (.ref it)) (λr s1=>r=none/\Inv X w4 O H s1) E s
 self:∀(A:Around) (i:Nat) (s:Shared) (Q:Value->Shared->Prop) (E:Value->Shared->Prop),tn i s.heap->Q (.ref it) s->wpAny (model P w) A (pyIter (.ref it)) Q E s
noncomputable abbrev TI:=St->Hp->(It->Hp->Prop)->Prop
def PIE(X:Cx)(w4:List (Addr×Obj))(O:St)(tg:Expr)(R:It->Hp->Prop)(itv:Value)(s2:Shared):Prop:=
 ∃(it:Addr) (fp:List Addr) (tn:Nat->Heap->Prop) (J:It) (H':Hp),itv=.ref it/\Inv X w4 O H' s2/\Lp X.prog X.w X.K tg J fp it tn/\tn 0 s2.heap/\(∀b∈fp,F8 X w4 H' b)/\R J H'
def PI(X:Cx)(tg iter:Expr)(wi:TI):Prop:=
 ∀(w4:List (Addr×Obj)) (s:Shared) (O:St) (H:Hp) (R:It->Hp->Prop),Inv X w4 O H s->wi O H R->
  wpAny (model X.prog X.w) X.A (eval iter X.env) (λv s1=>wpAny (model X.prog X.w) X.A (pyIter v) (PIE X w4 O tg R) X.xe s1) X.xe s
theorem RN(ho:s.heap.get? it=some o)(hc:o.cls=.type n)(hd:o.data=.fields vs)
  (hn:["enumerate", "zip", "dict_itemiterator", "dict_reverseitemiterator", "odict_iterator", "itertools.zip_longest", "itertools.pairwise"].contains n=false) (hQ:Q () s):wpAny M A (letOwnedTupleGo tg (.ref it) u) Q E s:=by
 unfold letOwnedTupleGo;cases tg<;>first
  |exact AAB hQ
  |(cases u<;>first
    |exact AAB hQ
    |(refine AAA (wpAny_load ho ?_);rw[hc,hd];show wpAny M A (if (["enumerate", "zip", "dict_itemiterator", "dict_reverseitemiterator", "odict_iterator", "itertools.zip_longest", "itertools.pairwise"].contains n&&vs[0]?==some (rawInt _))=true then _ else _) Q E s;rw[if_neg (by intro h;rw[hn,Bool.false_and] at h;cases h)];exact AAB hQ))
noncomputable def Itl(K:PySem.W.Frag)(a:Addr):It:=
 ⟨λi H=>∃xs x,SqL K H a xs/\xs[i]?=some x,λi H x H'=>H'=H/\∀xs,SqL K H a xs->xs[i]?=some x,λi H=>∃xs,SqL K H a xs/\xs.length<=i⟩
noncomputable def Itt(K:PySem.W.Frag)(a:Addr):It:=
 ⟨λi H=>∃xs x,SqT K H a xs/\xs[i]?=some x,λi H x H'=>H'=H/\∀xs,SqT K H a xs->xs[i]?=some x,λi H=>∃xs,SqT K H a xs/\xs.length<=i⟩
noncomputable def Itr(lo:Int)(n:Nat):It:=⟨λi _=>i<n,λi H x H'=>H'=H/\x=.int (lo+i),λi _=>n<=i⟩
theorem OF{P:Program}{w:World}{K:PySem.W.Frag}{tg:Expr}(a it:Addr):Lp P w K tg (Itl K a) [it] it (λi h=>h.IsListIter it a i) where
 mem:=by simp
 obj:=λi h st b hb=>by
  have e:b=it:=by simpa using hb
  subst e;obtain⟨o,e,c,d⟩:=st;exact⟨o,e,λv z=>by rw[d] at z;cases z⟩
 keep:=λi h h' st k=>st.at λo e=>k it (by simp) o e
 item:=by
  intro X hP hw hK hc i w4 s O H E I hf st hg;subst hP hw hK;obtain⟨xs,x,hq,hx⟩:=hg;obtain⟨its,rv,p,hz⟩:=I.list hq;obtain⟨u,hu,ru⟩:=rv.get hx;obtain⟨f0,f1,f2,f3,f4,f5⟩:=hf it (by simp);refine wpAny_pyNext_list_item st p.isList (x:=u) (by simpa using hu) λh' st' sb=>?_;have I1:Inv X w4 O H { s with heap:=h' }:=I.turned (t':=s.toks) (λb o hb e=>(sb.2 b hb).trans e) f0 f1 f3 f4 f5;obtain⟨o,e,c,d⟩:=id st';exact⟨u,rfl,RN (s:={ s with heap:=h' }) e c d (by decide) ⟨x,H,I1,ru,⟨rfl,λys hy=>by rw[I.list_inj hy hq];exact hx⟩,st',λb hb=>(hf b hb).1⟩⟩
 done:=by
  intro X hP hw hK hc i w4 s O H E I hf st hg;subst hP hw hK;obtain⟨xs,hq,hx⟩:=hg;obtain⟨its,rv,p,hz⟩:=I.list hq;obtain⟨f0,f1,f2,f3,f4,f5⟩:=hf it (by simp);have hl:=rv.length;exact wpAny_pyNext_list_end (I.ok.hd hc) st p.isList (by simp;omega) λh' eb=>⟨rfl,I.turned (t':=s.toks) (λb o hb e=>eb b o hb e) f0 f1 f3 f4 f5⟩
 self:=λ_ _ _ _ _ st h=>wpAny_pyIter_listiter st h
theorem Lx{P:Program}{w:World}{K:PySem.W.Frag}{tg:Expr}(a it:Addr):Lp P w K tg (Itt K a) [it] it (λi h=>h.IsTupleIter it a i) where
 mem:=by simp
 obj:=λi h st b hb=>by
  have e:b=it:=by simpa using hb
  subst e;obtain⟨o,e,c,d⟩:=st;exact⟨o,e,λv z=>by rw[d] at z;cases z⟩
 keep:=λi h h' st k=>st.at λo e=>k it (by simp) o e
 item:=by
  intro X hP hw hK hc i w4 s O H E I hf st hg;subst hP hw hK;obtain⟨xs,x,hq,hx⟩:=hg;obtain⟨its,rv,p,hz⟩:=I.tuple hq;obtain⟨u,hu,ru⟩:=rv.get hx;obtain⟨f0,f1,f2,f3,f4,f5⟩:=hf it (by simp);refine wpAny_pyNext_tuple_item st (show s.heap.IsTuple a its.toArray from p) (x:=u) (by simpa using hu) λh' st' sb=>?_;have I1:Inv X w4 O H { s with heap:=h' }:=I.turned (t':=s.toks) (λb o hb e=>(sb.2 b hb).trans e) f0 f1 f3 f4 f5;obtain⟨o,e,c,d⟩:=id st';exact⟨u,rfl,RN (s:={ s with heap:=h' }) e c d (by decide) ⟨x,H,I1,ru,⟨rfl,λys hy=>by rw[I.tuple_inj hy hq];exact hx⟩,st',λb hb=>(hf b hb).1⟩⟩
 done:=by
  intro X hP hw hK hc i w4 s O H E I hf st hg;subst hP hw hK;obtain⟨xs,hq,hx⟩:=hg;obtain⟨its,rv,p,hz⟩:=I.tuple hq;obtain⟨f0,f1,f2,f3,f4,f5⟩:=hf it (by simp);have hl:=rv.length;exact wpAny_pyNext_tuple_end (I.ok.hd hc) st (show s.heap.IsTuple a its.toArray from p) (by simp;omega) λh' eb=>⟨rfl,I.turned (t':=s.toks) (λb o hb e=>eb b o hb e) f0 f1 f3 f4 f5⟩
 self:=λ_ _ _ _ _ st h=>wpAny_pyIter_tupleiter st h
theorem Ly{P:Program}{w:World}{K:PySem.W.Frag}{tg:Expr}(it:Addr)(lo:Int)(n:Nat):Lp P w K tg (Itr lo n) [it] it (λi h=>IsRangeIter h it (lo+(i:Nat) * 1) ((n:Int)-(i:Nat)) 1) where
 mem:=by simp
 obj:=λi h st b hb=>by
  have e:b=it:=by simpa using hb
  subst e;exact⟨_,st,λv z=>by
   have z':Data.fields _=Data.cell v:=z;cases z'⟩
 keep:=λi h h' st k=>k it (by simp) _ st
 item:=by
  intro X hP hw hK hc i w4 s O H E I hf st hg;subst hP hw hK;obtain⟨f0,f1,f2,f3,f4,f5⟩:=hf it (by simp);have W:=Walks.range (prog:=X.prog) (w:=X.w) (I.ok.hd hc) it lo 1 n;refine W.item i s _ _ hg st λv h' tk hv st' kk=>?_;obtain⟨t,rfl⟩:=hv;have I1:Inv X w4 O H { s with heap:=h',toks:=tk }:=I.turned (λb o hb e=>kk b o (by simpa using hb) e) f0 f1 f3 f4 f5;refine⟨_,rfl,RN (s:={ s with heap:=h',toks:=tk }) (n := "range_iterator") st' rfl rfl (by decide) ⟨.int (lo+i),H,I1,⟨t,?_⟩,⟨rfl,rfl⟩,st',λb hb=>(hf b hb).1⟩⟩;rw[Int.mul_one]
 done:=by
  intro X hP hw hK hc i w4 s O H E I hf st hg;subst hP hw hK;obtain⟨f0,f1,f2,f3,f4,f5⟩:=hf it (by simp);exact wpAny_pyNext_range_end (I.ok.hd hc) st (by have:n<=i:=hg;omega) λh' eb=>⟨rfl,I.turned (t':=s.toks) (λb o hb e=>eb b o hb e) f0 f1 f3 f4 f5⟩
 self:=λ_ _ _ _ _ st h=>wpAny_pyIter_rangeiter st h
section
variable{X:Cx}{tg:Expr}
noncomputable def Uy(K:PySem.W.Frag)(tl:TE):TI:=λO H R=>tl O H λx H1=>∃a,x=.ref a/\(∃xs,SqL K H1 a xs)/\R (Itl K a) H1
noncomputable def YI(K:PySem.W.Frag)(tl:TE):TI:=λO H R=>tl O H λx H1=>∃a,x=.ref a/\(∃xs,SqT K H1 a xs)/\R (Itt K a) H1
theorem Jx{l:Expr}{tl:TE}(hl:PE X l tl):PI X tg l (Uy X.K tl):=by
 intro w4 s O H R I h;refine thn (hl w4 s O H _ I h) λv s1 ⟨x,H1,I1,r1,q1⟩=>?_;obtain⟨a,e,⟨xs,hq⟩,q⟩:=q1;subst e;cases r1;obtain⟨its,rv,p,hz⟩:=I1.list hq;refine wpAny_pyIter_list p.isList ?_;refine⟨s1.heap.objs.size,[s1.heap.objs.size],_,_,H1,rfl,I1.kept (t':=s1.toks) λb o e=>AAC _ e,OF a _,⟨_,AAD _ rfl,rfl,rfl⟩,λb hb=>?_,q⟩;have e:b=s1.heap.objs.size:=by simpa using hb
 subst e;exact I1.fpOk (AAE _) (I1.hok.fresh (AAE _))
theorem Vo{l:Expr}{tl:TE}(hl:PE X l tl):PI X tg l (YI X.K tl):=by
 intro w4 s O H R I h;refine thn (hl w4 s O H _ I h) λv s1 ⟨x,H1,I1,r1,q1⟩=>?_;obtain⟨a,e,⟨xs,hq⟩,q⟩:=q1;subst e;cases r1;obtain⟨its,rv,p,hz⟩:=I1.tuple hq;refine wpAny_pyIter_tuple (show s1.heap.IsTuple a its.toArray from p) ?_;refine⟨s1.heap.objs.size,[s1.heap.objs.size],_,_,H1,rfl,I1.kept (t':=s1.toks) λb o e=>AAC _ e,Lx a _,⟨_,AAD _ rfl,rfl,rfl⟩,λb hb=>?_,q⟩;have e:b=s1.heap.objs.size:=by simpa using hb
 subst e;exact I1.fpOk (AAE _) (I1.hok.fresh (AAE _))
theorem QE{w4:List (Addr×Obj)}{O:St}{H:Hp}{s:Shared}{lo hi:Int}{t u v:Tok}{tk:Nat}(I:Inv X w4 O H s)(h1:-(2 ^ 62)<=lo)(h2:lo<2 ^ 62)(h3:-(2 ^ 62)<=hi)(h4:hi<2 ^ 62)
  (q:R (Itr lo (hi-lo).toNat) H):wpAny (model X.prog X.w) X.A (pyIter (.ref s.heap.objs.size)) (PIE X w4 O tg R) E { s with heap:=s.heap.push { cls:=.type "range",data:=.fields #[.int lo t,.int hi u,.int 1 v] },toks:=tk }:=by
 refine wpAny_pyIter_range (IsRange.new ..) (small_one h1 h2 h3 h4) ?_;have I1:Inv X w4 O H { s with heap:=s.heap.push { cls:=.type "range",data:=.fields #[.int lo t,.int hi u,.int 1 v] },toks:=tk }:=I.kept λb o e=>AAC _ e;refine⟨(s.heap.push { cls:=.type "range",data:=.fields #[.int lo t,.int hi u,.int 1 v] }).objs.size,[(s.heap.push { cls:=.type "range",data:=.fields #[.int lo t,.int hi u,.int 1 v] }).objs.size],_,_,H,rfl,
  I1.kept (t':=tk) λb o e=>AAC _ e,Ly _ lo (hi-lo).toNat,?_,λb hb=>?_,q⟩
 ·have e1:lo+((0:Nat):Int) * 1=lo:=by simp
  have e2:(((hi-lo).toNat:Nat):Int)-((0:Nat):Int)=Builtin.Range.rangeSize lo hi 1:=by rw[rangeSize_one];split<;>omega
  show IsRangeIter _ _ (lo+((0:Nat):Int) * 1) ((((hi-lo).toNat:Nat):Int)-((0:Nat):Int)) 1;rw[e1,e2];exact AAD _ rfl
 ·have e:b=(s.heap.push { cls:=.type "range",data:=.fields #[.int lo t,.int hi u,.int 1 v] }).objs.size:=by simpa using hb
  subst e;exact I1.fpOk (AAE _) (I1.hok.fresh (AAE _))
noncomputable def YJ(ta:TA):TI:=λO H R=>ta O H λvs H1=>∃j:Int,vs=[.int j]/\-(2 ^ 62)<=j/\j<2 ^ 62/\R (Itr 0 j.toNat) H1
theorem OT{a:Expr}{p pos:Pos}(hg:Gl X "range")(hm:X.mg "range" = none)(ha:PA X [a] ta)(hs:starEach [a] X.env=[(false,eval a X.env)]:=by rfl):PI X tg (.Call (.Name "range" p) [a] [] pos) (YJ ta):=by
 intro w4 s O H R I h;refine Call_ (GI I hg hm boot_range (PyProof.Rows.callWith_type1 (thn (ha pos w4 s O H _ I h) λus s1 ⟨vs,H1,I1,r1,q1⟩=>?_) hs rfl));obtain⟨j,e,q1,q2,q⟩:=q1;subst e;cases r1 with
 |cons r rr=>
  cases rr;obtain⟨t,rfl⟩:=r;exact call_range_1 (QE I1 (by omega) (by omega) q1 q2 (by simpa using q))
noncomputable def Yv(wi:TI)(g:TG)(tb:TS):TS:=λD O H=>wi O H λJ H1=>∃W:Nat->Nat->St->Hp->Prop,(∃m,W 0 m O H1)/\∀i m O H,W i m O H->
 (J.stop i H/\D.nx O H)∨(J.go i H/\∃N:St->Hp->Prop,(∀O' H',N O' H'->∃m',m'<m/\W (i+1) m' O' H')/\∀x H',J.yld i H x H'->g x O H' λu4 H2=>tb { D with nx:=N,ct:=N,bk:=D.nx } u4 H2)
noncomputable def Jw(fp:List Addr)(h:Heap):List (Addr×Obj):=fp.filterMap λb=>(h.get? b).map λo=>(b,o)
theorem C7(hb:b∈fp)(e:h.get? b=some o):(b,o)∈Jw fp h:=List.mem_filterMap.mpr ⟨b,hb,by rw[e];rfl⟩
theorem OX(hp:p∈Jw fp h):p.1∈fp/\h.get? p.1=some p.2:=by
 obtain⟨b,hb,e⟩:=List.mem_filterMap.mp hp;cases q:h.get? b with
 |none=>rw[q] at e;cases e
 |some o=>
  rw[q] at e;have e':(b,o)=p:=Option.some.inj e;subst e';exact⟨hb,q⟩
theorem Inv.pinned(I:Inv X w4 O H s)(hf:∀b∈fp,F8 X w4 H b)(ho:∀b∈fp,∃o,s.heap.get? b=some o/\∀v,o.data≠.cell v):Inv X (w4++Jw fp s.heap) O H s:=
 I.pins_of λp hp=>(AAJ.mp hp).elim (λz=>I.pin p (AAb _ z)) λz=>by
  obtain⟨hb,e⟩:=OX z;obtain⟨f0,f1,f2,_⟩:=hf p.1 hb;obtain⟨o,e',d⟩:=ho p.1 hb;rw[e] at e';cases e';exact⟨e,f0,f1,f2,d⟩
theorem Inv.unpinned(I:Inv X (w4++pl) O H s):Inv X w4 O H s:=I.pins_of λp hp=>I.pin p (AAb _ (AAc _ hp))
theorem QQ(hp:PassesOwn (model X.prog X.w) X.A X.env X.xe)(hc:X.calm=true)(hi:PI X tg iter wi)(hg:PG X tg g)(hb:PSs X body tb)
  (hs:∀x,foldedSetIterable iter X.env x=pure x:=by intro _;rfl):PS X (.For tg iter body [] pos) (Yv wi g tb):=by
 intro w4 s O H D I h;refine wpAny_For (thn (hi w4 s O H _ I h) λv s1 h1=>thn h1 λitv s2 h2=>?_) hs;obtain⟨it,fp,tn,J,H2,e,I2,T,st2,f2,W,⟨m0,w0⟩,turn⟩:=h2;subst e;have stat:∀{H':Hp},(∀b∈fp,H' b=none)->∀b∈fp,F8 X w4 H' b:=λhn b hb=>⟨hn b hb,(f2 b hb).2⟩;refine codeAny_forLoop_any (λn s'=>∃i O' H',Inv X w4 O' H' s'/\tn i s'.heap/\(∀b∈fp,H' b=none)/\W i n O' H') ?_ m0 ⟨0,O,H2,I2,st2,λb hb=>(f2 b hb).1,w0⟩;rintro n s3 ⟨i,u6,H3,I3,st3,fr3,w3⟩;rcases turn i n u6 H3 w3 with ⟨stop,qn⟩|⟨go,N,hN,step⟩
 ·refine wpAny_passesOwn hp (thn (T.done X rfl rfl rfl hc i w4 s3 u6 H3 X.xe I3 (stat fr3) st3 stop) λr s4 ⟨hr,I4⟩=>?_);subst hr;exact wpAny_execs_nil ⟨u6,H3,I4,qn⟩
 ·refine wpAny_passesOwn hp (thn (T.item X rfl rfl rfl hc i w4 s3 u6 H3 X.xe I3 (stat fr3) st3 go) λr s4 ⟨u,hr,h4⟩=>?_);subst hr;refine wpAny_passesOwn hp (thn h4 λ_ s5 zq=>?_);obtain⟨x,H5,I5,r5,y5,st5,fr5⟩:=zq;have I5':=I5.pinned (stat fr5) (T.obj _ _ st5);refine wpAny_passesOwn hp (thn (hg _ s5 u6 H5 x u _ I5' r5 (step x H5 y5)) λ_ s6 ⟨u7,H6,I6,q6⟩=>?_);refine wpAny_passesOwn hp (thn (hb _ s6 u7 H6 _ I6 q6) λf s7 q7=>?_);have again:∀{u9:St} {H7:Hp},Inv X (w4++Jw fp s5.heap) u9 H7 s7->N u9 H7->∃m,m<n/\∃i O' H',Inv X w4 O' H' s7/\tn i s7.heap/\(∀b∈fp,H' b=none)/\W i m O' H':=λ{u9 H7} I7 n7=>by
   obtain⟨m',hm,w7⟩:=hN u9 H7 n7;refine⟨m',hm,i+1,u9,H7,I7.unpinned,T.keep _ _ _ st5 λb hb o e=>(I7.pin (b,o) (AAb _ (AAb _ (C7 hb e)))).1,λb hb=>?_,w7⟩;obtain⟨o,e,d⟩:=T.obj _ _ st5 b hb;exact(I7.pin (b,o) (AAb _ (AAb _ (C7 hb e)))).2.1
  cases f with
  |next=>obtain⟨u9,H7,I7,n7⟩:=q7;exact again I7 n7
  |cont=>obtain⟨u9,H7,I7,n7⟩:=q7;exact again I7 n7
  |brk=>obtain⟨u9,H7,I7,q7⟩:=q7;exact⟨u9,H7,I7.unpinned,q7⟩
  |ret v=>obtain⟨x7,u9,H7,I7,r7,q7⟩:=q7;exact⟨x7,u9,H7,I7.unpinned,r7,q7⟩
end
noncomputable abbrev R2:=V->V->Hp->VK->Prop
def OpR(X:Cx)(f:Value->Value->Sem Value)(r:R2):Prop:=
 ∀(w4:List (Addr×Obj)) (s:Shared) (O:St) (H:Hp) (x y:V) (v u:Value) (Q:VK),Inv X w4 O H s->RelV x v->RelV y u->r x y H Q->
  wpAny (model X.prog X.w) X.A (f v u) (EP X w4 O Q) X.xe s
def UnR(X:Cx)(f:Value->Sem Value)(r:V->Hp->VK->Prop):Prop:=
 ∀(w4:List (Addr×Obj)) (s:Shared) (O:St) (H:Hp) (x:V) (v:Value) (Q:VK),Inv X w4 O H s->RelV x v->r x H Q->
  wpAny (model X.prog X.w) X.A (f v) (EP X w4 O Q) X.xe s
def CU(X:Cx)(f:Value)(r:List V->Hp->VK->Prop):Prop:=
 ∀(w4:List (Addr×Obj)) (s:Shared) (O:St) (H:Hp) (xs:List V) (us:List Value) (Q:VK),Inv X w4 O H s->Vals xs us->r xs H Q->
  wpAny (model X.prog X.w) X.A (call f us) (EP X w4 O Q) X.xe s
def ZV(X:Cx)(r:V->Hp->(Bool->Hp->Prop)->Prop):Prop:=
 ∀(w4:List (Addr×Obj)) (s:Shared) (O:St) (H:Hp) (x:V) (v:Value) (Q:Bool->Hp->Prop),Inv X w4 O H s->RelV x v->r x H Q->
  wpAny (model X.prog X.w) X.A (truthy v) (TP X w4 O Q) X.xe s
noncomputable def tOp(r:R2)(ta tb:TE):TE:=λO H Q=>ta O H λx H1=>tb O H1 λy H2=>r x y H2 Q
noncomputable def tUn(r:V->Hp->VK->Prop)(ta:TE):TE:=λO H Q=>ta O H λx H1=>r x H1 Q
noncomputable def rI(C:Int->Int->Prop)(g:Int->Int->V):R2:=λx y H Q=>∃i j,x=.int i/\y=.int j/\C i j/\Q (g i j) H
noncomputable def rI0(g:Int->Int->V):R2:=λx y H Q=>∃i j,x=.int i/\y=.int j/\Q (g i j) H
noncomputable def rU(g:Int->V):V->Hp->VK->Prop:=λx H Q=>∃i,x=.int i/\Q (g i) H
section
variable{X:Cx}{a b:Expr}{ta tb:TE}{pos:Pos}
theorem Ws(ha:PE X a ta)(hb:PE X b tb){w4:List (Addr×Obj)}{s:Shared}{H:Hp}{R:V->V->Hp->Prop}(I:Inv X w4 O H s)
  (h:ta O H λx H1=>tb O H1 λy H2=>R x y H2) {Q:Value->Shared->Prop} {f:Value->Value->Sem Value}
  (hf:∀v u s2 x y H2,Inv X w4 O H2 s2->RelV x v->RelV y u->R x y H2->wpAny (model X.prog X.w) X.A (f v u) Q X.xe s2) :
  wpAny (model X.prog X.w) X.A (eval a X.env) (λv s₁=>wpAny (model X.prog X.w) X.A (eval b X.env) (λu s₂=>wpAny (model X.prog X.w) X.A (f v u) Q X.xe s₂) X.xe s₁) X.xe s:=by
 refine thn (ha w4 s O H _ I h) λv s1 ⟨x,H1,I1,r1,q1⟩=>?_;refine thn (hb w4 s1 O H1 _ I1 q1) λu s2 ⟨y,H2,I2,r2,q2⟩=>?_;exact hf v u s2 x y H2 I2 r1 r2 q2
theorem Xo{op:Operator}{r:R2}(ho:OpR X (binaryOp op) r)(ha:PE X a ta)(hb:PE X b tb):PE X (.BinOp a op b pos) (tOp r ta tb):=by
 intro w4 s O H Q I h;exact wpAny_BinOp (Ws ha hb I h λv u s2 x y H2 I2 rx ry q=>ho w4 s2 O H2 x y v u Q I2 rx ry q)
theorem Xn(ho:UnR X (unaryOp op) r)(ha:PE X a ta):PE X (.UnaryOp op a pos) (tUn r ta):=by
 intro w4 s O H Q I h;exact UnaryOp_ (thn (ha w4 s O H _ I h) λv s1 ⟨x,H1,I1,r1,q1⟩=>ho w4 s1 O H1 x v Q I1 r1 q1)
theorem opI{f:Value->Value->Sem Value}{g:Int->Int->Int}
  (rule:∀(i j:Int) (t u:Tok) (s:Shared) (Q:Value->Shared->Prop) (E:Value->Shared->Prop),C i j->Q (.int (g i j) s.toks) { s with toks:=s.toks+1 }->wpAny (model X.prog X.w) X.A (f (.int i t) (.int j u)) Q E s) :
  OpR X f (rI C λi j=>.int (g i j)):=by
 intro w4 s O H x y v u Q I rx ry h;obtain⟨i,j,rfl,rfl,hc,q⟩:=h;obtain⟨t,rfl⟩:=rx;obtain⟨t',rfl⟩:=ry;exact rule i j t t' s _ _ hc ⟨.int (g i j),H,I.tok _,⟨_,rfl⟩,q⟩
theorem Xz{g:Int->Int->Int}
  (rule:∀(i j:Int) (t u:Tok) (s:Shared) (Q:Value->Shared->Prop) (E:Value->Shared->Prop),Q (.int (g i j) s.toks) { s with toks:=s.toks+1 }->wpAny (model X.prog X.w) X.A (f (.int i t) (.int j u)) Q E s) :
  OpR X f (rI0 λi j=>.int (g i j)):=by
 intro w4 s O H x y v u Q I rx ry h;obtain⟨i,j,rfl,rfl,q⟩:=h;obtain⟨t,rfl⟩:=rx;obtain⟨t',rfl⟩:=ry;exact rule i j t t' s _ _ ⟨.int (g i j),H,I.tok _,⟨_,rfl⟩,q⟩
theorem Ts{g:Int->Int->Bool}
  (rule:∀(i j:Int) (t u:Tok) (s:Shared) (Q:Value->Shared->Prop) (E:Value->Shared->Prop),Q (.bool (g i j)) s->wpAny (model X.prog X.w) X.A (f (.int i t) (.int j u)) Q E s) :
  OpR X f (rI0 λi j=>.bl (g i j)):=by
 intro w4 s O H x y v u Q I rx ry h;obtain⟨i,j,rfl,rfl,q⟩:=h;obtain⟨t,rfl⟩:=rx;obtain⟨t',rfl⟩:=ry;exact rule i j t t' s _ _ ⟨.bl (g i j),H,I,rfl,q⟩
def Zb(i j:Int):Prop:=0<j/\j<1073741824
def Za(i j:Int):Prop:=0<=j/\j<=1000000/\i.natAbs<2 ^ 64
def CMul(i j:Int):Prop:=(-(2 ^ 64)<i/\i<2 ^ 64)∨(-(2 ^ 64)<j/\j<2 ^ 64)
theorem CMul.ok(h:CMul i j):IntMulOk i j:=by
 rcases h with ⟨h1,h2⟩|⟨h1,h2⟩
 ·exact .of_left (intBits_le_64 h1 h2)
 ·exact .of_right (intBits_le_64 h1 h2)
theorem WD:OpR X (binaryOp .Add) (rI0 λi j=>.int (i+j)):=Xz λ_ _ _ _ _ _ _ q=>add_int q
theorem V4:OpR X (binaryOp .Sub) (rI0 λi j=>.int (i-j)):=Xz λ_ _ _ _ _ _ _ q=>sub_int q
theorem V8:OpR X (binaryOp .Mult) (rI CMul λi j=>.int (i * j)):=opI λ_ _ _ _ _ _ _ hc q=>mul_int q hc.ok
theorem Tq:OpR X (binaryOp .FloorDiv) (rI Zb λi j=>.int (i / j)):=opI λi j _ _ _ _ _ hc q=>by
 have h1:(0:Int)<j:=hc.1;have h2:j<1073741824:=hc.2;exact floordiv_int (by omega) (by rw[Int.fdiv_eq_ediv_of_nonneg i (by omega)];exact q) (.inl (PyProof.noPylong_small (by omega)))
theorem V9:OpR X (binaryOp .Mod) (rI (λ_ j=>0<j) λi j=>.int (i % j)):=opI λi j _ _ _ _ _ hc q=>by
 have h1:(0:Int)<j:=hc;exact mod_int' (by omega) (by rw[Int.fmod_eq_emod_of_nonneg i (by omega)];exact q)
theorem V6:OpR X (binaryOp .Pow) (rI Za λi j=>.int (i ^ j.toNat)):=opI λ_ _ _ _ _ _ _ hc q=>pow_int_small hc.1 hc.2.1 hc.2.2 q
theorem unI{g:Int->Int}
  (rule:∀(i:Int) (t:Tok) (s:Shared) (Q:Value->Shared->Prop) (E:Value->Shared->Prop),Q (.int (g i) s.toks) { s with toks:=s.toks+1 }->wpAny (model X.prog X.w) X.A (f (.int i t)) Q E s) :
  UnR X f (rU λi=>.int (g i)):=by
 intro w4 s O H x v Q I rx h;obtain⟨i,rfl,q⟩:=h;obtain⟨t,rfl⟩:=rx;exact rule i t s _ _ ⟨.int (g i),H,I.tok _,⟨_,rfl⟩,q⟩
theorem VI:UnR X (unaryOp .USub) (rU λi=>.int (-i)):=unI λ_ _ _ _ _ q=>neg_int q
end
section
variable{X:Cx}{a b c:Expr}{ta tb tc:TE}{pos:Pos}
theorem KL(I:Inv X w4 O H s)(q:Q (.bl k) H)(e:k=k'):EP X w4 O Q (.bool k') s:=by
 subst e;exact⟨.bl k,H,I,rfl,q⟩
theorem Xv:OpR X (compareOp .Lt) (rI0 λi j=>.bl (decide (i<j))):=Ts λ_ _ _ _ _ _ _ q=>lt_int q
theorem Xw:OpR X (compareOp .LtE) (rI0 λi j=>.bl (decide (i<=j))):=Ts λ_ _ _ _ _ _ _ q=>le_int q
theorem Xx:OpR X (compareOp .Gt) (rI0 λi j=>.bl (decide (j<i))):=Ts λ_ _ _ _ _ _ _ q=>gt_int q
theorem Xy:OpR X (compareOp .GtE) (rI0 λi j=>.bl (decide (j<=i))):=Ts λ_ _ _ _ _ _ _ q=>ge_int q
theorem OV:OpR X (compareOp .In) (λx y H Q=>∃i j,x=.str i/\y=.str j/\Q (.bl (!(Builtin.Str.occurrences j i 0 j.length 1).isEmpty)) H):=by
 intro w4 s O H x y v u Q I rx ry h;obtain⟨i,j,rfl,rfl,q⟩:=h;obtain⟨t,rfl⟩:=rx;obtain⟨t',rfl⟩:=ry;exact in_str (KL I q rfl)
theorem WA:OpR X (compareOp .Is) (λx y H Q=>y=.non/\Q (.bl (decide (x=.non))) H):=by
 intro w4 s O H x y v u Q I rx ry h;obtain⟨rfl,q⟩:=h;cases ry;refine is_none_gen (KL I q ?_);cases x<;>first
  |(cases rx;rfl)
  |(obtain⟨t,rfl⟩:=rx;rfl)
theorem Tp:OpR X (compareOp .IsNot) (λx y H Q=>y=.non/\Q (.bl (!decide (x=.non))) H):=by
 intro w4 s O H x y v u Q I rx ry h;obtain⟨rfl,q⟩:=h;cases ry;refine isnot_none_gen (KL I q ?_);cases x<;>first
  |(cases rx;rfl)
  |(obtain⟨t,rfl⟩:=rx;rfl)
theorem Jz:OpR X (compareOp .NotIn) (λx y H Q=>∃i j,x=.str i/\y=.str j/\Q (.bl (!(!(Builtin.Str.occurrences j i 0 j.length 1).isEmpty))) H):=by
 intro w4 s O H x y v u Q I rx ry h;obtain⟨i,j,rfl,rfl,q⟩:=h;obtain⟨t,rfl⟩:=rx;obtain⟨t',rfl⟩:=ry;exact notIn_str (KL I q rfl)
theorem Qs(b:Expr)(h:op≠.In:=by decide)(h2:op≠.NotIn:=by decide):behindInMarks op b=false:=by
 have e1:(op==CmpOp.In)=false:=by cases op<;>first|rfl|exact absurd rfl h
 have e2:(op==CmpOp.NotIn)=false:=by cases op<;>first|rfl|exact absurd rfl h2
 cases b<;>simp[behindInMarks,e1,e2]
theorem Ti{r:R2}(ho:OpR X (compareOp op) r)(ha:PE X a ta)(hb:PE X b tb)(hm:behindInMarks op b=false):PE X (.Compare a [op] [b] pos) (tOp r ta tb):=by
 intro w4 s O H Q I h;exact wpAny_Compare1 (Ws ha hb I h λv u s2 x y H2 I2 rx ry q=>ho w4 s2 O H2 x y v u Q I2 rx ry q) hm
noncomputable def XE(t:TE):TT:=λO H Q=>t O H λx H'=>∃k,x=.bl k/\Q k H'
theorem TU(ho:OpR X (compareOp op) r)(ha:PE X a ta)(hb:PE X b tb)(hm:behindInMarks op b=false):PT X (.Compare a [op] [b] pos) (XE (tOp r ta tb)):=by
 intro w4 s O H Q I h;refine wpAny_isTrue_Compare1 (thn (ha w4 s O H _ I h) λv s1 ⟨x,H1,I1,r1,q1⟩=>thn (hb w4 s1 O H1 _ I1 q1) λu s2 ⟨y,H2,I2,r2,q2⟩=>
  thn (ho w4 s2 O H2 x y v u _ I2 r1 r2 q2) λc s3 ⟨z,H3,I3,r3,k,e,q3⟩=>?_) hm
 subst e;cases r3;exact wpAny_truthy_bool ⟨H3,I3,q3⟩
noncomputable def Pp(r r':R2)(ta tb tc:TE):TE:=λO H Q=>ta O H λx H1=>tb O H1 λy H2=>r x y H2 λz H3=>∃k,z=.bl k /\
 (if k=true then tc O H3 λw' H4=>r' y w' H4 Q else Q (.bl false) H3)
theorem Qg(ho:OpR X (compareOp op) r)(ho':OpR X (compareOp op') r')(ha:PE X a ta)(hb:PE X b tb)(hc:PE X c tc)
  (hm:lastMarks [op,op'] [b,c]=false:=by with_unfolding_all rfl):PE X (.Compare a [op,op'] [b,c] pos) (Pp r r' ta tb tc):=by
 intro w4 s O H Q I h;refine Compare_chain (thn (ha w4 s O H _ I h) λv s1 ⟨x,H1,I1,r1,q1⟩=>chain_link (thn (hb w4 s1 O H1 _ I1 q1) λu s2 ⟨y,H2,I2,r2,q2⟩=>
  thn (ho w4 s2 O H2 x y v u _ I2 r1 r2 q2) λd s3 ⟨z,H3,I3,r3,k,e,q3⟩=>?_)) hm
 subst e;cases r3;refine wpAny_truthy_bool ?_;cases k with
 |false=>exact ite_ff ⟨.bl false,H3,I3,rfl,q3⟩
 |true=>exact ite_tt (chain_last (thn (hc w4 s3 O H3 _ I3 q3) λw' s4 ⟨z',H4,I4,r4,q4⟩=>ho' w4 s4 O H4 y z' u w' Q I4 r2 r4 q4))
def Yh(K:PySem.W.Frag)(x:V)(H:Hp)(k:Bool):Prop:=
 match x with
 | .non=>k=false
 | .bl b=>k=b
 | .int i=>k=(i != 0)
 | .str y=>y.length<=sizeLine/\k=((y.length:Int) != 0)
 | .byt y=>y.size<=sizeLine/\k=((y.size:Int) != 0)
 | .ref p=>(∃xs,SqL K H p xs/\k=!xs.isEmpty)∨(∃xs,SqT K H p xs/\k=!xs.isEmpty)∨∃kvs,H p=some (.dK kvs)/\k=!kvs.isEmpty
 |_=>False
theorem MQ(r:KV kvs vs):(!vs.isEmpty)=!kvs.isEmpty:=by
 cases r<;>rfl
theorem Hr(r:Vals xs its):(!its.toArray.isEmpty)=!xs.isEmpty:=by
 cases r<;>simp
theorem FZ:(sizeLine:Nat)<2 ^ 63:=by rw[sizeLine_eq];decide
theorem VL:ZV X (λx H Q=>∃k,Yh X.K x H k/\Q k H):=by
 intro w4 s O H x v Q I rx h;obtain⟨k,e,q⟩:=h;have hl:=FZ;have hs:sizeLine=16777216:=sizeLine_eq;cases x with
 |non=>
  cases rx;have e':k=false:=e;subst e';exact truthy_none ⟨H,I,q⟩
 |bl b=>
  cases rx;have e':k=b:=e;subst e';exact wpAny_truthy_bool ⟨H,I,q⟩
 |int i=>
  obtain⟨t,rfl⟩:=rx;have e':k=(i != 0):=e;subst e';exact PySem.P.truthy_int ⟨H,I,q⟩
 |str y=>
  obtain⟨t,rfl⟩:=rx;obtain⟨hy,e'⟩:y.length<=sizeLine/\k=((y.length:Int) != 0):=e;subst e';exact PySem.P.truthy_str (by omega) ⟨H,I.tok _,q⟩
 |byt y=>
  obtain⟨t,rfl⟩:=rx;obtain⟨hy,e'⟩:y.size<=sizeLine/\k=((y.size:Int) != 0):=e;subst e';exact PySem.W.truthy_bytes (by omega) ⟨H,I.tok _,q⟩
 |ref p=>
  cases rx;have e':(∃xs,SqL X.K H p xs/\k=!xs.isEmpty)∨(∃xs,SqT X.K H p xs/\k=!xs.isEmpty)∨∃kvs,H p=some (.dK kvs)/\k=!kvs.isEmpty:=e;rcases e' with ⟨xs,hx,e'⟩|⟨xs,hx,e'⟩|⟨kvs,hx,e'⟩
  ·subst e';obtain⟨its,r,pl,hz⟩:=I.list hx;have hlen:=r.length;exact wpAny_truthy_list pl.isList (by simp only[List.size_toArray];omega) ⟨H,I.tok _,by rw[Hr r];exact q⟩
  ·subst e';obtain⟨its,r,pl,hz⟩:=I.tuple hx;have hlen:=r.length;exact truthy_tuple pl (by simp only[List.size_toArray];omega) ⟨H,I.tok _,by rw[Hr r];exact q⟩
  ·subst e';obtain⟨hz,hS,vs,r,m⟩:kvs.length<=sizeLine/\(p==sysModules)=false/\∃vs,KV kvs vs/\s.heap.DictOf (Bl X.prog X.w) p vs:=I.hok p _ hx;have hlen:kvs.length=vs.length:=Paired.length r;exact wpAny_truthy_dict hS m (by omega) ⟨H,I.tok _,by rw[MQ r];exact q⟩
 |_=>exact(show False from e).elim
theorem QK(ha:PE X a ta)(he:∀whole,isTrue a X.env whole=(do let v ←whole;standAt a.pos;holding [v] (truthy v))):
  PT X a (λO H Q=>ta O H λx H'=>∃k,Yh X.K x H' k/\Q k H'):=by
 intro w4 s O H Q I h;exact isTrue_plain (thn (ha w4 s O H _ I h) λv s1 ⟨x,H1,I1,r1,q1⟩=>VL w4 s1 O H1 x v Q I1 r1 q1) (he _)
theorem MG:OpR X (binaryOp .Add) (λx y H Q=>∃i j,x=.str i/\y=.str j/\i.length+j.length<=sizeLine/\Q (.str (i++j)) H):=by
 intro w4 s O H x y v u Q I rx ry h;obtain⟨i,j,rfl,rfl,hz,q⟩:=h;obtain⟨t,rfl⟩:=rx;obtain⟨t',rfl⟩:=ry;exact add_str (λt' tk=>⟨.str (i++j),H,I.tok _,⟨_,rfl⟩,q⟩) hz
theorem Eb(r:Vals [x] us):∃u,us=[u]/\RelV x u:=by
 cases r with
 |cons r1 r2=>cases r2;exact⟨_,rfl,r1⟩
theorem W7(r:Vals [x,y] us):∃u w',us=[u,w']/\RelV x u/\RelV y w':=by
 cases r with
 |cons r1 r2=>
  cases r2 with
  |cons r3 r4=>cases r4;exact⟨_,_,rfl,r1,r3⟩
theorem Oz:CU X (.type "int") (λxs H Q=>(∃i,xs=[.int i]/\Q (.int i) H)∨∃k,xs=[.bl k]/\Q (.int (if k then 1 else 0)) H):=by
 intro w4 s O H xs us Q I r h;rcases h with ⟨i,rfl,q⟩|⟨k,rfl,q⟩
 ·obtain⟨u,rfl,t,rfl⟩:=Eb r;exact call_int_int ⟨.int i,H,I,⟨_,rfl⟩,q⟩
 ·obtain⟨u,rfl,r1⟩:=Eb r;cases r1;exact call_int_bool ⟨.int (if k then 1 else 0),H,I.tok _,⟨_,rfl⟩,q⟩
def ZY(K:PySem.W.Frag)(x:V)(H:Hp)(n:Nat):Prop:=
 match x with
 | .str y=>y.length<=sizeLine/\n=y.length
 | .byt y=>y.size<=sizeLine/\n=y.size
 | .ref p=>(∃xs,SqL K H p xs/\n=xs.length)∨∃xs,SqT K H p xs/\n=xs.length
 |_=>False
theorem R6:CU X (.builtin "len") (λxs H Q=>∃x n,xs=[x]/\ZY X.K x H n/\Q (.int n) H):=by
 intro w4 s O H xs us Q I r h;obtain⟨x,n,rfl,e,q⟩:=h;obtain⟨u,rfl,rx⟩:=Eb r;have hl:=FZ;have hs:sizeLine=16777216:=sizeLine_eq;cases x with
 |str y=>
  obtain⟨t,rfl⟩:=rx;obtain⟨hy,e'⟩:y.length<=sizeLine/\n=y.length:=e;subst e';exact len_str (by omega) ⟨.int _,H,I.tok _,⟨_,rfl⟩,q⟩
 |byt y=>
  obtain⟨t,rfl⟩:=rx;obtain⟨hy,e'⟩:y.size<=sizeLine/\n=y.size:=e;subst e';exact PySem.W.len_bytes (by omega) ⟨.int _,H,I.tok _,⟨_,rfl⟩,q⟩
 |ref p=>
  cases rx;have e':(∃xs,SqL X.K H p xs/\n=xs.length)∨∃xs,SqT X.K H p xs/\n=xs.length:=e;rcases e' with ⟨xs,hx,e'⟩|⟨xs,hx,e'⟩
  ·subst e';obtain⟨its,r',pl,hz⟩:=I.list hx;have hlen:=r'.length;exact Calls.call_len_list pl.isList (by simp only[List.size_toArray];omega) ⟨.int xs.length,H,I.tok _,⟨_,by simp only[List.size_toArray];rw[hlen]⟩,q⟩
  ·subst e';obtain⟨its,r',pl,hz⟩:=I.tuple hx;have hlen:=r'.length;exact len_tuple pl (by simp only[List.size_toArray];omega) ⟨.int xs.length,H,I.tok _,⟨_,by simp only[List.size_toArray];rw[hlen]⟩,q⟩
 |_=>exact(show False from e).elim
end
structure ObjM(h:Heap)(x dx C:Addr)(mA:Str->Option Value):Prop where
 obj:h.get? x=some (PySem.W.instObj C dx)
 ns:h.Ns1 dx mA
 ne:dx≠x
theorem Ob{h:Heap}{dx:Addr}{mA:Str->Option Value}(n:h.Ns1 dx mA):∃od,h.get? dx=some od/\∀name,PySem.W.lookIn name od=some (mA name):=by
 obtain⟨o,es,ep,ho,hd,hk,_,hm⟩:=n;refine⟨o,ho,λname=>?_⟩;have e:=hm name;unfold nsFind findBy at e;rw[←Array.find?_toList] at e;unfold PySem.W.lookIn;rw[hd];dsimp only;split
 ·rename_i y q;rw[q] at e;exact congrArg some e
 ·rename_i q;rw[q] at e;have a:es.toList.any (·.refKey)=false:=by
   rw[List.any_eq_false];intro y hy;obtain⟨z,t,hkey⟩:=hk y (Array.mem_toList_iff.mp hy);simp[DictEntry.refKey,hkey]
  have a':¬es.toList.any (·.refKey)=true:=by rw[a];exact AAh
  rw[if_neg a'];exact congrArg some e
theorem ObjM.look(I:ObjM h x dx C mA):∃od,PySem.W.InstAt h x (PySem.W.instObj C dx) C (some od)/\∀name,PySem.W.lookIn name od=some (mA name):=
 let ⟨od,ho,hl⟩:=Ob I.ns
 ⟨od,⟨I.obj,rfl,rfl,ho⟩,hl⟩
theorem RelO.some_of(r:RelO (some v) o):∃u,o=some u/\RelV v u:=by
 cases o with
 |none=>exact(show False from r).elim
 |some u=>exact⟨u,rfl,r⟩
section
variable{P:Program}{w:World}{H:Hp}{h:Heap}{a C dx:Addr}{fs:List (Str×V)}
theorem UA(hok:HOk P w H h)(e:H a=some (.ins C dx fs)):∃mA,ObjM h a dx C mA/\(∀f,RelO (fs.lookup f) (mA f))/\PySem.Within mA (fs.map (·.1))/\fs.length<=1000/\H dx=some (.own a):=by
 obtain⟨d,z,ne,ob,mA,n,r,q⟩:=(show ObjOk P w H h a (.ins C dx fs) from hok a _ e);exact⟨mA,⟨ob,n,ne⟩,r,q,z,d⟩
end
structure Cls(K:PySem.W.Frag)(C:Addr):Prop where
 pg:PySem.W.plainGet K C Str.empty=true
 hd:PySem.W.hasDictIn K C=true
 po:PySem.W.plainOver K C=true
 sa:PySem.W.findIn K (.ref C) "__setattr__" = some (some (.builtin "object.__setattr__"))
theorem Cls.get{K:PySem.W.Frag}{C:Addr}(c:Cls K C)(f:Str):PySem.W.plainGet K C f=true:=c.pg
section
variable{X:Cx}{w4:List (Addr×Obj)}{O:St}{H:Hp}{s:Shared}{A:Around}{E:Value->Shared->Prop}{Q:Value->Shared->Prop}{c:Value}{b:Bool}
inductive F7 (K:PySem.W.Frag) (H:Hp):V->Value->Prop where
 |non:F7 K H .non (.type "NoneType")
 |bl (x:Bool):F7 K H (.bl x) (.type "bool")
 |int (i:Int):F7 K H (.int i) (.type "int")
 |str (x:Str):F7 K H (.str x) (.type "str")
 |flt (x:UInt64):F7 K H (.flt x) (.type "float")
 |lst {a:Addr} {xs:List V} (e:H a=some (.lst xs)):F7 K H (.ref a) (.type "list")
 |frz {a:Addr} {o:Obj} {xs:List V} (e:H a=some (.frz o (.lst xs))):F7 K H (.ref a) (.type "list")
 |tup {a:Addr} {xs:List V} (e:H a=some (.tup xs)):F7 K H (.ref a) (.type "tuple")
 |dK {a:Addr} {kvs:List (Key×V)} (e:H a=some (.dK kvs)):F7 K H (.ref a) (.type "dict")
 |dT {a:Addr} {kvs:List (List Key×V)} (e:H a=some (.dT kvs)):F7 K H (.ref a) (.type "dict")
 |ins {a C dx:Addr} {fs:List (Str×V)} (e:H a=some (.ins C dx fs)) (cl:Cls K C) (ha:PySem.W.findIn K (.ref C) "__class__" = some (some (.builtin "object.__class__")))
   (hn:PySem.W.specialIn K (.builtin "object.__class__") "__get__" = some (some (.builtin "getset_descriptor.__get__"))) (htk:PySem.W.takesIn K (.builtin "object.__class__")=some true)
   (hm:PySem.W.mroIn K C (.type "object")=some true):F7 K H (.ref a) (.ref C)
theorem Og(I:Inv X w4 O H s)(rx:RelV x u)(ty:F7 X.K H x t)(e:PySem.W.kitOne X.K t c=some b)(h:∀tk,Q (.bool b) { s with toks:=tk }):
  wpAny (model X.prog X.w) A (call (.builtin "isinstance") [u,c]) Q E s:=by
 cases ty with
 |non=>cases (show u=Value.none from rx);exact PySem.W.kia_one PySem.W.kitx_none I.kIn True.intro e (λz=>nomatch z) h
 |bl y=>cases (show u=Value.bool y from rx);exact PySem.W.kia_one PySem.W.kitx_bool I.kIn True.intro e (λz=>nomatch z) h
 |int i=>obtain⟨t,q⟩:=(show ∃t,u=Value.int i t from rx);cases q;exact PySem.W.kia_one PySem.W.kitx_int I.kIn True.intro e (λz=>nomatch z) h
 |str y=>obtain⟨t,q⟩:=(show ∃t,u=Value.str y t from rx);cases q;exact PySem.W.kia_one PySem.W.kitx_str I.kIn True.intro e (λz=>nomatch z) h
 |flt y=>obtain⟨t,q⟩:=(show ∃t,u=Value.float y t from rx);cases q;exact PySem.W.kia_one PySem.W.kitx_float I.kIn True.intro e (λz=>nomatch z) h
 |@lst a xs ea=>
  cases (show u=Value.ref a from rx);obtain⟨_,_,n,_,h1⟩:=(show ObjOk X.prog X.w H s.heap a (.lst xs) from I.hok a _ ea);exact PySem.W.kia_one PySem.W.kitx_list I.kIn ⟨_,h1,rfl⟩ e (λz=>nomatch z) h
 |@frz a ob xs ea=>
  cases (show u=Value.ref a from rx);obtain⟨_,_,_,n,_,h1⟩:=(show ObjOk X.prog X.w H s.heap a (.frz ob (.lst xs)) from I.hok a _ ea);exact PySem.W.kia_one PySem.W.kitx_list I.kIn ⟨_,h1,rfl⟩ e (λz=>nomatch z) h
 |@tup a xs ea=>
  cases (show u=Value.ref a from rx);obtain⟨_,_,_,p⟩:=(show ObjOk X.prog X.w H s.heap a (.tup xs) from I.hok a _ ea);obtain⟨o,h1,h2,_⟩:=p;exact PySem.W.kia_one PySem.W.kitx_tuple I.kIn ⟨o,h1,h2⟩ e (λz=>nomatch z) h
 |@dK a kvs ea=>
  cases (show u=Value.ref a from rx);obtain⟨_,_,vs,_,p⟩:=(show ObjOk X.prog X.w H s.heap a (.dK kvs) from I.hok a _ ea);obtain⟨o,es,ep,h1,h2,_⟩:=p;exact PySem.W.kia_one PySem.W.kitx_dict I.kIn ⟨o,h1,h2.1⟩ e (λz=>nomatch z) h
 |@dT a kvs ea=>
  cases (show u=Value.ref a from rx);obtain⟨_,_,xs,_,o,es,ep,h1,h2,_⟩:=(show ObjOk X.prog X.w H s.heap a (.dT kvs) from I.hok a _ ea);exact PySem.W.kia_one PySem.W.kitx_dict I.kIn ⟨o,h1,h2.1⟩ e (λz=>nomatch z) h
 |@ins a C dx fs ea cl ha hn htk hm=>
  cases (show u=Value.ref a from rx);obtain⟨mA,O_,_⟩:=UA I.hok ea;obtain⟨od,J,_⟩:=O_.look;exact PySem.W.kia_one (PySem.W.kitx_own (cl.get _) cl.hd ha hn htk hm) I.kIn J e (λz=>nomatch z) h
end
structure Room(k:Nat)(A:Around):Prop where
 hd:A.handled=none
 dp:A.depth+3 * k+5<recursionLimit
 un:A.units+16 * k+200<cLine
theorem Room.mono(r:Room k A)(h:j<=k):Room j A:=⟨r.hd,by have:=r.dp;omega,by have:=r.un;omega⟩
theorem Room.deeper(r:Room (k+1) A)(env:Env):Room k (A.deeper env):=
 ⟨r.hd,by have:=r.dp;show A.depth+1+3 * k+5<_;omega,by have:=r.un;show A.units+3+16 * k+200<_;omega⟩
theorem Room.depth(r:Room k A):A.depth<recursionLimit:=by have:=r.dp;omega
theorem Room.units(r:Room k A):A.units+64<cLine:=by have:=r.un;omega
noncomputable def Ys:TA:=λ_ H Q=>Q [] H
noncomputable def XQ(ta:TE)(tr:TA):TA:=λO H Q=>ta O H λx H1=>tr O H1 λxs H2=>Q (x::xs) H2
section
variable{X:Cx}{e:Expr}{es:List Expr}{te:TE}{t:TA}{pos:Pos}
theorem MF:PA X [] Ys:=λ_ _ _ _ H Q I h=>Calls.spliced_nil ⟨[],H,I,.nil,h⟩
theorem Jy(ha:PE X e te)(hr:PA X es t)(hs:starEach (e::es) X.env=(false,eval e X.env)::starEach es X.env:=by rfl):PA X (e::es) (XQ te t):=by
 intro pos w4 s O H Q I h;rw[hs];show wpAny _ _ (spliced ((false,eval e X.env)::backTo pos (starEach es X.env))) _ _ s;refine Calls.spliced_cons (thn (ha w4 s O H _ I h) λu s1 ⟨x,H1,I1,r1,q1⟩=>?_);exact thn (hr pos w4 s1 O H1 _ I1 q1) λus s2 ⟨xs,H2,I2,r2,q2⟩=>⟨x::xs,H2,I2,.cons r1 r2,q2⟩
noncomputable def Yo(t:TA):TE:=λO H Q=>t O H λxs H1=>xs.length<=sizeLine/\∀p,H1 p=none->Q (.ref p) (upd H1 p (.tup xs))
noncomputable def Yt(t:TA):TE:=λO H Q=>t O H λxs H1=>xs.length<=sizeLine/\∀p,H1 p=none->Q (.ref p) (upd H1 p (.lst xs))
theorem Vs(h:PA X es t):PE X (.Tuple es x1 pos) (Yo t):=by
 intro w4 s O H Q I hq;refine wpAny_Tuple_spliced (thn (h pos w4 s O H _ I hq) λus s1 ⟨xs,H1,I1,r,z,q⟩=>⟨by rw[←r.length];exact z,?_⟩);have hf:H1 s1.heap.objs.size=none:=I1.hok.fresh (AAE _);refine⟨.ref s1.heap.objs.size,upd H1 s1.heap.objs.size (.tup xs),I1.laid (t':=s1.toks) (λb u e=>AAC _ e) (AAE _) ?_,rfl,q _ hf⟩;exact⟨z,us,r,⟨_,AAD _ rfl,rfl,_,rfl⟩⟩
theorem QZ(h:PA X es t):PE X (.List es pos) (Yt t):=by
 intro w4 s O H Q I hq;refine wpAny_List_spliced (thn (h pos w4 s O H _ I hq) λus s1 ⟨xs,H1,I1,r,z,q⟩=>⟨by rw[←r.length];exact z,?_⟩);have hf:H1 s1.heap.objs.size=none:=I1.hok.fresh (AAE _);refine⟨.ref s1.heap.objs.size,upd H1 s1.heap.objs.size (.lst xs),I1.laid (t':=s1.toks) (λb u e=>AAC _ e) (AAE _) ?_,rfl,q _ hf⟩;exact⟨z,us,0,r,AAD _ rfl⟩
end
noncomputable abbrev Sp:=List V->Hp->VK->XK->Prop
noncomputable abbrev CXT:=List Env->Hp->Shared->XK->Value->Shared->Prop
structure US(P:Program)(w:World)(K:PySem.W.Frag)(mg:Str->Option Value)(base:Heap)(A:Around)(outer:List Env)(s:Shared)(H:Hp):Prop where
 frames:A.frames=some outer
 mod:Mod K mg base
 bs:∀b o,base.get? b=some o->s.heap.get? b=some o/\H b=none
 bsz:base.objs.size<=s.heap.objs.size
 funs:s.heap.FunFrames base outer
 frf:∀b∈frs outer,H b=none
 hok:HOk P w H s.heap
 bare:AllBare s.gens
def CE(outer:List Env)(P:Program)(w:World)(H:Hp)(s:Shared)(Q:VK)(u:Value)(s':Shared):Prop:=
 ∃v H',s'.os=s.os/\AllBare s'.gens/\Un (frs outer) [] H H' s.heap s'.heap/\HOk P w H' s'.heap/\RelV v u/\Q v H'
def CR(CX:CXT)(outer:List Env)(P:Program)(w:World)(H:Hp)(s:Shared)(Q:VK)(E:XK)(r:Result)(s':Shared):Prop:=
 match r with
 | .ok (.ret u)=>CE outer P w H s Q u s'
 | .ok _=>False
 | .error e=>CX outer H s E e s'
structure FnOk(P:Program)(w:World)(K:PySem.W.Frag)(mg:Str->Option Value)(base:Heap)(CX:CXT)(k:Nat)(f:Addr)(fd:FuncData)(ps:List Str)(sp:Sp):Prop where
 len:∀vs H Q E,sp vs H Q E->vs.length=ps.length
 run:∀(A:Around) (outer:List Env) (s:Shared) (H:Hp) (args:Args) (us:List Value) (vs:List V) (Q:VK) (E:XK),Room k A->US P w K mg base A outer s H->BindsTo s fd args (ps.zip us)->Vals vs us->sp vs H Q E->
  codeAny (model P w) A (.call (.ref f) args) (CR CX outer P w H s Q E) s
theorem FnOk.mono{P:Program}{w:World}{K:PySem.W.Frag}{mg:Str->Option Value}{base:Heap}(F:FnOk P w K mg base CX j f fd ps sp)(h:j<=k):
  FnOk P w K mg base CX k f fd ps sp:=⟨F.len,λA outer s H args us vs Q E hr=>F.run A outer s H args us vs Q E (hr.mono h)⟩
theorem FnOk.imp{P:Program}{w:World}{K:PySem.W.Frag}{mg:Str->Option Value}{base:Heap}(F:FnOk P w K mg base CX k f fd ps sp)
  (h:∀vs H Q E,sp' vs H Q E->sp vs H Q E):FnOk P w K mg base CX k f fd ps sp':=
 ⟨λvs H Q E q=>F.len vs H Q E (h _ _ _ _ q),λA outer s H args us vs Q E hr he hb hv hs=>F.run A outer s H args us vs Q E hr he hb hv (h _ _ _ _ hs)⟩
section
variable{X:Cx}{w4:List (Addr×Obj)}{O:St}{H:Hp}{s s':Shared}
theorem Inv.env0(I:Inv X w4 O H s):US X.prog X.w X.K X.mg X.base X.A X.stack s H:=
 ⟨I.ok.frames,I.ok.mod,I.bs,AAs I.ok.bsz I.sz,I.stack,I.stkFree,I.hok,I.bare⟩
theorem Inv.after(I:Inv X w4 O H s)(h:CE X.stack X.prog X.w H s Q u s'):EP X w4 O Q u s':=by
 obtain⟨v,H',os,bare,un,hok,r,q⟩:=h;obtain⟨hh,g,d,t,os'⟩:=s';obtain rfl:os'=s.os:=os;exact⟨v,H',I.call (h':=hh) (g':=g) (d':=d) (t':=t) (ch:=[]) un hok bare (λb z=>absurd z (by simp)),r,q⟩
end
noncomputable def XR(sp:Sp)(dvs:List V)(E:XK)(t:TA):TE:=λO H Q=>t O H λvs H1=>sp (vs++dvs) H1 Q E
def Binds(K:PySem.W.Frag)(fd:FuncData)(ps:List Str)(ds:List Value):Prop:=
 ∀(s:Shared) (us:List Value),K.In s.heap->(us++ds).length=ps.length->BindsTo s fd ⟨us,[]⟩ (ps.zip (us++ds))
theorem Binds.all{K:PySem.W.Frag}(h:∀us:List Value,us.length=ps.length->bindArgs fd ⟨us,[]⟩=pure (ps.zip us)):Binds K fd ps []:=λs us _ hl=>by
 rw[AAa] at hl ⊢;exact .of_eq (h us hl)
def Mj(CX:CXT)(X:Cx)(E:XK):Prop:=∀(w4:List (Addr×Obj)) (O:St) (H:Hp) (s:Shared) (e:Value) (s':Shared),Inv X w4 O H s->CX X.stack H s E e s'->X.xe e s'
section
variable{X:Cx}{CX:CXT}{k:Nat}{f:Addr}{fd:FuncData}{ps:List Str}{sp:Sp}{dvs:List V}{ds:List Value}{E:XK}{x:Str}{p pos:Pos}{e:Expr}{es:List Expr}{t:TA}
theorem VZ(F:FnOk X.prog X.w X.K X.mg X.base CX k f fd ps sp)(hr:Room k X.A)(hb:Binds X.K fd ps ds)(hd:Vals dvs ds)(hx:Mj CX X E)
  (I:Inv X w4 O H s) (r:Vals vs us) (h:sp (vs++dvs) H Q E):wpAny (model X.prog X.w) X.A (call (.ref f) us) (EP X w4 O Q) X.xe s:=by
 have r2:Vals (vs++dvs) (us++ds):=r.append hd;have hl:(us++ds).length=ps.length:=by rw[←r2.length];exact F.len _ _ _ _ h
 refine wpAny_call (codeAny_mono (F.run X.A X.stack s H ⟨us,[]⟩ (us++ds) (vs++dvs) Q E hr I.env0 (hb s us I.kIn hl) r2 h) λr s' hq=>?_);cases r with
 |error e=>exact hx w4 O H s e s' I hq
 |ok fl=>
  cases fl with
  |ret u=>exact I.after hq
  |next=>exact False.elim hq
  |brk=>exact False.elim hq
  |cont=>exact False.elim hq
theorem Tj(F:FnOk X.prog X.w X.K X.mg X.base CX k f fd ps sp)(hr:Room k X.A)(hg:Gl X x)(hm:X.mg x=some (.ref f))(hk:PySem.W.keepIn X.K (.ref f)=true)(hb:Binds X.K fd ps ds)(hd:Vals dvs ds)(hx:Mj CX X E)
  (ha:PA X (e::es) t) (hdb:(x==("__debug__" : Str))=false:=by decide) (he:starEach (e::es) X.env=(false,eval e X.env)::starEach es X.env:=by rfl) (hpl:(backTo pos (starEach es X.env)).any (·.1)=false:=by rfl) :
  PE X (.Call (.Name x p) (e::es) [] pos) (XR sp dvs E t):=by
 intro w4 s O H Q I h;refine wpAny_Call_Name_kw (NZ I hg hm ?_ hdb);refine PySem.W.callWith_K (h₀:=X.base) I.ok.mod.kin hk (thn (ha pos w4 s O H _ I h) λus s1 ⟨vs,H1,I1,r,q⟩=>⟨I1.kIn,?_⟩) he hpl;exact VZ F hr hb hd hx I1 r q
end
structure Ac(N P:List Str)(sc:Scope):Prop where
 kind:sc.kind=.function
 co:sc.isCoroutine=false
 gen:sc.isGenerator=false
 nd:N.Nodup
 pre:N.take P.length=P
 par:∀x∈P,sc.names.lookup x=some .local∨sc.names.lookup x=some .cell
 nofree:∀y∈sc.names,y.2≠.free
theorem JT{kindOf:Str->Option NameKind}:∀{binds:List (Str×Value)} {m:Str->Option Value},(∀v,(x,v)∉binds)->bindL kindOf binds m x=m x
 |[],_,_=>rfl
 |(n,v)::r,m,h=>by
  unfold bindL;rw[JT λw hw=>h w (AAQ _ hw)];split
  ·have:x≠n:=by rintro rfl;exact h v AAP
   simp[this]
  ·rfl
theorem JV{kindOf:Str->Option NameKind}:∀{binds:List (Str×Value)} {m:Str->Option Value},(∀v,(x,v)∉binds)->bindC kindOf binds m x=m x
 |[],_,_=>rfl
 |(n,v)::r,m,h=>by
  unfold bindC;rw[JV λw hw=>h w (AAQ _ hw)];split
  ·rfl
  ·have:x≠n:=by rintro rfl;exact h v AAP
   simp[this]
theorem JU{kindOf:Str->Option NameKind}:∀{P:List Str} {vs:List Value} {i:Nat} {m:Str->Option Value},P.Nodup->P[i]?=some x->vs[i]?=some v->kindOf x=some .local->
  bindL kindOf (P.zip vs) m x=some v
 |[],_,_,_,_,h,_,_=>by simp at h
 |_::_,[],_,_,_,_,h,_=>by simp at h
 |p::P,w::vs,0,m,nd,h1,h2,hk=>by
  simp at h1 h2;subst h1;subst h2;show bindL kindOf ((p,w)::P.zip vs) m p=_;unfold bindL;rw[JT λv hv=>(List.nodup_cons.mp nd).1 (List.of_mem_zip hv).1,if_pos hk];simp
 |p::P,w::vs,i+1,m,nd,h1,h2,hk=>by
  show bindL kindOf ((p,w)::P.zip vs) m x=_;unfold bindL;exact JU (i:=i) (List.nodup_cons.mp nd).2 (by simpa using h1) (by simpa using h2) hk
theorem JW{kindOf:Str->Option NameKind}:∀{P:List Str} {vs:List Value} {i:Nat} {m:Str->Option Value},P.Nodup->P[i]?=some x->vs[i]?=some v->kindOf x≠some .local->
  bindC kindOf (P.zip vs) m x=some v
 |[],_,_,_,_,h,_,_=>by simp at h
 |_::_,[],_,_,_,_,h,_=>by simp at h
 |p::P,w::vs,0,m,nd,h1,h2,hk=>by
  simp at h1 h2;subst h1;subst h2;show bindC kindOf ((p,w)::P.zip vs) m p=_;unfold bindC;rw[JV λv hv=>(List.nodup_cons.mp nd).1 (List.of_mem_zip hv).1,if_neg hk];simp
 |p::P,w::vs,i+1,m,nd,h1,h2,hk=>by
  show bindC kindOf ((p,w)::P.zip vs) m x=_;unfold bindC;exact JW (i:=i) (List.nodup_cons.mp nd).2 (by simpa using h1) (by simpa using h2) hk
noncomputable def start(N:List Str)(vs:List V):St:=vs.map some++List.replicate (N.length-vs.length) none
noncomputable def GT(CX:CXT)(P:Program)(w:World)(K:PySem.W.Frag)(mg:Str->Option Value)(base:Heap)(N:List Str)(qual:Str)(scope:Scope)(f:Addr)(cd:Value)(A:Around)(outer:List Env)(s:Shared)(H:Hp)(E:XK):Cx where
 prog:=P
 w:=w
 K:=K
 mg:=mg
 base:=base
 A:=A.deeper (envOfC qual scope s.heap.objs.size f cd)
 N:=N
 s₀:=s
 H₀:=H
 env:=envOfC qual scope s.heap.objs.size f cd
 outer:=outer
 stack:=envOfC qual scope s.heap.objs.size f cd::outer
 ex:=[]
 calm:=true
 fn:=λ_=>true
 pn:=[]
 xe:=λe s'=>wpAny (model P w) (A.deeper (envOfC qual scope s.heap.objs.size f cd)) (leaving (envOfC qual scope s.heap.objs.size f cd) e) (λ_ s''=>CX outer H s E e s'') (λe' s''=>CX outer H s E e' s'') s'
theorem Ld{sc:Scope}(h:sc.names.lookup x=some .cell):∃c,(cellsFrom n sc.names []).lookup x=some c:=by
 have q:=PySem.W.cellsFrom_some sc.names n [] (.inl h);exact Option.isSome_iff_exists.mp q
theorem Oh{CX:CXT}{P:Program}{w:World}{K:PySem.W.Frag}{mg:Str->Option Value}{base:Heap}{N ps:List Str}{qual:Str}{scope:Scope}
  (S:Ac N ps scope) (hd:A.handled=none) (e0:US P w K mg base A outer s H) (hl:vs.length=ps.length) (r:Vals vs us)
  (x:InCallC s s.heap.objs.size (bindL (envOfC qual scope s.heap.objs.size f cd).kindOf (ps.zip us) λ_=>none) (cellsFrom (s.heap.objs.size+1) scope.names []) (bindC (envOfC qual scope s.heap.objs.size f cd).kindOf (ps.zip us) λ_=>none) s1) :
  Inv (GT CX P w K mg base N qual scope f cd A outer s H E) [] (start N vs) H s1:=by
 have hpl:ps.length<=N.length:=by have:=congrArg List.length S.pre;rw[List.length_take] at this;omega
 obtain⟨h1,tk,rfl,hk⟩:=x.done;have noA:∀b:Addr,b∉(GT CX P w K mg base N qual scope f cd A outer s H E).ex:=λb z=>absurd (show b∈([]:List Addr) from z) (by simp);refine⟨⟨e0.mod,S.kind,rfl,rfl,AAE _,λy z c h1 h2=>?_,λy hy=>?_,λy c _ h=>?_,λ_=>hd,Around.frames_deeper e0.frames,.inr ⟨rfl,rfl⟩,λb z=>absurd z (noA b),e0.bs,e0.bsz,λb _ _=>noA b,λb z=>absurd z (noA b),e0.funs,e0.frf⟩,
  rfl,e0.bare,Un.kept hk,⟨_,x.toInCall.ns,λi y v h1 h2 h3=>?_⟩,λy c h=>⟨_,x.cell y c h⟩,e0.hok.fresh (AAE _),λy c h=>?_,λp hp=>absurd (show p∈([]:List (Addr×Obj)) from hp) (by simp),e0.hok.kept hk,?_⟩
 ·exact name_of_addr x.apart (PySem.mem_of_lookup h1) (PySem.mem_of_lookup h2)
 ·have hy:scope.names.lookup y=some .cell∨scope.names.lookup y=some .free:=hy;rcases hy with hy|hy
  ·exact Ld hy
  ·exact absurd rfl (S.nofree _ (PySem.mem_of_lookup hy))
 ·exact Nat.le_of_lt (x.above y c (PySem.mem_of_lookup h))
 ·have hi:i<vs.length:=by
   unfold start at h2;by_cases hi:i<vs.length
   ·exact hi
   ·rw[AAR (by simpa using hi)] at h2;rw[List.getElem?_replicate] at h2;split at h2<;>cases h2
  have ha:vs[i]?=some v:=by
   unfold start at h2;rw[AAS (by simpa using hi),AAV] at h2;cases e:vs[i]? with
   |none=>rw[e] at h2;cases h2
   |some a=>rw[e] at h2;cases h2;rfl
  obtain⟨u,hu,rv⟩:=r.get ha;have hp:ps[i]?=some y:=by
   rw[←S.pre,List.getElem?_take_of_lt (by omega)];exact h1
  have ndP:ps.Nodup:=by rw[←S.pre];exact S.nd.sublist (List.take_sublist _ _)
  refine⟨u,rv,?_⟩;rcases S.par y (AAU hp) with k|k
  ·exact .inl ⟨k,JU ndP hp hu k⟩
  ·obtain⟨c,e⟩:=Ld (n:=s.heap.objs.size+1) k;refine .inr ⟨.inl k,c,e,?_⟩;have q:=x.cell y c e;rw[JW ndP hp hu (by show scope.names.lookup y≠_;rw[k];decide)] at q;exact q
 ·exact e0.hok.fresh (Nat.le_of_lt (x.above y c (PySem.mem_of_lookup h)))
 ·unfold start;show _=N.length;rw[AAG,AAF,AAn];omega
theorem YL{CX:CXT}{P:Program}{w:World}{K:PySem.W.Frag}{mg:Str->Option Value}{base:Heap}{k:Nat}{f:Addr}{name qual:Str}{params:Arguments}{body:List Stmt}{scope:Scope}{dV kV doc pm cdv ct oc:Value}{an od:Option Addr}
  {osl:Array (Option Value)} {N ps:List Str} {sp:Sp} (lk:K.lookup f=some ⟨oc,od,.func (PySem.W.fnOf name qual params body scope dV kV doc pm an cdv ct),osl⟩) (hcd:PySem.W.codeIn K cdv qual=true) (S:Ac N ps scope)
  (len:∀vs H Q E,sp vs H Q E->vs.length=ps.length)
  (hbody:∀(A:Around) (outer:List Env) (s:Shared) (H:Hp) (vs:List V) (Q:VK) (E:XK),Room k (A.deeper (envOfC qual scope s.heap.objs.size f cdv))->sp vs H Q E->
   ∃t,PSs (GT CX P w K mg base N qual scope f cdv A outer s H E) body t/\t { nx:=λ_ H'=>Q .non H',rt:=Q } (start N vs) H) :
  FnOk P w K mg base CX (k+1) f (PySem.W.fnOf name qual params body scope dV kV doc pm an cdv ct) ps sp:=by
 refine⟨len,λA outer s H args us vs Q E hr e0 hb r hsp=>?_⟩;have hl:=len _ _ _ _ hsp;have KX:K.In s.heap:=e0.mod.kin.keeps λb o e=>(e0.bs b o e).1;have lim:s.heap.NoLimit:=e0.mod.nolimit.keeps λb o e=>(e0.bs b o e).1;have hkind:∀y∈ps.zip us,scope.names.lookup y.1=some .local∨(scope.names.lookup y.1=some .cell/\((cellsFrom (s.heap.objs.size+1) scope.names []).lookup y.1).isSome=true):=λ⟨n,v⟩ hy=>by
  rcases S.par n (List.of_mem_zip hy).1 with q|q
  ·exact .inl q
  ·exact .inr ⟨q,PySem.W.cellsFrom_some _ _ _ (.inl q)⟩
 refine codeAny_call_function hr.depth (KX _ _ lk) rfl S.co S.gen rfl (PySem.W.codeRec_of KX hcd) (hb _ _ _ _ ?_);refine wpAny_newFunctionEnv_cells S.kind hkind λenv he s1 x=>?_;subst he;refine⟨lim.keeps x.toInCall.keep,codeAny_func ?_⟩;obtain⟨t,ht,hq⟩:=hbody A outer s H vs Q E (hr.deeper _) hsp;have I:Inv (GT CX P w K mg base N qual scope f cdv A outer s H E) [] (start N vs) H s1:=Oh S hr.hd e0 hl r x;refine AAj (ht [] s1 (start N vs) H _ I hq) (λfl s' hs=>?_) λe s' hs=>hs;have fin:∀{O':St} {H':Hp} {v:V} {u:Value},Inv (GT CX P w K mg base N qual scope f cdv A outer s H E) [] O' H' s'->RelV v u->Q v H'->CE outer P w H s Q u s':=
  λ{O' H' v u} J rv q=>⟨v,H',J.os,J.bare,J.base,J.hok,rv,q⟩
 cases fl with
 |ret u=>
  obtain⟨v,O',H',J,rv,q⟩:=hs;exact fin J rv q
 |next=>
  obtain⟨O',H',J,q⟩:=hs;exact fin (v:=V.non) (u:=Value.none) J rfl q
 |brk=>
  obtain⟨_,_,_,q⟩:=hs;exact False.elim q
 |cont=>
  obtain⟨_,_,_,q⟩:=hs;exact False.elim q
section
variable{X:Cx}{x:Str}{p pos:Pos}{e:Expr}{es:List Expr}{t:TA}{id T:String}{r:List V->Hp->VK->Prop}
noncomputable def tCB(r:List V->Hp->VK->Prop)(t:TA):TE:=λO H Q=>t O H λvs H1=>r vs H1 Q
theorem Qh(hc:CU X (.builtin id) r)(hg:Gl X x)(hm:X.mg x=none)(hv:bootBuiltins x=some (.builtin id))(ha:PA X (e::es) t)(hn:x ≠ "__name__" := by decide)(hdb:(x==("__debug__" : Str))=false:=by decide)
  (he:starEach (e::es) X.env=(false,eval e X.env)::starEach es X.env:=by rfl) (hpl:(backTo pos (starEach es X.env)).any (·.1)=false:=by rfl):PE X (.Call (.Name x p) (e::es) [] pos) (tCB r t):=by
 intro w4 s O H Q I h;refine wpAny_Call_Name_kw (GI I hg hm hv ?_ hn hdb);exact PyProof.Rows.callWith_builtin1 (thn (ha pos w4 s O H _ I h) λus s1 ⟨vs,H1,I1,r1,q1⟩=>hc w4 s1 O H1 vs us Q I1 r1 q1) he hpl
theorem GF(hc:CU X (.type T) r)(hg:Gl X x)(hm:X.mg x=none)(hv:bootBuiltins x=some (.type T))(ha:PA X (e::es) t)(hn:x ≠ "__name__" := by decide)(hdb:(x==("__debug__" : Str))=false:=by decide)
  (he:starEach (e::es) X.env=(false,eval e X.env)::starEach es X.env:=by rfl) (hpl:(backTo pos (starEach es X.env)).any (·.1)=false:=by rfl):PE X (.Call (.Name x p) (e::es) [] pos) (tCB r t):=by
 intro w4 s O H Q I h;refine wpAny_Call_Name_kw (GI I hg hm hv ?_ hn hdb);exact PyProof.Rows.callWith_type1 (thn (ha pos w4 s O H _ I h) λus s1 ⟨vs,H1,I1,r1,q1⟩=>hc w4 s1 O H1 vs us Q I1 r1 q1) he hpl
end
end L2
namespace HT
open PySem PyProof.Rows
noncomputable def Cm:List Int->List Int->Bool
 |[],[]=>false
 |[],_::_=>true
 |_::_,[]=>false
 |x::xs,y::ys=>if x=y then Cm xs ys else decide (x<y)
theorem Br(x y:Int)(xs ys:List Int):Cm (x::xs) (y::ys)=if x=y then Cm xs ys else decide (x<y):=rfl
theorem IZ:Cm [] []=false:=rfl
theorem Hi(y:Int)(ys:List Int):Cm [] (y::ys)=true:=rfl
theorem Hj(x:Int)(xs:List Int):Cm (x::xs) []=false:=rfl
theorem Rg(A:Around)(s:Shared)(a:Int)(t:Tok)(c:Int)(u:Tok):∃e,SeqAt.EqAt A s (.int a t) (.int c u) e/\(e=true↔a=c):=
 ⟨(a==c),SeqAt.EqAt.int_int a t c u,by simp⟩
theorem QC(A:Around)(s:Shared)(a:Int)(t:Tok)(c:Int)(u:Tok)(prog:Program)(w:World)(E:Value->Shared->Prop)(Q:Value->Shared->Prop)(h:Q (.bool (decide (a<c))) s):
  wpAny (model prog w) A (richCompare .Lt (.int a t) (.int c u)) Q E s:=
 (PyProof.Rows.lt_int h:wpAny (model prog w) A (compareOp .Lt (.int a t) (.int c u)) Q E s)
section
open PySem.SeqAt
open PySem.AutoSeq1 (wpAny_loadPart')
open PySem.MeetsSeq PySem.MeetsSeq2 PySem.MeetsSeq3
theorem IU(l b:Addr)(items items2:Array Value)(n n2:Nat)(dd dd2:Option Addr)(sl sl2:Array (Option Value))(ns ms:List Int)(hi:IntsAre items.toList ns)(hj:IntsAre items2.toList ms):
  Meets (Builtin.«tuple.__lt__» ⟨[.ref l,.ref b],[]⟩)
   (λ_ R s=>s.heap.get? l=some { cls:=.type "tuple",dict:=dd,data:=.seq items n,slots:=sl }/\s.heap.get? b=some { cls:=.type "tuple",dict:=dd2,data:=.seq items2 n2,slots:=sl2 } /\
    R (.ok (.ret (.bool (Cm ns ms)))) s):=
 .of_wp λprog w A R s h=>by
  obtain⟨hp,g,d,tk,os⟩:=s;obtain⟨hl,hb,h⟩:=h;have f2:=AutoSeq1.sub_tuple_tuple;have z1:items.size=ns.length:=by rw[←hi.length];simp
  have z2:items2.size=ms.length:=by rw[←hj.length];simp
  wp_walk using wpAny_loadPart' hl,wpAny_loadPart' hb,wpAny_forIn_list _ (λrest b s'=>b.1=none/\s'=⟨hp,g,d,tk,os⟩/\∃(vs ws:List Value) (ns' ms':List Int),rest=vs.zip ws /\
   IntsAre vs ns'/\IntsAre ws ms'/\ns'.length+items2.size=ms'.length+items.size/\R (.ok (.ret (.bool (Cm ns' ms')))) ⟨hp,g,d,tk,os⟩) _
  case turn=>
   rintro⟨y,x⟩ rest b s' ⟨hb',rfl,vs,ws,ns',ms',hz,hvi,hwi,hlen,hR⟩;cases hvi with
   |nil=>rw[List.zip_nil_left] at hz;cases hz
   |cons a t hvi'=>
    cases hwi with
    |nil=>rw[List.zip_nil_right] at hz;cases hz
    |cons c u hwi'=>
     rw[List.zip_cons_cons] at hz;injection hz with hyx hrest
     injection hyx with hy hx
     subst hy hx;rw[Br] at hR;simp only[AAH] at hlen;obtain⟨e,he,hiff⟩:=Rg A.in1 ⟨hp,g,d,tk,os⟩ a t c u;refine AAA (he prog w _ _ ?_);cases e with
     |true=>
      rw[if_pos (hiff.mp rfl)] at hR
      wp_walk
      exact⟨rfl,rfl,_,_,_,_,hrest,hvi',hwi',by omega,hR⟩
     |false=>
      rw[if_neg (λq=>absurd (hiff.mpr q) AAh)] at hR;have hri:=QC A.in1 ⟨hp,g,d,tk,os⟩ a t c u prog w
      wp_walk using hri
      exact⟨_,rfl,by simpa using hR⟩
  case fin=>
   rintro⟨b1,b2⟩ s' ⟨hb',rfl,vs,ws,ns',ms',hz,hvi,hwi,hlen,hR⟩;simp only at hb';subst hb';have hv:Cm ns' ms'=decide (items.size<items2.size):=by
    cases hvi with
    |nil=>
     cases hwi with
     |nil=>
      simp only[List.length_nil] at hlen;rw[IZ];exact(AAN (by omega)).symm
     |cons c u hw=>
      simp only[List.length_nil,AAH] at hlen;rw[Hi];exact(AAO (by omega)).symm
    |cons a t hv=>
     cases hwi with
     |nil=>
      simp only[List.length_nil,AAH] at hlen;rw[Hj];exact(AAN (by omega)).symm
     |cons c u hw=>
      rw[List.zip_cons_cons] at hz;cases hz
   rw[hv] at hR
   wp_walk
   exact⟨_,rfl,by simpa[Builtin.Tuple.tupleCompareSizes] using hR⟩
  case h=>
   exact⟨rfl,rfl,items.toList,items2.toList,ns,ms,rfl,hi,hj,by omega,h⟩
end
section
variable{prog:Program}{w:World}{A:Around}{E:Value->Shared->Prop}{s:Shared}
theorem MJ(hl:IsTup s.heap l items)(hb:IsTup s.heap b items2)(hi:IntsAre items.toList ns)(hj:IntsAre items2.toList ms)
  (hu:A.units<cLine) (h:Q (.bool (Cm ns ms)) s):wpAny (model prog w) A (compareOp .Lt (.ref l) (.ref b)) Q E s:=by
 obtain⟨⟨cls,dd,data,sl⟩,ho,hc,n,hd⟩:=id hl;obtain⟨⟨cls2,dd2,data2,sl2⟩,ho2,hc2,n2,hd2⟩:=id hb;simp only at hc hd hc2 hd2;subst hc hd hc2 hd2;exact richCompare_meets_room (op:=.Lt) ⟨_,ho,rfl⟩ ⟨_,ho2,rfl⟩ PySem.F.slot_tuple_lt PySem.F.entry_tuple_lt (PySem.F.args_tuple_lt_2 _ _) (IU l b items items2 n n2 dd dd2 sl sl2 ns ms hi hj)
  ⟨ho,ho2,show Value.bool (Cm ns ms)≠Value.notImplemented/\Q (.bool (Cm ns ms)) s from ⟨(λx=>nomatch x),h⟩⟩ hu
theorem UK(ht:IsTup s.heap t vs.toArray)(hb:IsTup s.heap b ws.toArray)(hv:vs≠[])
  (h1:ws=[]->Q (.ref t) s) (h2:ws≠[]->Q (.ref s.heap.objs.size) { s with heap:=s.heap.push { cls:=.type "tuple",data:=.seq (vs++ws).toArray } })
  (hsz:vs.length+ws.length<=sizeLine):wpAny (model prog w) A (binaryOp .Add (.ref t) (.ref b)) Q E s:=by
 obtain⟨⟨cls,dd,data,sl⟩,ho,hc,n,hd⟩:=id ht;obtain⟨⟨cls2,dd2,data2,sl2⟩,ho2,hc2,n2,hd2⟩:=id hb;simp only at hc hd hc2 hd2;subst hc hd hc2 hd2;have e:vs.toArray++ws.toArray=(vs++ws).toArray:=by simp
 by_cases hw:ws=[]
 ·exact concat_meets ⟨_,ho,rfl⟩ ⟨_,ho2,rfl⟩ noFill_tuple_add seq_tuple_add PySem.F.slot_tuple_add PySem.F.entry_tuple_add (PySem.F.args_tuple_add_2 _ _)
   (tuple_addW1 t b vs.toArray ws.toArray n n2 dd dd2 sl sl2 (by simpa using hv) (by simp[hw])) ⟨ho,ho2,h1 hw⟩
 ·refine concat_meets ⟨_,ho,rfl⟩ ⟨_,ho2,rfl⟩ noFill_tuple_add seq_tuple_add PySem.F.slot_tuple_add PySem.F.entry_tuple_add (PySem.F.args_tuple_add_2 _ _)
   (tuple_addW2 t b vs.toArray ws.toArray n n2 dd dd2 sl sl2 (by simpa using hv) (by simpa using hw) (by rw[List.size_toArray,List.size_toArray];exact hsz)) ⟨ho,ho2,?_⟩
  rw[e];exact h2 hw
noncomputable def sIx(n d:Nat):Option Int->Nat
 |none=>d
 |some v=>if v<0 then (v+(n:Int)).toNat else min v.toNat n
theorem Kx(n d:Nat):sIx n d none=d:=rfl
theorem Gx(n d k:Nat):sIx n d (some (k:Int))=min k n:=by
 show (if (k:Int)<0 then ((k:Int)+(n:Int)).toNat else min (k:Int).toNat n)=min k n;rw[if_neg (by omega),Int.toNat_natCast]
theorem VY(n d:Nat)(hd:d<=n)(o:Option Int):sIx n d o<=n:=by
 cases o with
 |none=>exact hd
 |some v=>
  show (if v<0 then (v+(n:Int)).toNat else min v.toNat n)<=n;by_cases hv:v<0
  ·rw[if_pos hv];omega
  ·rw[if_neg hv];exact Nat.min_le_right _ _
theorem Nz(v:Int)(n d:Nat):(if v<0 then max (v+(n:Int)) 0 else min v (n:Int))=((sIx n d (some v):Nat):Int):=by
 show (if v<0 then max (v+(n:Int)) 0 else min v (n:Int))=(((if v<0 then (v+(n:Int)).toNat else min v.toNat n):Nat):Int);by_cases hv:v<0
 ·simp only[if_pos hv];omega
 ·simp only[if_neg hv];omega
theorem Mg(lo hi:Option Int)(n:Nat):Builtin.Slice.sliceAdjust lo hi 1 (n:Int)=(((sIx n 0 lo:Nat):Int),((sIx n n hi:Nat):Int)):=by
 have h1:¬((1:Int)<0):=by omega
 unfold Builtin.Slice.sliceAdjust;simp only[h1,if_false];refine Prod.ext ?_ ?_
 ·cases lo with
  |none=>rfl
  |some v=>exact Nz v n 0
 ·cases hi with
  |none=>rfl
  |some v=>exact Nz v n n
theorem ME(i j:Nat):Builtin.Slice.slicePlaces (i:Int) (j:Int) 1=j-i:=by
 unfold Builtin.Slice.slicePlaces;have h1:(1:Int) > 0:=by omega
 simp only[h1,if_true,Int.ediv_one];split<;>omega
theorem HR(p:IsPart v o)(h:Q o s):wpAny (model prog w) A (Builtin.Slice.slicePartIndex v) Q E s:=by
 cases p with
 |none=>exact slicePart_none h
 |int i t=>exact slicePart_int h
theorem Dy{sl:Addr}{vl vu:Value}{lo hi:Option Int}{n:Nat}{Q:Int×Int×Nat->Shared->Prop}(hs:s.heap.IsSliceOf sl vl vu .none)(pl:IsPart vl lo)(pu:IsPart vu hi)
  (h:Q (((sIx n 0 lo:Nat):Int),1,sIx n n hi-sIx n 0 lo) s):wpAny (model prog w) A (Builtin.Slice.sliceApplied (.ref sl) (pure (n:Int))) Q E s:=by
 obtain⟨os,hos,hcs,hds⟩:=id hs;unfold Builtin.Slice.sliceApplied Builtin.Slice.sliceFields;refine AAA (AAA (wpAny_field hos hds (x:=vl) rfl (AAA (wpAny_field hos hds (x:=vu) rfl (AAA (wpAny_field hos hds (x:=.none) rfl (AAB ?_)))))));refine AAA (slicePart_none ?_);show wpAny _ _ (if ((1:Int)==0)=true then _ else _) _ _ s;rw[if_neg (by decide)];refine AAA (HR pl (AAA (HR pu (AAA (AAB ?_)))));show wpAny _ _ (match Builtin.Slice.sliceAdjust lo hi 1 (n:Int) with|(lo,hi)=>pure (lo,(1:Int),Builtin.Slice.slicePlaces lo hi 1)) _ _ s;rw[Mg lo hi n];show wpAny _ _ (pure (((sIx n 0 lo:Nat):Int),(1:Int),Builtin.Slice.slicePlaces ((sIx n 0 lo:Nat):Int) ((sIx n n hi:Nat):Int) 1)) _ _ s;rw[ME];exact AAB h
theorem QU(xs:Array Value)(i k:Nat):((List.range k).filterMap λ(m:Nat)=>xs[((i:Int)+(m:Int) * 1).toNat]?).toArray=((xs.toList.drop i).take k).toArray:=by
 have e:(λ(m:Nat)=>xs[((i:Int)+(m:Int) * 1).toNat]?)=λm=>xs[i+m]?:=by
  funext m
  have:((i:Int)+(m:Int) * 1).toNat=i+m:=by omega
  rw[this]
 rw[e];have:=pick_run xs i k;rw[List.filterMap_map] at this;have e2:((λx=>xs[x]?) ∘ λx=>i+x)=λm=>xs[i+m]?:=rfl;rw[e2] at this;rw[this]
theorem Fw{t sl:Addr}{items:Array Value}{vl vu:Value}{lo hi:Option Int}{Q:Value->Shared->Prop}(ht:IsTup s.heap t items)(hs:s.heap.IsSliceOf sl vl vu .none)(pl:IsPart vl lo)(pu:IsPart vu hi)
  (hw:¬(sIx items.size 0 lo=0/\sIx items.size items.size hi=items.size))
  (h:Q (.ref s.heap.objs.size) { s with heap:=s.heap.push { cls:=.type "tuple",data:=.seq ((items.toList.drop (sIx items.size 0 lo)).take (sIx items.size items.size hi-sIx items.size 0 lo)).toArray } })
  (hsz:items.size<=sizeLine):wpAny (model prog w) A (getItem (.ref t) (.ref sl)) Q E s:=by
 have htake:sizeOk (.seq ((items.toList.drop (sIx items.size 0 lo)).take (sIx items.size items.size hi-sIx items.size 0 lo)).toArray):=by
  show ((items.toList.drop (sIx items.size 0 lo)).take (sIx items.size items.size hi-sIx items.size 0 lo)).toArray.size<=sizeLine;rw[List.size_toArray,List.length_take,List.length_drop,Array.length_toList];omega
 have hj:sIx items.size items.size hi<=items.size:=VY _ _ (AAE _) hi;obtain⟨os,hos,hcs,hds⟩:=id hs;have hTs:s.TypeIs (.ref sl) "slice" := ⟨os,hos,hcs⟩;unfold getItem
 try with_reducible refine AAp ?_
 first|refine AAA (AAB ?_)|skip
 refine AAA (wpAny_sequenceKey ht.typeIs (by decide) ?_);refine AAA (wpAny_callSpecial?_slot (name:=Str.ofString "__getitem__") ht.typeIs PyProof.Rows.slot_tuple_getitem
  (AAd PyProof.Rows.slot_tuple_getitem ht.typeIs entry_tuple_getitem ?_ (args_tuple_getitem _ _)))
 show wpAny _ _ (Builtin.Tuple.tupleItemsOf (.ref t) >>= _) _ _ s;refine AAA (tupleItemsOf_ ht ?_);refine AAA (wpAny_typeOf hTs ?_);rw[if_pos (by decide)];refine AAA (Dy hs pl pu ?_);have hno:¬((((sIx items.size 0 lo:Nat):Int)==0&&(1:Int)==1&&(sIx items.size items.size hi-sIx items.size 0 lo)==items.size)=true):=by
  intro q;rw[Bool.and_eq_true,Bool.and_eq_true] at q;have q1:((sIx items.size 0 lo:Nat):Int)=0:=eq_of_beq q.1.1;have q2:sIx items.size items.size hi-sIx items.size 0 lo=items.size:=eq_of_beq q.2;exact hw ⟨by omega,by omega⟩
 show wpAny _ _ (if (((sIx items.size 0 lo:Nat):Int)==0&&(1:Int)==1&&(sIx items.size items.size hi-sIx items.size 0 lo)==items.size)=true then _ else _) _ _ s;rw[if_neg hno,QU]
 first
  |exact AAA (m:=Builtin.Tuple.tupleExact _) (AAq (AAB ⟨_,rfl,AAB h⟩) htake)
  |exact AAA (m:=Builtin.Tuple.tupleExact _) (AAq (AAA (AAB (AAB ⟨_,rfl,AAB h⟩))) htake)
  |exact AAA (AAA (m:=Builtin.Tuple.tupleExact _) (AAq (AAB (AAB ⟨_,rfl,AAB h⟩)) htake))
  |exact AAA (AAA (m:=Builtin.Tuple.tupleExact _) (AAq (AAB ⟨_,rfl,AAB h⟩) htake))
end
end HT
namespace L2
open PySem PySem.Spec PyProof.Rows
noncomputable abbrev TO:=St->Hp->(Option Int->Hp->Prop)->Prop
def PO(X:Cx)(e:Option Expr)(t:TO):Prop:=
 ∀(w4:List (Addr×Obj)) (s:Shared) (O:St) (H:Hp) (Q:Option Int->Hp->Prop),Inv X w4 O H s->t O H Q->
  wpAny (model X.prog X.w) X.A (evalPart e X.env) (λu s'=>∃o H',Inv X w4 O H' s'/\IsPart u o/\Q o H') X.xe s
noncomputable def S5:TO:=λ_ H Q=>Q none H
noncomputable def XF(t:TE):TO:=λO H Q=>t O H λx H1=>∃i,x=.int i/\Q (some i) H1
section
variable{X:Cx}{e:Expr}{te:TE}{lo hi:Option Expr}{tl th:TO}{pos p2:Pos}
theorem Te:PO X none S5:=by
 intro w4 s O H Q I h;rw[evalPart_none];exact AAB ⟨none,H,I,.none,h⟩
theorem Td(h:PE X e te):PO X (some e) (XF te):=by
 intro w4 s O H Q I hw;rw[evalPart_some];refine thn (h w4 s O H _ I hw) λu s1 ⟨x,H1,I1,r1,q1⟩=>?_;obtain⟨i,rfl,q⟩:=q1;obtain⟨t,rfl⟩:=r1;exact⟨some i,H1,I1,.int i t,q⟩
def SlR(X:Cx)(r:V->Option Int->Option Int->Hp->VK->Prop):Prop:=
 ∀(w4:List (Addr×Obj)) (s:Shared) (O:St) (H:Hp) (x:V) (v vl vu:Value) (lo hi:Option Int) (sl:Addr) (Q:VK),Inv X w4 O H s->RelV x v->s.heap.IsSliceOf sl vl vu .none->IsPart vl lo->IsPart vu hi->r x lo hi H Q->
  ∃T id,typeLookup (.type T) "__getitem__" = pure (some (.builtin id))/\s.TypeIs v T/\wpAny (model X.prog X.w) X.A (getItem v (.ref sl)) (EP X w4 O Q) X.xe s
theorem SlR.or(h:SlR X r)(h':SlR X r'):SlR X (λx lo hi H Q=>r x lo hi H Q∨r' x lo hi H Q):=by
 intro w4 s O H x v vl vu lo hi sl Q I rx hs pl pu q;rcases q with q|q
 ·exact h w4 s O H x v vl vu lo hi sl Q I rx hs pl pu q
 ·exact h' w4 s O H x v vl vu lo hi sl Q I rx hs pl pu q
noncomputable def tSl(r:V->Option Int->Option Int->Hp->VK->Prop)(te:TE)(tl th:TO):TE:=λO H Q=>te O H λx H1=>tl O H1 λl H2=>th O H2 λu H3=>r x l u H3 Q
theorem QY(hr:SlR X r)(he:PE X e te)(hl:PO X lo tl)(hu:PO X hi th):PE X (.Subscript e (.Slice lo hi none p2) pos) (tSl r te tl th):=by
 intro w4 s O H Q I h;refine Subscript_ (thn (he w4 s O H _ I h) λv s1 ⟨x,H1,I1,r1,q1⟩=>?_);refine wpAny_Slice (thn (hl w4 s1 O H1 _ I1 q1) λvl s2 ⟨l,H2,I2,pl,q2⟩=>thn (hu w4 s2 O H2 _ I2 q2) λvu s3 ⟨u,H3,I3,pu,q3⟩=>?_);rw[evalPart_none];refine AAB ?_;have I4:Inv X w4 O H3 { s3 with heap:=s3.heap.push { cls:=.type "slice",data:=.fields #[vl,vu,.none] } }:=I3.kept (t':=s3.toks) λb ob q=>AAC _ q;obtain⟨T,id,hT,ht,hg⟩:=hr w4 { s3 with heap:=s3.heap.push { cls:=.type "slice",data:=.fields #[vl,vu,.none] } } O H3 x v vl vu l u s3.heap.objs.size Q I4 r1 (Heap.IsSliceOf.new ..) pl pu q3;show wpAny (model X.prog X.w) X.A (subscriptTail e (.Slice lo hi none p2) v (.ref s3.heap.objs.size)) (EP X w4 O Q) X.xe { s3 with heap:=s3.heap.push { cls:=.type "slice",data:=.fields #[vl,vu,.none] } };exact tail_any (ops:=[.ref s3.heap.objs.size,v]) ht hT hg (by with_unfolding_all rfl)
noncomputable def Lb(xs:List V)(lo hi:Option Int):List V:=(xs.drop (HT.sIx xs.length 0 lo)).take (HT.sIx xs.length xs.length hi-HT.sIx xs.length 0 lo)
theorem Gj(xs:List V)(lo hi:Option Int):(Lb xs lo hi).length<=xs.length:=by
 unfold Lb;rw[List.length_take,List.length_drop];omega
noncomputable def Y0(K:PySem.W.Frag):V->Option Int->Option Int->Hp->VK->Prop:=λx lo hi H Q=>∃a xs,x=.ref a/\SqT K H a xs /\
 ¬(HT.sIx xs.length 0 lo=0/\HT.sIx xs.length xs.length hi=xs.length)/\∀p,H p=none->Q (.ref p) (upd H p (.tup (Lb xs lo hi)))
theorem VX:SlR X (Y0 X.K):=by
 intro w4 s O H x v vl vu lo hi sl Q I rx hs pl pu h;obtain⟨a,xs,rfl,hx,hw,q⟩:=h;cases rx;obtain⟨its,r,ht,hz⟩:=I.tuple hx;have hlen:its.toArray.size=xs.length:=by rw[List.size_toArray];exact r.length.symm
 refine⟨"tuple",_,PyProof.Rows.slot_tuple_getitem.lookup,ht.typeIs,?_⟩;refine HT.Fw ht hs pl pu (by rw[hlen];exact hw) ?_ (by rw[hlen];exact hz);rw[hlen];refine⟨.ref s.heap.objs.size,_,I.laid (t':=s.toks) (o:=.tup (Lb xs lo hi)) (λb ob q=>AAC _ q) (AAE _) ?_,rfl,q _ (I.hok.fresh (AAE _))⟩;exact⟨AAs (Gj xs lo hi) hz,_,(r.drop (HT.sIx xs.length 0 lo)).take (HT.sIx xs.length xs.length hi-HT.sIx xs.length 0 lo),IsTup.new _ _⟩
noncomputable def Xf(K:PySem.W.Frag):R2:=λx y H Q=>∃a b xs ys,x=.ref a/\y=.ref b/\SqT K H a xs/\SqT K H b ys/\xs≠[]/\xs.length+ys.length<=sizeLine /\
 (ys=[]->Q (.ref a) H)/\(ys≠[]->∀p,H p=none->Q (.ref p) (upd H p (.tup (xs++ys))))
theorem Vals.nil_iff(r:Vals xs us):us=[]↔xs=[]:=by
 cases r with
 |nil=>simp
 |cons _ _=>simp
theorem Tr:OpR X (binaryOp .Add) (Xf X.K):=by
 intro w4 s O H x y v u Q I rx ry h;obtain⟨a,b,xs,ys,rfl,rfl,ha,hb,hx,hz,q1,q2⟩:=h;cases rx;cases ry;obtain⟨its,r1,p1,_⟩:=I.tuple ha;obtain⟨its2,r2,p2,_⟩:=I.tuple hb;refine HT.UK p1 p2 (λz=>hx (r1.nil_iff.mp z)) (λz=>⟨.ref a,H,I,rfl,q1 (r2.nil_iff.mp z)⟩) (λz=>?_) (by rw[←r1.length,←r2.length];exact hz);refine⟨.ref s.heap.objs.size,_,I.laid (t':=s.toks) (o:=.tup (xs++ys)) (λb ob q=>AAC _ q) (AAE _) ?_,rfl,q2 (λw=>z (r2.nil_iff.mpr w)) _ (I.hok.fresh (AAE _))⟩;exact⟨by rw[AAG];exact hz,_,r1.append r2,IsTup.new _ _⟩
theorem Le:CU X (.type "tuple") (λxs H Q=>∃a ys,xs=[.ref a]/\SqT X.K H a ys/\Q (.ref a) H):=by
 intro w4 s O H xs us Q I r h;obtain⟨a,ys,rfl,ha,q⟩:=h;obtain⟨u,rfl,ru⟩:=Eb r;cases ru;obtain⟨its,_,p1,_⟩:=I.tuple ha;exact call_tuple_same (items:=its.toArray) p1 ⟨.ref a,H,I,rfl,q⟩
end
noncomputable def ixN(n:Nat)(i:Int):Option Nat:=if 0<=i then (if i<n then some i.toNat else none) else if -(n:Int)<=i then some (i+n).toNat else none
noncomputable def atI{α:Type}(xs:List α)(i:Int):Option α:=(ixN xs.length i).bind λj=>xs[j]?
theorem Ng(h:ixN n i=some j):seqIndex? i n=some j/\j<n/\-(n:Int)<=i/\i<n:=by
 unfold ixN at h;by_cases h0:0<=i
 ·rw[if_pos h0] at h;by_cases h1:i<n
  ·rw[if_pos h1] at h;have e:i.toNat=j:=Option.some.inj h;exact⟨by rw[seqIndex_of h0 h1,e],by omega,by omega,h1⟩
  ·rw[if_neg h1] at h;cases h
 ·rw[if_neg h0] at h;by_cases h1:-(n:Int)<=i
  ·rw[if_pos h1] at h;have e:(i+n).toNat=j:=Option.some.inj h;exact⟨by rw[seqIndex_neg (by omega) h1,e],by omega,h1,by omega⟩
  ·rw[if_neg h1] at h;cases h
theorem Kb(h:atI xs i=some v):∃j,seqIndex? i xs.length=some j/\xs[j]?=some v/\j<xs.length/\-(xs.length:Int)<=i/\i<xs.length:=by
 unfold atI at h;cases e:ixN xs.length i with
 |none=>rw[e] at h;cases h
 |some j=>
  rw[e] at h;obtain⟨h1,h2,h3,h4⟩:=Ng e;exact⟨j,h1,h,h2,h3,h4⟩
def OA(b:Expr):Prop:=∀o i,subscripted b false o i=operate [o,i] (getItem o i)
def IxR(X:Cx)(r:R2):Prop:=
 ∀(value slice:Expr) (w4:List (Addr×Obj)) (s:Shared) (O:St) (H:Hp) (x y:V) (v u:Value) (Q:VK),Inv X w4 O H s->RelV x v->RelV y u->r x y H Q->
  subscripted slice false v u=operate [v,u] (getItem v u)->wpAny (model X.prog X.w) X.A (subscriptTail value slice v u) (EP X w4 O Q) X.xe s
def MtR(X:Cx)(id:String)(r:V->List V->Hp->VK->Prop):Prop:=
 ∀(w4:List (Addr×Obj)) (s:Shared) (O:St) (H:Hp) (x:V) (xs:List V) (v:Value) (us:List Value) (Q:VK),Inv X w4 O H s->RelV x v->Vals xs us->r x xs H Q->
  wpAny (model X.prog X.w) X.A (call (.builtin id) (v::us)) (EP X w4 O Q) X.xe s
section
variable{X:Cx}{a b:Expr}{ta tb:TE}{pos:Pos}
theorem IxR.or(h:IxR X r)(h':IxR X r'):IxR X (λx y H Q=>r x y H Q∨r' x y H Q):=by
 intro value slice w4 s O H x y v u Q I rx ry q hs;rcases q with q|q
 ·exact h value slice w4 s O H x y v u Q I rx ry q hs
 ·exact h' value slice w4 s O H x y v u Q I rx ry q hs
theorem Xp(hr:IxR X r)(ha:PE X a ta)(hb:PE X b tb)(hs:OA b):PE X (.Subscript a b pos) (tOp r ta tb):=by
 intro w4 s O H Q I h;exact Subscript_ (Ws ha hb I h λv u s2 x y H2 I2 rx ry q=>hr a b w4 s2 O H2 x y v u Q I2 rx ry q (hs _ _))
noncomputable def Xe(K:PySem.W.Frag):R2:=λx y H Q=>∃p xs i v,x=.ref p/\y=.int i/\SqL K H p xs/\atI xs i=some v/\Q v H
noncomputable def Xc(K:PySem.W.Frag):R2:=λx y H Q=>∃p xs i v,x=.ref p/\y=.int i/\SqT K H p xs/\atI xs i=some v/\Q v H
noncomputable def Xd:R2:=λx y H Q=>∃z i c,x=.str z/\y=.int i/\z.length<=sizeLine/\atI z.cps.toList i=some c/\Q (.str ⟨#[c]⟩) H
theorem ix_list:IxR X (Xe X.K):=by
 intro value slice w4 s O H x y v u Q I rx ry h hs;obtain⟨p,xs,i,z,rfl,rfl,hq,he,q⟩:=h;cases rx;obtain⟨t,rfl⟩:=ry;obtain⟨its,r,pl,hz⟩:=I.list hq;obtain⟨j,h1,h2,h3,h4,h5⟩:=Kb he;obtain⟨w,ew,rw'⟩:=r.get h2;have hl:=r.length;have hn:=FZ;have fin:EP X w4 O Q w s:=⟨z,H,I,rw',q⟩;by_cases h0:0<=i
 ·have hj:i.toNat=j:=by
   rw[seqIndex_of h0 h5] at h1;exact Option.some.inj h1
  exact item_listR pl.isList h0 (by omega) (by rw[hj];simpa using ew) fin hs
 ·have hj:(i+(its.toArray.size:Int)).toNat=j:=by
   rw[seqIndex_neg (by omega) h4] at h1;rw[List.size_toArray,←hl];exact Option.some.inj h1
  exact subscriptTail_builtinR (x:=w) pl.isList.typeIs slot_list_getitem.lookup
   (wpAny_getItem_list_neg (Q:=λr s'=>r=w/\EP X w4 O Q r s') pl.isList (by omega) (by rw[List.size_toArray]<;>omega) (by omega) (by rw[hj];simpa using ew) ⟨rfl,fin⟩) hs
theorem ix_tup:IxR X (Xc X.K):=by
 intro value slice w4 s O H x y v u Q I rx ry h hs;obtain⟨p,xs,i,z,rfl,rfl,hq,he,q⟩:=h;cases rx;obtain⟨t,rfl⟩:=ry;obtain⟨its,r,pl,hz⟩:=I.tuple hq;obtain⟨j,h1,h2,h3,h4,h5⟩:=Kb he;obtain⟨w,ew,rw'⟩:=r.get h2;have hl:=r.length;have hn:=FZ;have fin:EP X w4 O Q w s:=⟨z,H,I,rw',q⟩;exact subscriptTail_builtinR (x:=w) pl.typeIs slot_tuple_getitem.lookup
  (getItem_tuple (j:=j) (Q:=λr s'=>r=w/\EP X w4 O Q r s') pl (by omega) (by omega) (by rw[List.size_toArray,←hl];exact h1) (by simpa using ew) ⟨rfl,fin⟩) hs
theorem WW:IxR X Xd:=by
 intro value slice w4 s O H x y v u Q I rx ry h hs;obtain⟨z,i,c,rfl,rfl,hz,he,q⟩:=h;obtain⟨t,rfl⟩:=rx;obtain⟨t',rfl⟩:=ry;obtain⟨j,h1,h2,h3,h4,h5⟩:=Kb he;have hl:z.cps.toList.length=z.length:=by simp[Str.length]
 rw[hl] at h1 h4 h5;have hn:=FZ;exact tail_any (typeIs_str s z t) slot_str_getitem.lookup (getItem_str (c:=c) (by
  have e1:decide (i < -(2 ^ 63:Int))=false:=AAN (by omega);have e2:decide (i ≥ 2 ^ 63)=false:=AAN (by omega);rw[e1,e2,Bool.or_false]) (by rw[h1];simpa using h2) ⟨.str ⟨#[c]⟩,H,I.tok _,⟨_,rfl⟩,q⟩) hs
noncomputable def rIx(K:PySem.W.Frag):R2:=λx y H Q=>Xe K x y H Q∨Xc K x y H Q∨Xd x y H Q
theorem MN:IxR X (rIx X.K):=ix_list.or (ix_tup.or WW)
theorem MI(its:List Value)(n j:Nat)(u:Value):Obj.mapSeq (·.setIfInBounds j u) { cls:=.type "list",data:=.seq its.toArray n }={ cls:=.type "list",data:=.seq (its.set j u).toArray n }:=by
 simp[Obj.mapSeq]
theorem Inv.lst(I:Inv X w4 O H s)(h:H p=some (.lst xs)):
  ∃(its:List Value) (n:Nat),Vals xs its/\s.heap.get? p=some { cls:=.type "list",data:=.seq its.toArray n }/\xs.length<=sizeLine:=by
 obtain⟨z,its,n,r,e⟩:=I.hok p _ h;exact⟨its,n,r,e,z⟩
theorem Inv.lstUpd{w4:List (Addr×Obj)}{O:St}{H:Hp}{s:Shared}{p:Addr}{xs ys:List V}{its its':List Value}{n n':Nat}{f:Obj->Obj}(I:Inv X w4 O H s)(h:H p=some (.lst xs))
  (ho:s.heap.get? p=some { cls:=.type "list",data:=.seq its.toArray n }) (hf:f { cls:=.type "list",data:=.seq its.toArray n }={ cls:=.type "list",data:=.seq its'.toArray n' }) (r:Vals ys its') (hz:ys.length<=sizeLine) (t:Nat) :
  Inv X w4 O (upd H p (.lst ys)) { s with heap:=s.heap.update p f,toks:=t }:=by
 have e:(s.heap.update p f).get? p=some { cls:=.type "list",data:=.seq its'.toArray n' }:=by
  rw[Heap.get?_update_self f ho (by rw[hf]<;>rfl),hf]
 refine I.write (x:=p) (e:=p) (by rw[h];trivial) (.inl rfl) (λb u hb q=>(Heap.get?_update_other _ _ (Ne.symm hb)).trans q) ⟨_,e⟩ ?_;exact⟨hz,its',n',r,e⟩
noncomputable def Xb:V->V->V->Hp->(Hp->Prop)->Prop:=λo i v H Q=>∃p xs k j,o=.ref p/\i=.int k/\H p=some (.lst xs)/\ixN xs.length k=some j/\Q (upd H p (.lst (xs.set j v)))
theorem Ps:Yj X Xb:=by
 intro w4 s O H o i v ov iv u Q I ro ri rv h;obtain⟨p,xs,k,j,rfl,rfl,hp,hj,q⟩:=h;cases ro;obtain⟨t,rfl⟩:=ri;obtain⟨its,n,r,ho,hz⟩:=I.lst hp;obtain⟨h1,h2,h3,h4⟩:=Ng hj;have hl:=r.length;have hn:=FZ;have I':Inv X w4 O (upd H p (.lst (xs.set j v))) { s with heap:=s.heap.update p (Obj.mapSeq (·.setIfInBounds j u)) }:=
  I.lstUpd hp ho (MI its n j u) (r.set rv j) (by rw[AAv];exact hz) s.toks
 by_cases h0:0<=k
 ·have hk:k.toNat=j:=by
   rw[seqIndex_of h0 h4] at h1;exact Option.some.inj h1
  exact PySem.W.ki_setAt ho h0 (by omega) (by rw[List.size_toArray,←hl];exact h4) (by rw[hk];exact⟨_,I',q⟩)
 ·have hk:(k+(its.toArray.size:Int)).toNat=j:=by
   rw[seqIndex_neg (by omega) h3] at h1;rw[List.size_toArray,←hl];exact Option.some.inj h1
  exact PySem.W.ki_setBack ho (by omega) (by rw[List.size_toArray,←hl];exact h3) (by omega) (by rw[hk];exact⟨_,I',q⟩)
theorem Jm(lo hi:Option Int)(n:Nat):(sliceBounds lo hi none n).1=((HT.sIx n 0 lo:Nat):Int)/\(sliceBounds lo hi none n).2.1=((HT.sIx n n hi:Nat):Int)/\(sliceBounds lo hi none n).2.2=1:=by
 refine⟨?_,?_,rfl⟩
 ·cases lo with
  |none=>simp[sliceBounds,HT.sIx]
  |some i=>
   simp only[sliceBounds,HT.sIx,Option.getD_none,show (1:Int) > 0 by decide,if_true];by_cases h:i<0
   ·simp only[h,if_true]<;>omega
   ·simp only[h,if_false]<;>omega
 ·cases hi with
  |none=>simp[sliceBounds,HT.sIx]
  |some i=>
   simp only[sliceBounds,HT.sIx,Option.getD_none,show (1:Int) > 0 by decide,if_true];by_cases h:i<0
   ·simp only[h,if_true]<;>omega
   ·simp only[h,if_false]<;>omega
theorem IV(its:List Value)(lo hi:Option Int):slicePick its.toArray lo hi none=((its.drop (HT.sIx its.length 0 lo)).take (HT.sIx its.length its.length hi-HT.sIx its.length 0 lo)).toArray:=by
 obtain⟨h1,h2,h3⟩:=Jm lo hi its.toArray.size;unfold slicePick;rw[h1,h2,h3];simp only[sliceRange_one,pick_run,List.size_toArray]<;>rfl
noncomputable def Y1(K:PySem.W.Frag):V->Option Int->Option Int->Hp->VK->Prop:=λx lo hi H Q=>∃a xs,x=.ref a/\SqL K H a xs/\∀p,H p=none->Q (.ref p) (upd H p (.lst (Lb xs lo hi)))
theorem TB:SlR X (Y1 X.K):=by
 intro w4 s O H x v vl vu lo hi sl Q I rx hs pl pu h;obtain⟨a,xs,rfl,hx,q⟩:=h;cases rx;obtain⟨its,r,ht,hz⟩:=I.list hx;have hlen:=r.length;refine⟨"list",_,slot_list_getitem.lookup,ht.isList.typeIs,?_⟩;refine wpAny_getItem_list_slice ht.isList hs pl pu .none (by simp) ?_ (by rw[List.size_toArray]<;>omega);rw[IV,←hlen];refine⟨.ref s.heap.objs.size,_,I.laid (t':=s.toks) (o:=.lst (Lb xs lo hi)) (λb ob q=>AAC _ q) (AAE _) ?_,rfl,q _ (I.hok.fresh (AAE _))⟩;exact⟨AAs (Gj xs lo hi) hz,_,0,(r.drop (HT.sIx xs.length 0 lo)).take (HT.sIx xs.length xs.length hi-HT.sIx xs.length 0 lo),AAD _ rfl⟩
noncomputable def DH:V->Bool
 | .non=>true
 | .bl _=>true
 | .int _=>true
 | .str _=>true
 |_=>false
noncomputable def eqV:V->V->Bool
 | .non,.non=>true
 | .bl a,.bl b=>a==b
 | .bl a,.int b=>(if a then 1 else 0)==b
 | .int a,.bl b=>a==(if b then 1 else 0)
 | .int a,.int b=>a==b
 | .str a,.str b=>a==b
 |_,_=>false
theorem Wo(ry:RelV y u)(rx:RelV x v)(fy:DH y=true)(fx:DH x=true):SeqAt.EqAt A s u v (eqV y x):=by
 cases y with
 |non=>
  cases ry;cases x with
  |non=>cases rx;exact SeqAt.EqAt.same _
  |bl b=>cases rx;exact SeqAt.EqAt.none_bool b
  |int b=>obtain⟨t,rfl⟩:=rx;exact SeqAt.EqAt.none_int b t
  |str b=>obtain⟨t,rfl⟩:=rx;exact SeqAt.EqAt.none_str b t
  |_=>exact absurd (show false=true from fx) AAh
 |bl a=>
  cases ry;cases x with
  |non=>cases rx;exact SeqAt.EqAt.bool_none a
  |bl b=>cases rx;exact SeqAt.EqAt.bool_bool a b
  |int b=>obtain⟨t,rfl⟩:=rx;exact SeqAt.EqAt.bool_int a b t
  |str b=>obtain⟨t,rfl⟩:=rx;exact SeqAt.EqAt.bool_str a b t
  |_=>exact absurd (show false=true from fx) AAh
 |int a=>
  obtain⟨t',rfl⟩:=ry;cases x with
  |non=>cases rx;exact SeqAt.EqAt.int_none a t'
  |bl b=>cases rx;exact SeqAt.EqAt.int_bool a t' b
  |int b=>obtain⟨t,rfl⟩:=rx;exact SeqAt.EqAt.int_int a t' b t
  |str b=>obtain⟨t,rfl⟩:=rx;exact SeqAt.EqAt.int_str a t' b t
  |_=>exact absurd (show false=true from fx) AAh
 |str a=>
  obtain⟨t',rfl⟩:=ry;cases x with
  |non=>cases rx;exact SeqAt.EqAt.str_none a t'
  |bl b=>cases rx;exact SeqAt.EqAt.str_bool a t' b
  |int b=>obtain⟨t,rfl⟩:=rx;exact SeqAt.EqAt.str_int a t' b t
  |str b=>obtain⟨t,rfl⟩:=rx;exact SeqAt.EqAt.str_str a t' b t
  |_=>exact absurd (show false=true from fx) AAh
 |_=>exact absurd (show false=true from fy) AAh
noncomputable def eqU(x:V)(u:Value):Bool:=match u with
 | .none=>eqV .non x
 | .bool b=>eqV (.bl b) x
 | .int i _=>eqV (.int i) x
 | .str z _=>eqV (.str z) x
 |_=>false
theorem KN(r:RelV y u)(f:DH y=true):eqU x u=eqV y x:=by
 cases y with
 |non=>cases r;rfl
 |bl b=>cases r;rfl
 |int i=>obtain⟨t,rfl⟩:=r;rfl
 |str z=>obtain⟨t,rfl⟩:=r;rfl
 |_=>exact absurd (show false=true from f) AAh
theorem F6:∀{xs:List V} {us:List Value},Vals xs us->xs.all DH=true->us.any (eqU x)=xs.any λy=>eqV y x
 |_,_,.nil,_=>rfl
 |y::xs,u::us,.cons r t,f=>by
  rw[List.all_cons,Bool.and_eq_true] at f;rw[List.any_cons,List.any_cons,KN r f.1,F6 t f.2]
theorem DY(rx:RelV x v)(fx:DH x=true):∀{xs:List V} {us:List Value},Vals xs us->xs.all DH=true->∀u∈us,SeqAt.EqAt A s u v (eqU x u)
 |_,_,.nil,_=>λu hu=>by cases hu
 |y::xs,u::us,.cons r t,f=>λu' hu=>by
  rw[List.all_cons,Bool.and_eq_true] at f;rcases AAI.mp hu with rfl|hu
  ·rw[KN r f.1];exact Wo r rx f.1 fx
  ·exact DY rx fx t f.2 u' hu
noncomputable def inV(x:V)(xs:List V):Bool:=xs.any λy=>eqV y x
noncomputable def rIn(K:PySem.W.Frag)(neg:Bool):R2:=λx y H Q=>∃p xs,y=.ref p/\(SqL K H p xs∨SqT K H p xs)/\DH x=true/\xs.all DH=true/\Q (.bl (if neg then !inV x xs else inV x xs)) H
theorem OW:OpR X (compareOp .In) (rIn X.K false):=by
 intro w4 s O H x y v u Q I rx ry h;obtain⟨p,xs,rfl,hq,fx,fs,q⟩:=h;cases ry;rcases hq with hq|hq
 ·obtain⟨its,r,pl,hz⟩:=I.list hq;refine SeqAt.in_listAt (eqU x) pl.isList (λw hw=>DY rx fx r fs w (by simpa using hw)) ⟨.bl _,H,I,rfl,?_⟩;rw[show its.toArray.any (eqU x)=its.any (eqU x) by simp,F6 r fs];exact q
 ·obtain⟨its,r,pl,hz⟩:=I.tuple hq;refine SeqAt.in_tupleAt (eqU x) pl (λw hw=>DY rx fx r fs w (by simpa using hw)) ⟨.bl _,H,I,rfl,?_⟩;rw[show its.toArray.any (eqU x)=its.any (eqU x) by simp,F6 r fs];exact q
theorem J2:OpR X (compareOp .NotIn) (rIn X.K true):=by
 intro w4 s O H x y v u Q I rx ry h;obtain⟨p,xs,rfl,hq,fx,fs,q⟩:=h;cases ry;rcases hq with hq|hq
 ·obtain⟨its,r,pl,hz⟩:=I.list hq;refine SeqAt.notIn_listAt (eqU x) pl.isList (λw hw=>DY rx fx r fs w (by simpa using hw)) ⟨.bl _,H,I,rfl,?_⟩;rw[show its.toArray.any (eqU x)=its.any (eqU x) by simp,F6 r fs];exact q
 ·obtain⟨its,r,pl,hz⟩:=I.tuple hq;refine SeqAt.notIn_tupleAt (eqU x) pl (λw hw=>DY rx fx r fs w (by simpa using hw)) ⟨.bl _,H,I,rfl,?_⟩;rw[show its.toArray.any (eqU x)=its.any (eqU x) by simp,F6 r fs];exact q
theorem KP:CU X (.type "list") (λxs H Q=>∃p ys,xs=[.ref p]/\(SqL X.K H p ys∨SqT X.K H p ys)/\∀l,H l=none->Q (.ref l) (upd H l (.lst ys))):=by
 intro w4 s O H xs us Q I r h;obtain⟨p,ys,rfl,hq,q⟩:=h;obtain⟨u,rfl,rx⟩:=Eb r;cases rx;have fin:∀(its:List Value),Vals ys its->ys.length<=sizeLine->∀(h':Heap) (c':Nat),(∀b o',s.heap.get? b=some o'->h'.get? b=some o')->
   h'.get? s.heap.objs.size=some { cls:=.type "list",dict:=none,data:=.seq its.toArray c',slots:=#[] }->EP X w4 O Q (.ref s.heap.objs.size) { s with heap:=h' }:=λits r' hz h' c' kp e=>
  ⟨.ref s.heap.objs.size,_,I.laid (t':=s.toks) kp (AAE _) (show ObjOk X.prog X.w _ h' _ (.lst ys) from ⟨hz,its,c',r',e⟩),rfl,q _ (I.hok.fresh (AAE _))⟩
 rcases hq with hq|hq
 ·obtain⟨its,r',pl,hz⟩:=I.list hq;have hlen:=r'.length;obtain⟨o,ho,hc,n,hd⟩:=pl.isList;exact call_list_seq p (.inl rfl) ho hc hd (λh' c' kp e=>fin its r' hz h' c' kp e) (by simp only[List.size_toArray]<;>omega)
 ·obtain⟨its,r',pl,hz⟩:=I.tuple hq;have hlen:=r'.length;obtain⟨o,ho,hc,n,hd⟩:=pl;exact call_list_seq p (.inr rfl) ho hc hd (λh' c' kp e=>fin its r' hz h' c' kp e) (by simp only[List.size_toArray]<;>omega)
def tyV(K:PySem.W.Frag)(T:String)(x:V)(H:Hp):Prop:=match x with
 | .str _=>T = "str"
 | .int _=>T = "int"
 | .ref p=>(T = "list" /\ ∃xs,SqL K H p xs)∨(T = "tuple" /\ ∃o,K.lookup p=some o/\o.cls=.type "tuple" /\ o.dict=none) ∨
   (T = "dict" /\ ((∃kvs,H p=some (.dK kvs))∨∃kvs,H p=some (.dT kvs)))∨(T = "set" /\ ∃S n,H p=some (.set S n))
 |_=>False
theorem Pe(I:Inv X w4 O H s)(r:RelV x v)(ty:tyV X.K T x H):
  s.TypeIs v T/\∀a,v=.ref a->∃ob,s.heap.get? a=some ob/\ob.dict=none:=by
 cases x with
 |str z=>
  obtain⟨t,rfl⟩:=r;cases (show T = "str" from ty);exact⟨typeIs_str s z t,λ_ e=>nomatch e⟩
 |int i=>
  obtain⟨t,rfl⟩:=r;cases (show T = "int" from ty);exact⟨typeIs_int s i t,λ_ e=>nomatch e⟩
 |ref p=>
  cases r;rcases ty with ⟨rfl,xs,hq⟩|⟨rfl,o,hk,hc,hd⟩|⟨rfl,hk⟩|⟨rfl,S,n,hk⟩
  ·obtain⟨its,_,pl,_⟩:=I.list hq;refine⟨pl.isList.typeIs,λa e=>?_⟩;cases e;obtain⟨o,n,e,c,hd,_⟩:=pl;exact⟨o,e,hd⟩
  ·refine⟨⟨o,I.kIn p o hk,hc⟩,λa e=>?_⟩;cases e;exact⟨o,I.kIn _ o hk,hd⟩
  ·have z:∃o,s.heap.get? p=some o/\o.ExactDict:=by
    rcases hk with ⟨kvs,hk⟩|⟨kvs,hk⟩
    ·obtain⟨_,_,_,_,o,_,_,e,ex,_⟩:=I.hok p _ hk;exact⟨o,e,ex⟩
    ·obtain⟨_,_,_,_,o,_,_,e,ex,_⟩:=I.hok p _ hk;exact⟨o,e,ex⟩
   obtain⟨o,e,ex⟩:=z;refine⟨⟨o,e,ex.1⟩,λa e2=>?_⟩;cases e2;exact⟨o,e,ex.2.1⟩
  ·obtain⟨o,_,_,_,e,ex,_⟩:=I.hok p _ hk;refine⟨⟨o,e,ex.1⟩,λa e2=>?_⟩;cases e2;exact⟨o,e,ex.2.1⟩
 |_=>exact False.elim ty
noncomputable def XT(K:PySem.W.Frag)(T:String)(r:V->List V->Hp->VK->Prop)(to:TE):TE:=λO H Q=>to O H λx H1=>tyV K T x H1/\r x [] H1 Q
noncomputable def tBM(K:PySem.W.Frag)(T:String)(r:V->List V->Hp->VK->Prop)(to:TE)(t:TA):TE:=λO H Q=>to O H λx H1=>tyV K T x H1/\t O H1 λxs H2=>r x xs H2 Q
variable{o e:Expr}{es:List Expr}{to:TE}{t:TA}{name:Str}{apos cpos:Pos}{T id:String}{r:V->List V->Hp->VK->Prop}
theorem Vz(pa:PlainAttrs T)(slot:Slot T name id)(hty:typeOf (.builtin id)=pure (.type "method_descriptor"))(hm:MtR X id r)(ho:PE X o to)
  (hbase:attributeBase o name X.env (eval o X.env)=eval o X.env:=by rfl) (hline:(apos.endLine==cpos.line)=true:=by rfl):PE X (.Call (.Attribute o name apos) [] [] cpos) (XT X.K T r to):=by
 intro w4 s O H Q I h;refine wpAny_Call_method0_late hbase hline (thn (ho w4 s O H _ I h) λv s1 ⟨x,H1,I1,r1,ty,q1⟩=>?_);obtain⟨h1,h2⟩:=Pe I1 r1 ty;exact⟨T,id,pa,slot,hty,h1,h2,Calls.callWith_builtin rfl (PySem.evalArgs_none (hm w4 s1 O H1 x [] v [] Q I1 r1 .nil q1))⟩
theorem Xq(pa:PlainAttrs T)(slot:Slot T name id)(hty:typeOf (.builtin id)=pure (.type "method_descriptor"))(hm:MtR X id r)(ho:PE X o to)(ha:PA X (e::es) t)
  (hbase:attributeBase o name X.env (eval o X.env)=eval o X.env:=by rfl)
  (hfew:((backTo cpos (starEach (e::es) X.env)).all (λx=>!x.1)&&(backToKw cpos (keywordEach [] X.env)).all (λx=>x.1.isSome)
   && decide ((e::es).length+([]:List Keyword).length+(if ([]:List Keyword).isEmpty then 0 else 1)<30))=true:=by rfl)
  (hline:(apos.endLine==cpos.line)=true:=by rfl) (hs:starEach (e::es) X.env=(false,eval e X.env)::starEach es X.env:=by rfl) (hplain:(backTo cpos (starEach es X.env)).any (·.1)=false:=by rfl) :
  PE X (.Call (.Attribute o name apos) (e::es) [] cpos) (tBM X.K T r to t):=by
 intro w4 s O H Q I h;refine wpAny_Call_method_late hbase hfew hline rfl (thn (ho w4 s O H _ I h) λv s1 ⟨x,H1,I1,r1,ty,q1⟩=>?_);obtain⟨h1,h2⟩:=Pe I1 r1 ty;refine⟨T,id,pa,slot,hty,h1,h2,?_⟩;have hA:=ha cpos w4 s1 O H1 _ I1 q1;rw[hs] at hA ⊢;refine Calls.callWith_builtin (by show (false||(backTo cpos (starEach es X.env)).any (·.1))=false;rw[hplain]<;>rfl) (Calls.evalArgs_plain ?_);exact thn hA λus s2 ⟨vs,H2,I2,r2,q2⟩=>hm w4 s2 O H2 x vs v us Q I2 r1 r2 q2
end
def MtM(X:Cx)(id:String)(r:V->List V->Hp->VK->Prop):Prop:=
 ∀(w4:List (Addr×Obj)) (s:Shared) (O:St) (H:Hp) (x:V) (xs:List V) (v:Value) (us:List Value) (Q:VK),Inv X w4 O H s->RelV x v->Vals xs us->r x xs H Q->
  wpAny (model X.prog X.w) X.A (call (.builtin id) (v::us)) (EP X w4 O Q) X.xe s
theorem Vals.one:∀{x:V} {us:List Value},Vals [x] us->∃u,us=[u]/\RelV x u
 |_,_,.cons r .nil=>⟨_,rfl,r⟩
theorem Vals.two:∀{x y:V} {us:List Value},Vals [x,y] us->∃u v,us=[u,v]/\RelV x u/\RelV y v
 |_,_,_,.cons r (.cons q .nil)=>⟨_,_,rfl,r,q⟩
theorem Vals.zero:∀{us:List Value},Vals [] us->us=[]
 |_,.nil=>rfl
theorem Vals.dropLast(h:Vals xs us):Vals xs.dropLast us.dropLast:=by
 induction h with
 |nil=>exact .nil
 |cons r t ih=>
  cases t with
  |nil=>exact .nil
  |cons q t'=>exact .cons r ih
theorem Vals.eraseIdx:∀{xs:List V} {us:List Value} (i:Nat),Vals xs us->Vals (xs.eraseIdx i) (us.eraseIdx i)
 |_,_,_,.nil=>.nil
 |_,_,0,.cons _ t=>t
 |_,_,i+1,.cons r t=>.cons r (Vals.eraseIdx i t)
theorem Vals.rep(h:Vals xs us):∀k:Nat,Vals (List.replicate k xs).flatten (List.replicate k us).flatten
 |0=>.nil
 |k+1=>by
  rw[AAl,AAl,List.flatten_cons,List.flatten_cons];exact Vals.append h (Vals.rep h k)
theorem MY(l:List α):l.eraseIdx (l.length-1)=l.dropLast:=by
 induction l with
 |nil=>rfl
 |cons a r ih=>
  cases r with
  |nil=>rfl
  |cons b r=>
   have e:(a::b::r).length-1=((b::r).length-1)+1:=by
    have h1:(a::b::r).length=r.length+2:=rfl;have h2:(b::r).length=r.length+1:=rfl;omega
   rw[e,List.eraseIdx_cons_succ,ih]
   all_goals rfl
theorem JA:∀(l:List α) (i:Nat),(l.eraseIdx i).length<=l.length
 |[],_=>AAE _
 |_::_,0=>Nat.le_succ _
 |_::r,i+1=>Nat.succ_le_succ (JA r i)
theorem JJ(its:List Value):∀(k:Nat) (acc:List Value),
  List.foldl (λx1 x2=>x1++x2) acc.toArray (List.replicate k its.toArray)=(acc++(List.replicate k its).flatten).toArray
 |0,acc=>by simp
 |k+1,acc=>by
  have e:acc.toArray++its.toArray=(acc++its).toArray:=by simp
  have e2:(acc++its)++(List.replicate k its).flatten=acc++(List.replicate (k+1) its).flatten:=by
   rw[AAl,List.flatten_cons,AAm]
  rw[←e2,←JJ its k (acc++its),←e,AAl,List.foldl_cons]
section
variable{X:Cx}{w4:List (Addr×Obj)}{O:St}{H:Hp}{s:Shared}{l:Addr}{xs ys:List V}
theorem Inv.lset{its its':List Value}{n:Nat}{f:Array Value->Array Value}{t':Nat}(I:Inv X w4 O H s)(hH:H l=some (.lst xs))
  (e:s.heap.get? l=some { cls:=.type "list",data:=.seq its.toArray n }) (hf:f its.toArray=its'.toArray) (hv:Vals ys its') (hz:ys.length<=sizeLine) :
  Inv X w4 O (upd H l (.lst ys)) { s with heap:=s.heap.update l (Obj.mapSeq f),toks:=t' }:=by
 have q:=PySem.IsL.update e f;rw[hf] at q;refine I.write (x:=l) (e:=l) (by rw[hH];exact trivial) (.inl rfl) (λb' u hb hu=>(Heap.get?_update_other s.heap (Obj.mapSeq f) (Ne.symm hb)).trans hu) ⟨_,q⟩ ?_;exact⟨hz,its',_,hv,q⟩
theorem Inv.lnew(I:Inv X w4 O H s)(hv:Vals ys its)(hz:ys.length<=sizeLine):
  Inv X w4 O (upd H s.heap.objs.size (.lst ys)) { s with heap:=s.heap.push { cls:=.type "list",data:=.seq its.toArray },toks:=t' }:=
 I.laid (λ_ _ q=>AAC _ q) (AAE _) ⟨hz,its,0,hv,AAD _ rfl⟩
theorem Inv.fresh(I:Inv X w4 O H s):H s.heap.objs.size=none:=I.hok.fresh (AAE _)
theorem Inv.lstM(I:Inv X w4 O H s)(hH:H l=some (.lst xs)):xs.length<=sizeLine/\∃(its:List Value) (n:Nat),Vals xs its/\xs.length=its.length/\s.heap.get? l=some { cls:=.type "list",data:=.seq its.toArray n }:=by
 obtain⟨z,its,n,r,e⟩:=I.hok l _ hH;exact⟨z,its,n,r,r.length,e⟩
theorem Qq(h:n<=sizeLine):Builtin.List.listTooLong n=false:=by
 unfold Builtin.List.listTooLong;exact AAN (by omega)
end
section
variable{X:Cx}
noncomputable def TN:V->List V->Hp->VK->Prop:=λx vs H Q=>∃l xs y,x=.ref l/\vs=[y]/\H l=some (.lst xs)/\xs.length<sizeLine/\Q .non (upd H l (.lst (xs++[y])))
theorem Oa:MtM X "list.append" TN:=by
 intro w4 s O H x vs v us Q I rx rv h;obtain⟨l,xs,y,rfl,rfl,hH,hz,q⟩:=h;cases rx;obtain⟨u,rfl,ru⟩:=rv.one;obtain⟨z,its,n,r,hl,e⟩:=I.lstM hH;refine call_meets F.slot_list_append ⟨_,e,rfl⟩ F.entry_list_append (F.args_list_append_2 _ _) (PySem.list_append l its.toArray n u (by rw[List.size_toArray];omega)) ⟨e,?_⟩;refine⟨.non,_,I.lset (its':=its++[u]) hH e (by simp) (r.append (.cons ru .nil)) ?_,rfl,q⟩;rw[AAG,List.length_singleton];omega
noncomputable def Y3:V->List V->Hp->VK->Prop:=λx vs H Q=>∃l xs y,x=.ref l/\vs=[]/\H l=some (.lst xs)/\xs[xs.length-1]?=some y/\Q y (upd H l (.lst xs.dropLast))
theorem WF:MtM X "list.pop" Y3:=by
 intro w4 s O H x vs v us Q I rx rv h;obtain⟨l,xs,y,rfl,rfl,hH,hy,q⟩:=h;cases rx;have hus:=rv.zero;subst hus;obtain⟨z,its,n,r,hl,e⟩:=I.lstM hH;obtain⟨u,hu,ru⟩:=r.get hy;have hy':its.toArray[its.toArray.size-1]?=some u:=by
  show its.toArray[its.length-1]?=some u;rw[←Array.getElem?_toList,←hl];exact hu
 refine call_meets F.slot_list_pop ⟨_,e,rfl⟩ F.entry_list_pop (F.args_list_pop_1 _) (MeetsSeq.list_pop_last l its.toArray n u hy' (by rw[List.size_toArray];omega)) ⟨e,?_⟩;refine⟨y,_,I.lset (its':=its.dropLast) hH e ?_ r.dropLast ?_,ru,q⟩
 ·show its.toArray.eraseIdxIfInBounds (its.toArray.size-1)=its.dropLast.toArray;rw[List.size_toArray,List.eraseIdxIfInBounds_toArray,MY]
 ·rw[List.length_dropLast];omega
noncomputable def Y6:R2:=λx y H Q=>∃l b xs zs,x=.ref l/\y=.ref b/\H l=some (.lst xs)/\H b=some (.lst zs)/\xs.length+zs.length<=sizeLine/\∀p,H p=none->Q (.ref p) (upd H p (.lst (xs++zs)))
theorem WC:OpR X (binaryOp .Add) Y6:=by
 intro w4 s O H x y v u Q I rx ry h;obtain⟨l,b,xs,zs,rfl,rfl,hH,hB,hz,q⟩:=h;cases rx;cases ry;obtain⟨z,its,n,r,hl,e⟩:=I.lstM hH;obtain⟨z2,its2,n2,r2,hl2,e2⟩:=I.lstM hB;refine PySem.P.add_list e e2 ?_ (by rw[List.size_toArray,List.size_toArray];omega);have ea:its.toArray++its2.toArray=(its++its2).toArray:=by simp
 rw[ea];exact⟨.ref _,_,I.lnew (t':=s.toks) (r.append r2) (by rw[AAG];omega),rfl,q _ I.fresh⟩
noncomputable def Y2:R2:=λx y H Q=>∃l k xs,x=.ref l/\y=.int k/\H l=some (.lst xs)/\-(2 ^ 63)<=k/\k<2 ^ 63/\xs.length * k.toNat<=sizeLine /\
 ∀p,H p=none->Q (.ref p) (upd H p (.lst (List.replicate k.toNat xs).flatten))
theorem NX(xs:List α)(k:Nat):(List.replicate k xs).flatten.length=k * xs.length:=by
 induction k with
 |zero=>simp
 |succ k ih=>rw[AAl,List.flatten_cons,AAG,ih,Nat.succ_mul,Nat.add_comm]
theorem V5:OpR X (binaryOp .Mult) Y2:=by
 intro w4 s O H x y v u Q I rx ry h;obtain⟨l,k,xs,rfl,rfl,hH,h1,h2,hz,q⟩:=h;cases rx;obtain⟨t,rfl⟩:=ry;obtain⟨z,its,n,r,hl,e⟩:=I.lstM hH;have hlen:its.toArray.size * k.toNat<=sizeLine:=by rw[List.size_toArray,←hl];exact hz
 have hcap:¬its.toArray.size * k.toNat > (2 ^ 63-1) / 8:=by
  have:(sizeLine:Nat)<=(2 ^ 63-1) / 8:=by decide
  omega
 have hfit:¬(!Builtin.List.listFitsIndex k)=true:=by
  rw[fitsIndex_both h1 h2];exact AAh
 have hlong:¬Builtin.List.listTooLong (its.toArray.size * k.toNat)=true:=by
  rw[Qq hlen];exact AAh
 have hnew:List.foldl (λx1 x2=>x1++x2) #[] (List.replicate (if its.toArray.isEmpty=true then 0 else k.toNat) its.toArray)=(List.replicate k.toNat its).flatten.toArray:=by
  have f0:∀m:Nat,List.foldl (λx1 x2=>x1++x2) #[] (List.replicate m its.toArray)=(List.replicate m its).flatten.toArray:=λm=>by
   have:=JJ its m [];rw[List.nil_append] at this;exact this
  rw[f0];cases its with
  |nil=>simp
  |cons a r'=>rw[if_neg (by simp)]
 refine wpAny_binaryOp_repeat_ref (T := "list") (U := "int") (by decide) ⟨_,e,rfl⟩ (λs'=>typeIs_int s' k t) noFill_list_mul F.fills_int_mul F.slot_int_rmul repeat_list F.slot_int_index.lookup
  (call_meets F.slot_int_rmul (typeIs_int s k t) F.entry_int_rmul (F.args_int_rmul_2 _ _) (int___rmul___int_list k t l its.toArray n)
   ⟨e,rfl,⟨_,e,rfl⟩,call_meets F.slot_list_mul ⟨_,e,rfl⟩ F.entry_list_mul (F.args_list_mul_2 _ _) (AutoListH.list___mul___list_int_3 l its.toArray n k t hfit hcap hlong) ⟨e,?_⟩⟩)
 rw[hnew];exact⟨.ref _,_,I.lnew (t':=s.toks) (r.rep k.toNat) (by rw[NX,Nat.mul_comm];exact hz),rfl,q _ I.fresh⟩
end
section
variable{κ:Type}[DecidableEq κ]
noncomputable def EY(kvs:List (κ×V))(k:κ):Option V:=(kvs.find? λkv=>decide (kv.1=k)).map (·.2)
noncomputable def Fq(kvs:List (κ×V))(k:κ)(v:V):List (κ×V):=
 if (kvs.any λkv=>decide (kv.1=k))=true then kvs.map (λkv=>if kv.1=k then (kv.1,v) else kv) else kvs++[(k,v)]
noncomputable def Gi(kvs:List (κ×V))(k:κ):List (κ×V):=kvs.filter λkv=>decide (kv.1≠k)
theorem HF{p:κ×V}{r:List (κ×V)}{k:κ}(e:p.1=k):EY (p::r) k=some p.2:=by simp[EY,List.find?_cons,e]
theorem HG{p:κ×V}{r:List (κ×V)}{k:κ}(e:¬p.1=k):EY (p::r) k=EY r k:=by simp[EY,List.find?_cons,e]
theorem Kj(k:κ):∀kvs:List (κ×V),(kvs.any λkv=>decide (kv.1=k))=(EY kvs k).isSome
 |[]=>rfl
 |p::r=>by
  rw[List.any_cons];by_cases e:p.1=k
  ·simp only[HF e,AAO e,Bool.true_or,Option.isSome_some]
  ·rw[HG e,AAN e,Bool.false_or];exact Kj k r
theorem Gc(kvs:List (κ×V))(k:κ)(v:V):(Fq kvs k v).length<=kvs.length+1:=by
 unfold Fq;split
 ·rw[AAF];omega
 ·rw[AAG,AAH,List.length_nil];omega
theorem RelO.isSome_eq(r:RelO o u):o.isSome=u.isSome:=by
 cases o with
 |none=>cases u with
  |none=>rfl
  |some _=>exact(show False from r).elim
 |some _=>cases u with
  |none=>exact(show False from r).elim
  |some _=>rfl
theorem KV.val{kvs:List (κ×V)}{vs:List (κ×Value)}(r:KV kvs vs)(k:κ):RelO (EY kvs k) (valueAt vs k):=by
 unfold KV at r
 induction r with
 |nil=>exact True.intro
 |@cons p q ps qs h t ih=>
  obtain⟨h1,h2⟩:=h;by_cases e:p.1=k
  ·have e':q.1=k:=h1.symm.trans e;have b:valueAt (q::qs) k=some q.2:=by simp[valueAt,List.find?_cons,e']
   rw[HF e,b];exact h2
  ·have e':¬q.1=k:=λz=>e (h1.trans z);have b:valueAt (q::qs) k=valueAt qs k:=by simp[valueAt,List.find?_cons,e']
   rw[HG e,b];exact ih
theorem KV.any(r:KV kvs vs)(k:κ):(kvs.any λkv=>decide (kv.1=k))=vs.any λkv=>decide (kv.1=k):=by
 unfold KV at r
 induction r with
 |nil=>rfl
 |cons h t ih=>rw[List.any_cons,List.any_cons,ih,h.1]
theorem KV.repl(r:KV kvs vs)(k:κ)(ry:RelV y u):
  KV (kvs.map λkv=>if kv.1=k then (kv.1,y) else kv) (vs.map λkv=>if kv.1=k then (kv.1,u) else kv):=by
 unfold KV at r ⊢
 induction r with
 |nil=>exact .nil
 |@cons p q ps qs h t ih=>
  rw[AAW,AAW];refine .cons ?_ ih;obtain⟨h1,h2⟩:=h;by_cases e:p.1=k
  ·rw[if_pos e,if_pos (h1.symm.trans e)];exact⟨h1,ry⟩
  ·rw[if_neg e,if_neg (λz=>e (h1.trans z))];exact⟨h1,h2⟩
theorem KV.put(r:KV kvs vs)(k:κ)(ry:RelV y u):KV (Fq kvs k y) (stored vs k u):=by
 unfold Fq stored;rw[r.any k];by_cases e:(vs.any λkv=>decide (kv.1=k))=true
 ·rw[if_pos e,if_pos e];exact r.repl k ry
 ·rw[if_neg e,if_neg e];exact Paired.snoc r ⟨rfl,ry⟩
theorem KV.drop(r:KV kvs vs)(k:κ):KV (Gi kvs k) (without vs k):=by
 unfold KV at r ⊢;unfold Gi without
 induction r with
 |nil=>exact .nil
 |@cons p q ps qs h t ih=>
  obtain⟨h1,h2⟩:=h;rw[List.filter_cons,List.filter_cons];by_cases e:p.1=k
  ·have a:¬decide (p.1≠k)=true:=by simp[e]
   have b:¬decide (q.1≠k)=true:=by simp[h1.symm.trans e]
   rw[if_neg a,if_neg b];exact ih
  ·have e':¬q.1=k:=λz=>e (h1.trans z);have a:decide (p.1≠k)=true:=by simp[e]
   have b:decide (q.1≠k)=true:=by simp[e']
   rw[if_pos a,if_pos b];exact .cons ⟨h1,h2⟩ ih
theorem KV.length(r:KV kvs vs):kvs.length=vs.length:=Paired.length r
theorem Rk(kvs:List (κ×V))(k:κ):(Gi kvs k).length<=kvs.length:=List.length_filter_le _ _
end
theorem LM(r:RelV (kV k) u):(Bl P w).is k u=true:=by
 cases k with
 |inl i=>obtain⟨t,e⟩:=(show ∃t,u=Value.int i t from r);subst e;exact LH P w i t
 |inr x=>obtain⟨t,e⟩:=(show ∃t,u=Value.str x t from r);subst e;exact LG P w x t
theorem JG:∀{ks:List Key} {us:List Value},Vals (ks.map kV) us->ItemsAre (Bl P w) ks us
 |[],_,r=>by rw[List.map_nil] at r;cases r;exact .nil
 |k::ks,_,r=>by
  rw[AAW] at r;cases r with
  |cons h t=>exact .cons (LM h) (JG t)
noncomputable abbrev KT(H:Hp):List (List Key×V)->List (List Key×Addr×Value)->Prop:=Paired λp q=>p.1=q.1/\H q.2.1=some (.tup (p.1.map kV))/\RelV p.2 q.2.2
theorem KT.val{H:Hp}{kvs:List (List Key×V)}{xs:List (List Key×Addr×Value)}(r:KT H kvs xs)(k:List Key):RelO (EY kvs k) ((atKey xs k).map (·.2)):=by
 induction r with
 |nil=>exact True.intro
 |@cons p q ps qs h t ih=>
  obtain⟨h1,_,h2⟩:=h;by_cases e:p.1=k
  ·have e':q.1=k:=h1.symm.trans e;have b:atKey (q::qs) k=some q.2:=by simp[atKey,List.find?_cons,e']
   rw[HF e,b];exact h2
  ·have e':¬q.1=k:=λz=>e (h1.trans z);have b:atKey (q::qs) k=atKey qs k:=by simp[atKey,List.find?_cons,e']
   rw[HG e,b];exact ih
theorem KT.repl(r:KT H kvs xs)(k:List Key)(ry:RelV y u):
  KT H (kvs.map λkv=>if kv.1=k then (kv.1,y) else kv) (xs.map (putAt k u)):=by
 induction r with
 |nil=>exact .nil
 |@cons p q ps qs h t ih=>
  rw[AAW,AAW];refine .cons ?_ ih;obtain⟨h1,h2,h3⟩:=h;unfold putAt;by_cases e:p.1=k
  ·rw[if_pos e,if_pos (h1.symm.trans e)];exact⟨h1,h2,ry⟩
  ·rw[if_neg e,if_neg (λz=>e (h1.trans z))];exact⟨h1,h2,h3⟩
theorem KT.put(r:KT H kvs xs)(k:List Key)(hb:H b=some (.tup (k.map kV)))(ry:RelV y u):
  KT H (Fq kvs k y) (storedH xs k b u):=by
 have e:(kvs.any λkv=>decide (kv.1=k))=(atKey xs k).isSome:=by
  rw[Kj,(r.val k).isSome_eq,Option.isSome_map]
 unfold Fq storedH;rw[e];by_cases q:(atKey xs k).isSome=true
 ·rw[if_pos q,if_pos q];exact r.repl k ry
 ·rw[if_neg q,if_neg q];exact Paired.snoc r ⟨rfl,hb,ry⟩
theorem KT.keeps(r:KT H kvs xs)(ht:∀b ys,H b=some (.tup ys)->H' b=some (.tup ys)):KT H' kvs xs:=
 Paired.mapP r λ_ _ z=>⟨z.1,ht _ _ z.2.1,z.2.2⟩
section
variable{P:Program}{w:World}{H:Hp}{h:Heap}{a:Addr}
theorem Uh(ok:HOk P w H h)(e:Rd H a u):ObjOk P w H h a u:=e.ok ok
theorem LX(ok:HOk P w H h)(e:Rd H a (.dK kvs)):kvs.length<=sizeLine/\(a==sysModules)=false/\∃vs,KV kvs vs/\h.DictOf (Bl P w) a vs:=
 show ObjOk P w H h a (.dK kvs) from Uh ok e
theorem U3(ok:HOk P w H h)(e:H a=some (.dK kvs)):kvs.length<=sizeLine/\(a==sysModules)=false/\∃vs,KV kvs vs/\h.DictOf (Bl P w) a vs:=LX ok (.inl e)
theorem KB(ok:HOk P w H h)(e:H a=some (.tup (ks.map kV))):(tupleKind (Bl P w)).is h ks a:=by
 obtain⟨_,its,r,o,h1,h2,n,h3⟩:=(show ObjOk P w H h a (.tup (ks.map kV)) from ok a _ e);exact⟨o,its.toArray,n,h1,h2,h3,by simpa using JG r⟩
theorem LW(ok:HOk P w H h)(e:Rd H a (.dT kvs)):kvs.length<=sizeLine/\(a==sysModules)=false /\
  ∃xs,KT H kvs xs/\h.DictOfH (tupleKind (Bl P w)) a xs:=by
 obtain⟨z,y,xs,r,o,es,ep,h1,h2,h3,h4,h5⟩:=(show ObjOk P w H h a (.dT kvs) from Uh ok e);refine⟨z,y,xs,r,o,es,ep,h1,h2,h3,h4,λx hx=>?_,h5⟩;have all:∀{l:List (List Key×V)} {m:List (List Key×Addr×Value)},KT H l m->∀x∈m,(tupleKind (Bl P w)).is h x.1 x.2.1:=by
  intro l m q
  induction q with
  |nil=>intro x hx;exact nomatch hx
  |@cons p q ps qs hq t ih=>
   intro x hx;rcases AAI.mp hx with e|hx
   ·subst e;exact KB ok (by rw[←hq.1];exact hq.2.1)
   ·exact ih x hx
 exact all r x hx
theorem YM(ok:HOk P w H h)(e:H a=some (.dT kvs)):kvs.length<=sizeLine/\(a==sysModules)=false /\
  ∃xs,KT H kvs xs/\h.DictOfH (tupleKind (Bl P w)) a xs:=LW ok (.inl e)
end
def DGet(H:Hp)(a:Addr)(y:V)(r:Option V):Prop:=
 (∃kvs k,Rd H a (.dK kvs)/\y=kV k/\r=EY kvs k)∨∃kvs k b,Rd H a (.dT kvs)/\y=.ref b/\H b=some (.tup (k.map kV))/\r=EY kvs k
def DPut(H:Hp)(a:Addr)(y v:V)(H':Hp):Prop:=
 (∃kvs k,H a=some (.dK kvs)/\y=kV k/\kvs.length<sizeLine/\H'=upd H a (.dK (Fq kvs k v))) ∨
 ∃kvs k b,H a=some (.dT kvs)/\y=.ref b/\H b=some (.tup (k.map kV))/\kvs.length<sizeLine/\H'=upd H a (.dT (Fq kvs k v))
theorem DGet.k{H:Hp}{a:Addr}{kvs:List (Key×V)}{k:Key}(e:H a=some (.dK kvs)):DGet H a (kV k) (EY kvs k):=.inl ⟨kvs,k,.inl e,rfl,rfl⟩
theorem DPut.k{H:Hp}{a:Addr}{kvs:List (Key×V)}{k:Key}{v:V}(e:H a=some (.dK kvs))(hl:kvs.length<sizeLine):DPut H a (kV k) v (upd H a (.dK (Fq kvs k v))):=.inl ⟨kvs,k,e,rfl,hl,rfl⟩
section
variable{X:Cx}{w4:List (Addr×Obj)}{O:St}{H:Hp}{s:Shared}{a:Addr}{y v:V}{u r:Value}{o:Option V}{A:Around}{E:Value->Shared->Prop}
theorem Inv.big(I:Inv X w4 O H s):sysModules<s.heap.objs.size:=by
 have h:mainGlobals<s.heap.objs.size:=(I.mod.glob.keeps I.bk).lt;exact Nat.lt_trans (by decide) h
theorem Ow(hu:A.units+1<cLine)(I:Inv X w4 O H s)(g:DGet H a y (some v))(ry:RelV y u)(h:∀w' s',Inv X w4 O H s'->RelV v w'->Q w' s'):
  wpAny (model X.prog X.w) A (getItem (.ref a) u) Q E s:=by
 rcases g with ⟨kvs,k,e,ey,l⟩|⟨kvs,k,b,e,ey,eb,l⟩
 ·subst ey;obtain⟨z,hd,vs,rel,dd⟩:=LX I.hok e;obtain⟨w',hw,rw'⟩:=RelO.some_of (v:=v) (o:=valueAt vs k) (by rw[l];exact rel.val k);exact wpAny_getItem_of (LM ry) dd.mapOf hw (h w' _ (I.tok _) rw')
 ·subst ey;cases (show u=Value.ref b from ry);obtain⟨z,hd,xs,rel,dd⟩:=LW I.hok e;obtain⟨w',hw,rw'⟩:=RelO.some_of (v:=v) (o:=(atKey xs k).map (·.2)) (by rw[l];exact rel.val k);obtain⟨p,hp,hp2⟩:=Option.map_eq_some_iff.mp hw;refine wpAny_getItem_heap (tupleKind_room_in1 hu) (KB I.hok eb) dd hp ?_;rw[hp2];exact h w' _ (I.tok _) rw'
theorem ZO(hu:A.units+1<cLine)(I:Inv X w4 O H s)(g:DGet H a y o)(ry:RelV y u)(h:∀s',Inv X w4 O H s'->Q (.bool o.isSome) s'):
  wpAny (model X.prog X.w) A (compareOp .In u (.ref a)) Q E s:=by
 rcases g with ⟨kvs,k,e,ey,l⟩|⟨kvs,k,b,e,ey,eb,l⟩
 ·subst ey;obtain⟨z,hd,vs,rel,dd⟩:=LX I.hok e;refine wpAny_in_of (LM ry) hd dd.mapOf ?_;rw[←(rel.val k).isSome_eq,←l];exact h _ (I.tok _)
 ·subst ey;cases (show u=Value.ref b from ry);obtain⟨z,hd,xs,rel,dd⟩:=LW I.hok e;refine wpAny_in_heap (tupleKind_room_in1 hu) (KB I.hok eb) hd dd ?_;have q:=(rel.val k).isSome_eq;rw[Option.isSome_map] at q;rw[←q,←l];exact h _ (I.tok _)
theorem FH(I:Inv X w4 O H s)(mu:Mut (H a))(hs:Heap.SameBut a s.heap h')(he:∃q,h'.get? a=some q)(new:ObjOk X.prog X.w (upd H a ob) h' a ob):
  Inv X w4 O (upd H a ob) { s with heap:=h',toks:=t' }:=
 I.write (x:=a) (e:=a) mu (.inl rfl) (λb q hb z=>(hs.2 b hb).trans z) he new
theorem Rl(z:kvs.length<=sizeLine)(hd:(a==sysModules)=false)(rel:KV kvs vs)(dd:h'.DictOf (Bl P w) a vs):
  ObjOk P w H' h' a (.dK kvs):=⟨z,hd,vs,rel,dd⟩
theorem Ov(hu:A.units+1<cLine)(I:Inv X w4 O H s)(g:DPut H a y v H')(ry:RelV y u)(rv:RelV v r)(h:∀s',Inv X w4 O H' s'->Q () s'):
  wpAny (model X.prog X.w) A (setItem (.ref a) u r) Q E s:=by
 rcases g with ⟨kvs,k,e,ey,l,eH⟩|⟨kvs,k,b,e,ey,eb,l,eH⟩
 ·subst ey eH;obtain⟨z,hd,vs,rel,dd⟩:=U3 I.hok e;have hz:vs.length<=sizeLine:=by rw[←rel.length];exact z
  have hl:(Fq kvs k v).length<=sizeLine:=by have:=Gc kvs k v;omega
  refine wpAny_setItem_pairs (hsz:=hz) (LM ry) dd λh' dd' hs=>h _ ?_;have he:∃q,h'.get? a=some q:=let ⟨q,_,_,hq,_⟩:=dd';⟨q,hq⟩
  exact FH I (by rw[e];exact True.intro) hs he (Rl hl hd (rel.put k rv) dd')
 ·subst ey eH;cases (show u=Value.ref b from ry);obtain⟨z,hd,xs,rel,dd⟩:=YM I.hok e;have hz:xs.length<=sizeLine:=by rw[←Paired.length rel];exact z
  have hl:(Fq kvs k v).length<=sizeLine:=by have:=Gc kvs k v;omega
  refine wpAny_setItem_heap (hsz:=hz) (tupleKind_room_in1 hu) (KB I.hok eb) dd λh' dd' hs=>h _ ?_;obtain⟨q,es,ep,hq,h2,h3,h4,_,h5⟩:=dd';refine FH I (by rw[e];exact True.intro) hs ⟨q,hq⟩ ⟨hl,hd,_,(rel.put k eb rv).keeps λc ys ec=>?_,q,es,ep,hq,h2,h3,h4,h5⟩;rw[AS (X7 ec e (λz=>nomatch z))];exact ec
end
section
variable{X:Cx}{w4:List (Addr×Obj)}{O:St}{H:Hp}{s:Shared}{a:Addr}{kvs:List (Key×V)}{k:Key}{u:Value}{A:Around}{E:Value->Shared->Prop}
theorem YS(I:Inv X w4 O H s)(e:H a=some (.dK kvs))(ry:RelV (kV k) u)(l:EY kvs k=some v)(hm:more=[]∨∃x,more=[x])
  (h:∀w' s',Inv X w4 O (upd H a (.dK (Gi kvs k))) s'->RelV v w'->Q w' s'):wpAny (model X.prog X.w) A (call (.builtin "dict.pop") (.ref a::u::more)) Q E s:=by
 obtain⟨z,hd,vs,rel,dd⟩:=U3 I.hok e;obtain⟨w',hw,rw'⟩:=RelO.some_of (v:=v) (o:=valueAt vs k) (by rw[←l];exact rel.val k);have hp:(keyPart u).isSome=true:=by
  cases k with
  |inl i=>obtain⟨t,q⟩:=(show ∃t,u=Value.int i t from ry);subst q;rfl
  |inr x=>obtain⟨t,q⟩:=(show ∃t,u=Value.str x t from ry);subst q;rfl
 have ha:argsOk "dict.pop" ⟨.ref a::u::more,[]⟩:=by
  rcases hm with q|⟨x,q⟩
  ·subst q;exact PySem.F.args_dict_pop_2 _ _
  ·subst q;exact PySem.F.args_dict_pop_3 _ _ _
 refine call_meetsIn PySem.F.slot_dict_pop dd.typeIs PySem.F.entry_dict_pop ha (meets_dict_pop_there (Bl X.prog X.w) a (LM ry) more hm hp)
  ⟨vs,w',dd,by rw[←rel.length];exact z,hw,λh' dd' hs=>h w' _ ?_ rw'⟩
 have he:∃q,h'.get? a=some q:=let ⟨q,_,_,hq,_⟩:=dd';⟨q,hq⟩
 exact FH I (by rw[e];exact True.intro) hs he (Rl (AAs (Rk kvs k) z) hd (rel.drop k) dd')
end
def UR(i:Expr):Prop:=∀ov iv,subscripted i false ov iv=operate [ov,iv] (getItem ov iv)
theorem M0{prog:Program}{w:World}{A:Around}{E:Value->Shared->Prop}{s:Shared}{env:Env}{value slice:Expr}{pos:Pos}{T id:String}{Q:Value->Shared->Prop}
  (hl:typeLookup (.type T) "__getitem__" = pure (some (.builtin id))) (hs:UR slice)
  (h:wpAny (model prog w) A (eval value env) (λo s₁=>wpAny (model prog w) A (eval slice env) (λi s₂=>s₂.TypeIs o T/\wpAny (model prog w) A (getItem o i) Q E s₂) E s₁) E s) :
  wpAny (model prog w) A (eval (.Subscript value slice pos) env) Q E s:=by
 refine Subscript_ (AAj h (λo s₁ h₁=>AAj h₁ (λi s₂ h₂=>?_) λ_ _ x=>x) λ_ _ x=>x);obtain⟨hT,h₂⟩:=h₂;unfold subscriptTail;refine AAA ?_;rw[getitemInPython_of_ne hT.not_modules];refine AAA (wpAny_specialOf hT hl ?_);have fin:wpAny (model prog w) A (subscripted slice false o i) (λr s₃=>wpAny (model prog w) A (letTemporaryGo value o r >>= λ_=>pure r) Q E s₃) E s₂:=by
  rw[hs o i];exact wpAny_operating (AAj h₂ (λr s₃ h₃=>AAA (wpAny_letTemporaryGo (AAB h₃))) λ_ _ x=>x)
 first
  |exact AAB (AAA fin)
  |exact AAA (AAB (AAA fin))
  |exact AAA fin
theorem LZ(I:Inv X w4 O H s)(g:DGet H a y o):s.TypeIs (.ref a) "dict" := by
 rcases g with ⟨kvs,k,e,_,_⟩|⟨kvs,k,b,e,_,_,_⟩
 ·obtain⟨_,_,vs,_,dd⟩:=LX I.hok e;exact dd.typeIs
 ·obtain⟨_,_,xs,_,dd⟩:=LW I.hok e;exact dd.typeIs
noncomputable def XO(td ty:TE):TE:=λO H Q=>td O H λx H1=>ty O H1 λy H2=>∃a v,x=.ref a/\DGet H2 a y (some v)/\Q v H2
noncomputable def XN(ty td:TE):TE:=λO H Q=>ty O H λy H1=>td O H1 λx H2=>∃a o,x=.ref a/\DGet H2 a y o/\Q (.bl o.isSome) H2
noncomputable def XX(td ty tv:TE):TS:=λD O H=>tv O H λv H1=>td O H1 λx H2=>ty O H2 λy H3=>∃a H4,x=.ref a/\DPut H3 a y v H4/\D.nx O H4
section
variable{X:Cx}{o i value:Expr}{pos pos':Pos}{td ty tv:TE}
theorem Th(hu:X.A.units+1<cLine)(ho:PE X o td)(hi:PE X i ty)(hs:UR i):PE X (.Subscript o i pos) (XO td ty):=by
 intro w4 s O H Q I h;refine M0 PySem.F.slot_dict_getitem.lookup hs (thn (ho w4 s O H _ I h) λu s1 ⟨x,H1,I1,rx,q1⟩=>thn (hi w4 s1 O H1 _ I1 q1) λiv s2 zq=>?_);obtain⟨y,H2,I2,ry,a,v,ex,g,q2⟩:=zq;subst ex;obtain rfl:u=Value.ref a:=rx;exact⟨LZ I2 g,Ow hu I2 g ry λw' s3 I3 rw'=>⟨v,H2,I3,rw',q2⟩⟩
theorem V2(hu:X.A.units+1<cLine)(hi:PE X i ty)(ho:PE X o td):PC X .In i o (XN ty td):=by
 intro w4 s O H Q I h;refine thn (hi w4 s O H _ I h) λiv s1 ⟨y,H1,I1,ry,q1⟩=>thn (ho w4 s1 O H1 _ I1 q1) λu s2 zq=>?_;obtain⟨x,H2,I2,rx,a,ov,ex,g,q2⟩:=zq;subst ex;obtain rfl:u=Value.ref a:=rx;exact ZO hu I2 g ry λs3 I3=>⟨.bl ov.isSome,H2,I3,rfl,q2⟩
theorem Ta(hu:X.A.units+1<cLine)(ho:PE X o td)(hi:PE X i ty)(hv:PE X value tv)(hs:swapsWith value (some (.Subscript o i pos')) pos.line X.env=pure false):
  PS X (.Assign [.Subscript o i pos'] value pos) (XX td ty tv):=by
 intro w4 s O H D I h;refine wpAny_Assign_Subscript (thn (hv w4 s O H _ I h) λr s1 ⟨v,H1,I1,rv,q1⟩=>thn (ho w4 s1 O H1 _ I1 q1) λu s2 ⟨x,H2,I2,rx,q2⟩=>thn (hi w4 s2 O H2 _ I2 q2) λiv s3 zq=>?_) hs;obtain⟨y,H3,I3,ry,a,H4,ex,g,q3⟩:=zq;subst ex;obtain rfl:u=Value.ref a:=rx;exact Ov hu I3 g ry rv λs4 I4=>⟨O,H4,I4,q3⟩
end
theorem Rm(h:Heap)(hb:sysModules<h.objs.size):ObjOk P w H (h.push { cls:=.type "dict",data:=.dict #[] }) h.objs.size (.dK []):=
 ⟨AAk _,AAf.mpr (Ne.symm (AAe hb)),[],.nil,Heap.DictOf.new h⟩
noncomputable def VU:TE:=λ_ H Q=>∀p,H p=none->Q (.ref p) (upd H p (.dK []))
section
variable{X:Cx}{pos:Pos}
theorem Qd:PE X (.Dict [] [] pos) VU:=λw4 s O H Q I h=>
 wpAny_Dict_empty ⟨.ref s.heap.objs.size,_,I.laid (a:=s.heap.objs.size) (o:=.dK []) (t':=s.toks) (λ_ _ q=>AAC _ q) (AAE _) (Rm s.heap I.big),rfl,h _ (I.hok.fresh (AAE _))⟩
end
structure M1(X:Cx)(o:Expr)(m:Str)(apos:Pos)(e:Expr)(cpos:Pos):Prop where
 base:attributeBase o m X.env (eval o X.env)=eval o X.env
 few:((backTo cpos (starEach [e] X.env)).all (λx=>!x.1)&&(backToKw cpos (keywordEach [] X.env)).all (λx=>x.1.isSome)
  && decide (([e]:List Expr).length+([]:List Keyword).length+(if ([]:List Keyword).isEmpty then 0 else 1)<30))=true
 line:(apos.endLine==cpos.line)=true
 trees:backTo cpos (starEach [e] X.env)=[(false,eval e X.env)]
def IsD(H:Hp)(a:Addr):Prop:=(∃kvs,Rd H a (.dK kvs))∨∃kvs,Rd H a (.dT kvs)
theorem WX(I:Inv X w4 O H s)(d:IsD H a):
  s.TypeIs (.ref a) "dict" /\ (∀b,Value.ref a=.ref b->∃ob,s.heap.get? b=some ob/\ob.dict=none)/\(a==sysModules)=false:=by
 rcases d with ⟨kvs,e⟩|⟨kvs,e⟩
 ·obtain⟨_,hd,vs,_,dd⟩:=LX I.hok e;refine⟨dd.typeIs,λb q=>?_,hd⟩;cases q;obtain⟨ob,_,_,h1,h2,_⟩:=dd;exact⟨ob,h1,h2.2.1⟩
 ·obtain⟨_,hd,xs,_,dd⟩:=LW I.hok e;refine⟨dd.typeIs,λb q=>?_,hd⟩;cases q;obtain⟨ob,_,_,h1,h2,_⟩:=dd;exact⟨ob,h1,h2.2.1⟩
noncomputable def VT(td ty:TE):TE:=λO H Q=>td O H λx H1=>∃a,x=.ref a/\IsD H1 a/\ty O H1 λy H2=>∃kvs k v,H2 a=some (.dK kvs)/\y=kV k/\EY kvs k=some v/\Q v (upd H2 a (.dK (Gi kvs k)))
section
variable{X:Cx}{o e:Expr}{apos cpos:Pos}{td ty:TE}
theorem Qb(ho:PE X o td)(he:PE X e ty)(m:M1 X o "pop" apos e cpos):PE X (.Call (.Attribute o "pop" apos) [e] [] cpos) (VT td ty):=by
 intro w4 s O H Q I h;refine wpAny_Call_method m.base m.few m.line PySem.F.plainAttrs_dict PySem.F.slot_dict_pop PySem.F.type_dict_pop (thn (ho w4 s O H _ I h) λu s1 zq=>?_);obtain⟨x,H1,I1,rx,a,ex,d,q1⟩:=zq;subst ex;obtain rfl:u=Value.ref a:=rx;obtain⟨t1,t2,_⟩:=WX I1 d;refine⟨t1,t2,?_⟩;rw[m.trees];refine Calls.callWith_builtin rfl (Calls.evalArgs_plain (Calls.spliced_cons (thn (he w4 s1 O H1 _ I1 q1) λiv s2 ⟨y,H2,I2,ry,kvs,k,v,ea,ey,l,q2⟩=>Calls.spliced_nil ?_)));subst ey;exact YS I2 ea ry l (.inl rfl) λw' s3 I3 rw'=>⟨v,_,I3,rw',q2⟩
end
end L2
namespace Att
open PySem PySem.W PySem.Calls PyProof.Rows
theorem Gr:∀(ns:List Int) (vs:List Value),WellAll P h vs (ns.map WData.int)->IntsAre vs ns:=by
 intro ns
 induction ns with
 |nil=>
  intro vs w;rw[List.map_nil] at w;cases w;exact .nil
 |cons n ns ih=>
  intro vs w;rw[AAW] at w;cases w with
  |cons a b=>
   cases a;exact .cons _ _ (ih _ b)
theorem OL{l:OpenLaw}{n:Nat}(hn:l.most=some n){P:Params}{h:Heap}{args:List WData}{vals:List Value}
  (hpre:l.row.toRowW.claim.pre args=true) (hwl:WellAll P h vals args) :
  ∃a vs ns,vals=[Value.ref a]/\args=[WData.list (ns.map WData.int)]/\h.get? a=some { cls:=.type "list",data:=.seq vs.toArray }/\IntsAre vs ns/\ns.length<=n:=by
 have hsh:WShape.hasAll [] args [.list .int]=true:=(pre_splitW hpre).1;have hc:l.pre.holds [] { args:=args }=true:=(pre_splitW hpre).2;obtain⟨d,r,rfl,h1,h2⟩:=hasAllW_cons hsh;obtain rfl:=hasAllW_nil h2;obtain⟨xs,rfl,h3⟩:=hasW_list h1;obtain⟨ns,rfl⟩:=items_int h3;have hlen:ns.length<=n:=by
  unfold OpenLaw.pre at hc;have h4:(WTm.not (.lt (.lit (.int (n:Int))) (.len (.arg 0)))).holds [] { args:=[.list (ns.map .int)] }=true:=by
   have h4:=(holds_andW hc).1;rw[hn] at h4;exact h4
  have h5:=condW_of h4 (w_not (w_lt w_lit (w_len_list (w_arg rfl))));rw[AAF] at h5;refine Nat.le_of_not_lt λq=>?_;have q':(n:Int)<((ns.length:Nat):Int):=by omega
  first
   |(rw[AAO q'] at h5;exact absurd h5 (by decide))
   |(simp at h5;omega)
 cases hwl with
 |cons w1 w2=>
  cases w2;cases w1 with
  |list ho hall=>exact⟨_,_,ns,rfl,rfl,ho,Gr ns _ hall,hlen⟩
theorem OS(l:OpenLaw)(args:List WData):l.row.toRowW.claim.post args (.bool true) args=true:=
 postW_of (r:=l.row.toRowW) (X:=(true==true))
  (show WShape.has [] (.bool true) .bool=true by first|rfl|decide|simp[WShape.has,WShape.arms,WShape.armsAll])
  (show (WTm.eq .res (.lit (.bool true))).value [] { args:=args,res:=some (.bool true),after:=args }=some (.bool (true==true)) from w_eq_bool (w_res rfl) w_lit) rfl
theorem Li{l:OpenLaw}{n:Nat}{q:Program}{loose:List Str}{XP:(Str->Option Value)->Heap->Prop}{YP:World->Heap->Prop}{d:DefRec}
  (hn:l.most=some n) (hdf:d.params.defaults=[])
  (call:∀(w:World) (s₀ s₁:Shared) (mg mb:Str->Option Value) (fa:Addr) (o:Obj) (pm cd doc:Value) (a:Addr) (vs:List Value) (ns:List Int),
   Ground q loose [] XP w s₀ mg mb s₁.heap->YP w s₁.heap->
   s₁.heap.get? fa=some o->o.data=.func (docDef d.name d.params d.body d.scope pm cd doc)->s₁.heap.CodeRec cd d.name->mg d.name=some (.ref fa)->
   s₁.heap.get? a=some { cls:=.type "list",data:=.seq vs.toArray }->IntsAre vs ns->ns.length<=n->s₁.gens=#[]->
   codeAny (model l.prog w) callerA (.call (.ref fa) ⟨[.ref a],[]⟩) (λr s'=>r=.ok (.ret (.bool true))/\OldK s₁.heap s'.heap/\s'.os=s₁.os/\AllBare s'.gens) s₁) :
  WalkO q loose XP YP l.row.toRowW d [] (λf vs=>PySem.call f vs):=by
 intro w s₀ s₁ mg mb G Y_ fa o pm cd doc dV kV ho hd hcd hD hmg hg args vals as hpre hlay hrd hwl hlo;obtain rfl:dV=.none:=Dflts.none hD hdf;obtain rfl:kV=.none:=Dflts.noKw hD;obtain⟨a,vs,ns,rfl,rfl,hobj,hints,hlen⟩:=OL hn hpre hwl;refine enter_call (codeAny_mono (call w s₀ s₁ mg mb fa o pm cd doc a vs ns G Y_ ho (fd_plain hd) hcd hmg hobj hints hlen hg) λr s' hq=>?_);obtain⟨rfl,h2,h3,h4⟩:=hq;exact⟨.inl ⟨.bool true,.bool true,[],rfl,λ_=>rfl,.bool true,OS l _,λ_=>⟨List.Pairwise.nil,λ_ hm=>(nomatch hm)⟩⟩,h2,h3,h4⟩
end Att
namespace L2
open PySem PySem.Spec PyProof.Rows
theorem GB:∀{vs:List Value} {ns:List Int},IntsAre vs ns->Vals (ns.map V.int) vs
 |_,_,.nil=>.nil
 |_,_,.cons n t h=>.cons ⟨t,rfl⟩ (GB h)
def UQ(H:Hp):Prop:=∀b,H b=none∨∃o xs,H b=some (.frz o (.lst xs))
theorem Q5{P:Program}{w:World}{K:PySem.W.Frag}{mg mb:Str->Option Value}{CX:CXT}{k:Nat}{fa a:Addr}{fd:FuncData}{x:Str}{sp:Sp}{s₁:Shared}{vs:List Value}{ns:List Int}
  (KX:K.In s₁.heap) (hns:s₁.heap.Ns mainGlobals mg) (hb:s₁.heap.Ns builtinsNs mb) (hbb:∀x:Str,x ≠ "__name__" -> mb x=bootBuiltins x) (hlim:s₁.heap.NoLimit) (hg:s₁.gens=#[])
  (ha:s₁.heap.get? a=some { cls:=.type "list",data:=.seq vs.toArray }) (hi:IntsAre vs ns) (hl:ns.length<=sizeLine) (hr:Room k callerA)
  (F:∀base:Heap,K.In base->base.Ns mainGlobals mg->FnOk P w K mg base CX k fa fd [x] sp) (hbind:∀(s:Shared) (u:Value),BindsTo s fd ⟨[u],[]⟩ [(x,u)])
  (hsp:∀H:Hp,UQ H->SqL K H a (ns.map V.int)->sp [.ref a] H (λv _=>v=.bl true) λ_ _ _=>False)
  (hCX:∀H e s',CX [] H s₁ (λ_ _ _=>False) e s'->False) :
  codeAny (model P w) callerA (.call (.ref fa) ⟨[.ref a],[]⟩) (λr s'=>r=.ok (.ret (.bool true))/\OldK s₁.heap s'.heap/\s'.os=s₁.os/\AllBare s'.gens) s₁:=by
 have rv:=GB hi;have lenV:=hi.length;have core:∀H:Hp,UQ H->SqL K H a (ns.map V.int)->HOk P w H s₁.heap->(∀b,H b≠none->b=a)->(H a≠none->K.lookup a=none)->
   codeAny (model P w) callerA (.call (.ref fa) ⟨[.ref a],[]⟩) (λr s'=>r=.ok (.ret (.bool true))/\OldK s₁.heap s'.heap/\s'.os=s₁.os/\AllBare s'.gens) s₁:=by
  intro H hO hS hok hA hK;have base_of:∀{b:Addr} {o:Obj},s₁.heap.get? b=some o->H b=none->(KI s₁.heap H).get? b=some o:=λe n=>RM e n;have noA:∀{b:Addr} {o:Obj} {es:Array DictEntry} {ep:Nat},s₁.heap.get? b=some o->o.data=.dict es ep->H b=none:=λ{b o es ep} e d=>by
   cases q:H b with
   |none=>rfl
   |some u=>
    have e':b=a:=hA b (by rw[q];simp);subst e';rw[ha] at e;cases e;have d':Data.seq vs.toArray _=Data.dict es ep:=d;cases d'
  have nsK:∀{b:Addr} {m:Str->Option Value},s₁.heap.Ns b m->(KI s₁.heap H).Ns b m:=λ{b m} ⟨o,es,ep,e,d,r⟩=>⟨o,es,ep,base_of e (noA e d),d,r⟩;have hKb:K.In (KI s₁.heap H):=λb o e=>base_of (KX b o e) (by
   cases q:H b with
   |none=>rfl
   |some u=>
    have e':b=a:=hA b (by rw[q];simp);subst e';rw[hK (by rw[q];simp)] at e;cases e)
  have hM:Mod K mg (KI s₁.heap H):=⟨hKb,nsK hns,⟨mb,nsK hb,hbb⟩,let ⟨mc,h1,h2⟩:=hlim;⟨mc,nsK h1,h2⟩⟩;have e0:US P w K mg (KI s₁.heap H) callerA [] s₁ H:=⟨rfl,hM,λb o e=>Tt e,Nat.le_of_eq (Ol _ _),trivial,λb hb=>absurd (show b∈([]:List Addr) from hb) (by simp),hok,.of_eq hg⟩;refine codeAny_mono ((F _ hKb (nsK hns)).run callerA [] s₁ H ⟨[.ref a],[]⟩ [.ref a] [.ref a] _ _ hr e0 (hbind s₁ (.ref a)) (.cons rfl .nil) (hsp H hO hS)) λr s' h=>?_;cases r with
  |error e=>exact(hCX H e s' h).elim
  |ok fl=>
   cases fl with
   |next=>exact False.elim h
   |brk=>exact False.elim h
   |cont=>exact False.elim h
   |ret u=>
    obtain⟨v,H',os,bare,un,hok',r',q⟩:=h;have q':v=.bl true:=q;subst q';obtain rfl:u=Value.bool true:=r';refine⟨rfl,OldK.of_keep λb o e=>?_,os,bare⟩;cases q:H b with
    |none=>exact un.keep b o e q (by intro z;exact absurd (show b∈([]:List Addr) from z) (by simp)) (by simp)
    |some u=>
     rcases hO b with z|⟨ob,xs,z⟩
     ·rw[q] at z;cases z
     ·have z2:=un.frzs b ob _ z;obtain⟨e1,_⟩:=hok b _ z;obtain⟨e2,_⟩:=hok' b _ z2;rw[e] at e1;cases e1;exact e2
 cases hk:K.lookup a with
 |some o=>
  have e:=KX a o hk;rw[ha] at e;cases e;refine core (λ_=>none) (λ_=>.inl rfl) (.inr ⟨_,vs.toArray,_,hk,rfl,rfl,rfl,by rw[List.size_toArray,lenV];exact hl,by simpa using rv⟩) (λb u z=>by have z':(none:Option HO)=some u:=z;cases z') (λb z=>absurd rfl z) λz=>absurd rfl z
 |none=>
  refine core (λb=>if b=a then some (.frz { cls:=.type "list",data:=.seq vs.toArray } (.lst (ns.map V.int))) else none) (λb=>?_) (.inl (.inr ⟨{ cls:=.type "list",data:=.seq vs.toArray },if_pos rfl⟩)) (λb u z=>?_) (λb z=>?_) λ_=>hk
  ·by_cases hb:b=a
   ·exact .inr ⟨_,_,if_pos hb⟩
   ·exact .inl (if_neg hb)
  ·by_cases hb:b=a
   ·have z':=(if_pos hb).symm.trans z;cases z';subst hb;exact⟨ha,by rw[AAF];exact hl,vs,_,rv,ha⟩
   ·have z':=(if_neg hb).symm.trans z;cases z'
  ·by_cases hb:b=a
   ·exact hb
   ·exact absurd (if_neg hb) z
theorem Sn{l:PySem.W.OpenLaw}{n k:Nat}{q:Program}{loose:List Str}{XP:(Str->Option Value)->Heap->Prop}{YP:World->Heap->Prop}{d:DefRec}{K:Params->PySem.W.Frag}{CX:World->CXT}{sp:World->Sp}{x:Str}
  (hn:l.most=some n) (hn2:n<=sizeLine) (hdf:d.params.defaults=[]) (hr:Room k callerA)
  (hY:∀(w:World) (h:Heap),YP w h->(K w.params).In h)
  (F:∀(w:World) (mg:Str->Option Value) (fa:Addr) (h:Heap),(K w.params).In h->h.Ns mainGlobals mg->mg d.name=some (.ref fa)->
   ∃fd:FuncData,(∀(s:Shared) (u:Value),BindsTo s fd ⟨[u],[]⟩ [(x,u)]) /\
    ∀base:Heap,(K w.params).In base->base.Ns mainGlobals mg->FnOk l.prog w (K w.params) mg base (CX w) k fa fd [x] (sp w))
  (hsp:∀(w:World) (H:Hp) (a:Addr) (ns:List Int),ns.length<=n->UQ H->SqL (K w.params) H a (ns.map V.int)->sp w [.ref a] H (λv _=>v=.bl true) λ_ _ _=>False)
  (hCX:∀(w:World) (H:Hp) (s:Shared) (e:Value) (s':Shared),CX w [] H s (λ_ _ _=>False) e s'->False) :
  PySem.W.WalkO q loose XP YP l.row.toRowW d [] (λf vs=>PySem.call f vs):=by
 refine Att.Li hn hdf λw s₀ s₁ mg mb fa o pm cd doc a vs ns G Y_ ho hd hcd hmg hobj hints hlen hg=>?_;have KX:=hY w _ Y_;obtain⟨fd,hb,hF⟩:=F w mg fa _ KX G.T.g hmg;exact Q5 KX G.T.g G.T.b G.T.builtins G.T.nolimit hg hobj hints (AAs hlen hn2) hr hF hb (λH hO hS=>hsp w H a ns hlen hO hS) λH e s'=>hCX w H s₁ e s'
noncomputable def F1(s:Stmt):Arguments:=match s with
 | .FunctionDef _ a _ _ _ _ _ _ _ _=>a
 |_=>{ posonlyargs:=[],args:=[],vararg:=none,kwonlyargs:=[],kw_defaults:=[],kwarg:=none,defaults:=[] }
noncomputable def CM(s:Stmt):List Stmt:=match s with
 | .FunctionDef _ _ b _ _ _ _ _ _ _=>b
 |_=>[]
noncomputable def AQ(s:Stmt):Scope:=match s with
 | .FunctionDef _ _ _ _ _ _ sc _ _ _=>sc
 |_=>{ kind:=.function,names:=[],isGenerator:=false,isCoroutine:=false }
noncomputable abbrev CX0:CXT:=λ_ _ _ _ _ _=>False
noncomputable abbrev E0:XK:=λ_ _ _=>False
theorem Xu:Mj CX0 X E0:=λ_ _ _ _ _ _ _ h=>h.elim
structure Fun(K:PySem.W.Frag)(x qual:Str)(st:Stmt)(f:Addr)(fd:FuncData):Prop where
 ex:∃(oc:Value) (od:Option Addr) (kV doc pm:Value) (an:Option Addr) (cdv ct:Value) (osl:Array (Option Value)),
  fd=PySem.W.fnOf x qual (F1 st) (CM st) (AQ st) .none kV doc pm an cdv ct/\K.lookup f=some ⟨oc,od,.func fd,osl⟩/\PySem.W.codeIn K cdv qual=true
 kp:PySem.W.keepIn K (.ref f)=true
section
variable{P:Program}{w:World}{K:PySem.W.Frag}{mg:Str->Option Value}{base:Heap}
theorem Fun.ok{x qual:Str}{st:Stmt}{f:Addr}{fd:FuncData}{N ps:List Str}{k:Nat}{sp:Sp}(F:Fun K x qual st f fd)(S:Ac N ps (AQ st))(len:∀vs H Q E,sp vs H Q E->vs.length=ps.length)
  (hbody:∀(cdv:Value) (A:Around) (outer:List Env) (s:Shared) (H:Hp) (vs:List V) (Q:VK) (E:XK),Room k (A.deeper (envOfC qual (AQ st) s.heap.objs.size f cdv))->sp vs H Q E->
   ∃t,PSs (GT CX0 P w K mg base N qual (AQ st) f cdv A outer s H E).nox (CM st) t/\t { nx:=λ_ H'=>Q .non H',rt:=Q } (start N vs) H):FnOk P w K mg base CX0 (k+1) f fd ps sp:=by
 obtain⟨oc,od,kV,doc,pm,an,cdv,ct,osl,rfl,lk,hcd⟩:=F.ex;refine YL lk hcd S len λA outer s H vs Q E hr hsp=>?_;obtain⟨t,h,q⟩:=hbody cdv A outer s H vs Q E hr hsp;exact⟨t,h.nox,q⟩
theorem Fun.binds{x qual:Str}{st:Stmt}{f:Addr}{fd:FuncData}{ps:List Str}(F:Fun K x qual st f fd)
  (h:∀(kV doc pm:Value) (an:Option Addr) (cdv ct:Value) (us:List Value),us.length=ps.length->bindArgs (PySem.W.fnOf x qual (F1 st) (CM st) (AQ st) .none kV doc pm an cdv ct) ⟨us,[]⟩=pure (ps.zip us)):Binds K fd ps []:=by
 obtain⟨oc,od,kV,doc,pm,an,cdv,ct,osl,rfl,lk,hcd⟩:=F.ex;exact .all (h kV doc pm an cdv ct)
theorem Wf{x qual:Str}{st:Stmt}{f:Addr}{oc:Value}{od an:Option Addr}{osl:Array (Option Value)}{kV doc pm cdv ct:Value}(l:K.lookup f=some ⟨oc,od,.func (PySem.W.fnOf x qual (F1 st) (CM st) (AQ st) .none kV doc pm an cdv ct),osl⟩)
  (c:PySem.W.codeIn K cdv qual=true) (k:PySem.W.keepIn K (.ref f)=true):Fun K x qual st f (PySem.W.fnOf x qual (F1 st) (CM st) (AQ st) .none kV doc pm an cdv ct):=⟨⟨oc,od,kV,doc,pm,an,cdv,ct,osl,rfl,l,c⟩,k⟩
end
theorem RL(hr:Room k A):A.units+1<cLine:=AAr (Nat.add_le_add_left (by decide:1<=64) _) hr.units
section
variable{κ:Type}[DecidableEq κ]
end
noncomputable def E8(env:Env):List (Str×NameKind)->List (Str×Addr)->List (Str×Addr)
 |[],cs=>cs
 |(n,k)::r,cs=>E8 env r (if k==.free then (match env.cells.lookup n with|some c=>(n,c)::cs|none=>cs) else cs)
theorem DM:∀(l:List (Str×NameKind)) (cs:List (Str×Addr)),(∀x∈l,x.2=.free->∃c,env.cells.lookup x.1=some c)->
  (forIn l cs λ(x:Str×NameKind) (r:List (Str×Addr))=>(if (x.2==NameKind.free)=true then (do let a ←cellOf env x.1;pure (ForInStep.yield ((x.1,a)::r))) else pure (ForInStep.yield r):Sem (ForInStep (List (Str×Addr)))))=pure (E8 env l cs)
 |[],cs,_=>by rw[List.forIn_nil];rfl
 |(n,k)::r,cs,h=>by
  have hr:∀x∈r,x.2=.free->∃c,env.cells.lookup x.1=some c:=λx hx=>h x (AAQ _ hx);rw[List.forIn_cons];by_cases hk:k=.free
  ·subst hk;obtain⟨c,hc⟩:=h (n,.free) AAP rfl;have e:cellOf env n=pure c:=by unfold cellOf;rw[hc]
   dsimp only;rw[if_pos (by decide),e,pure_bind,pure_bind];dsimp only;rw[DM r _ hr];show _=pure (E8 env r (if (NameKind.free==NameKind.free)=true then (match env.cells.lookup n with|some c=>(n,c)::cs|none=>cs) else cs));rw[if_pos (by decide),hc]
  ·have hb:¬(k==NameKind.free)=true:=by simpa using hk
   dsimp only;rw[if_neg hb,pure_bind];dsimp only;rw[DM r _ hr];show _=pure (E8 env r (if (k==NameKind.free)=true then (match env.cells.lookup n with|some c=>(n,c)::cs|none=>cs) else cs));rw[if_neg hb]
theorem D8(h:∀x∈scope.names,x.2=.free->∃c,env.cells.lookup x.1=some c):closureFor scope env=pure (E8 env scope.names []):=by
 have e:=DM (env:=env) scope.names [] h;unfold closureFor;dsimp only;rw[←bind_pure (pure (E8 env scope.names [])),←e]
theorem E7:∀(l:List (Str×NameKind)) (cs:List (Str×Addr)),(∀x c,cs.lookup x=some c->env.cells.lookup x=some c)->∀x c,(E8 env l cs).lookup x=some c->env.cells.lookup x=some c
 |[],cs,h=>h
 |(n,k)::r,cs,h=>by
  refine E7 r _ ?_;intro x c;by_cases hk:(k==NameKind.free)=true
  ·rw[if_pos hk];cases hl:env.cells.lookup n with
   |none=>exact h x c
   |some d=>
    intro q;by_cases hx:x=n
    ·subst hx;rw[List.lookup_cons_self] at q;rw[hl];exact q
    ·have hb:(x==n)=false:=AAf.mpr hx;simp only[List.lookup_cons,hb] at q;exact h x c q
  ·rw[if_neg hk];exact h x c
theorem IG:∀(l:List (Str×NameKind)) (cs:List (Str×Addr)) (x:Str),(cs.lookup x).isSome=true->((E8 env l cs).lookup x).isSome=true
 |[],cs,x,h=>h
 |(n,k)::r,cs,x,h=>by
  refine IG r _ x ?_;by_cases hk:(k==NameKind.free)=true
  ·rw[if_pos hk];cases hl:env.cells.lookup n with
   |none=>exact h
   |some d=>
    by_cases hx:(x==n)=true
    ·simp only[List.lookup_cons,hx,Option.isSome_some]
    ·have hb:(x==n)=false:=by simpa using hx
     simp only[List.lookup_cons,hb];exact h
  ·rw[if_neg hk];exact h
theorem Lc:∀(l:List (Str×NameKind)) (cs:List (Str×Addr)) (x:Str) (c:Addr),(x,NameKind.free)∈l->env.cells.lookup x=some c->((E8 env l cs).lookup x).isSome=true
 |[],cs,x,c,h,_=>by simp at h
 |(n,k)::r,cs,x,c,h,hc=>by
  rcases AAI.mp h with e|e
  ·obtain⟨rfl,rfl⟩:=Prod.mk.inj e;refine IG r _ _ ?_;rw[if_pos (by decide),hc];simp only[List.lookup_cons_self,Option.isSome_some]
  ·exact Lc r _ x c e hc
theorem JP(h:(x,NameKind.free)∈l)(hc:env.cells.lookup x=some c):(E8 env l []).lookup x=some c:=by
 obtain⟨d,hd⟩:=Option.isSome_iff_exists.mp (Lc l [] x c h hc);have:=E7 l [] (λ_ _ z=>by simp at z) x d hd;rw[hc] at this;cases this;exact hd
noncomputable def Ce:List (Str×NameKind)->List Str
 |[]=>[]
 |(n,.free)::r=>n::Ce r
 |_::r=>Ce r
theorem FX:∀{l:List (Str×NameKind)},x∈Ce l->(x,NameKind.free)∈l
 |[],h=>by simp[Ce] at h
 |(n,k)::r,h=>by
  cases k<;>first
   |(rcases AAI.mp (show x∈n::Ce r from h) with e|e;{subst e;exact AAP};{exact AAQ _ (FX e)})
   |exact AAQ _ (FX (show x∈Ce r from h))
theorem JI:∀{l:List (Str×NameKind)},(x,NameKind.free)∈l->x∈Ce l
 |[],h=>by simp at h
 |(n,k)::r,h=>by
  rcases AAI.mp h with e|e
  ·cases e;exact AAP
  ·have ih:=JI e;cases k<;>first
    |exact AAQ _ ih
    |exact ih
theorem Eu(f:Str×NameKind->Str×NameKind)(hf:∀p,f p=p∨p.2=.free/\f p=(p.1,.cell)):∀(l:List (Str×NameKind)) (k:NameKind),(l.map f).lookup x=some k->l.lookup x=some k∨l.lookup x=some .free/\k=.cell
 |[],_,h=>nomatch h
 |(y,j)::l,k,h=>by
  have rest:=Eu (x:=x) f hf l k;rw[AAW] at h;rcases hf (y,j) with e|⟨ej,e⟩<;>rw[e] at h<;>cases he:x==y<;>simp only[List.lookup_cons,he] at h ⊢
  ·exact rest h
  ·exact .inl h
  ·exact rest h
  ·cases h;cases (show j=NameKind.free from ej);exact .inr ⟨rfl,rfl⟩
theorem DX(h:(relabel scope env).names.lookup x=some k):scope.names.lookup x=some k∨scope.names.lookup x=some .free/\k=.cell:=by
 unfold relabel at h;refine Eu _ (λp=>?_) _ _ h;obtain⟨n,j⟩:=p;dsimp only;split
 ·rename_i hc;refine .inr ⟨?_,rfl⟩;simp only[Bool.and_eq_true,beq_iff_eq] at hc;exact hc.1.1
 ·exact .inl rfl
noncomputable def Ix(ix:List Nat)(O:St):St:=ix.map λj=>(O[j]?).getD none
noncomputable def cxB(X:Cx)(scope:Scope)(tgs:List Str)(fp:List Addr)(C:Addr)(s:Shared)(H:Hp):Cx:=
 { X with N:=tgs++Ce scope.names,s₀:=s,H₀:=H,env:=compEnvC scope (E8 X.env scope.names []) C X.env,outer:=X.stack,ex:=fp,fn:=λ_=>false,pn:=[],xe:=λ_ _=>False }
noncomputable def W2{α:Type}(P:α->Prop):List α->Prop
 |[]=>True
 |x::r=>P x/\W2 P r
theorem IP:∀{l:List α},W2 P l->∀x∈l,P x
 |[],_,_,h=>by simp at h
 |_::_,h,x,hx=>by
  rcases AAI.mp hx with e|e
  ·subst e;exact h.1
  ·exact IP h.2 x e
structure BScope(X:Cx)(scope:Scope)(tgs:List Str)(ix:List Nat):Prop where
 kind:scope.kind=.function
 nocell:∀y∈scope.names,y.2≠.cell
 loc:∀y∈scope.names,y.2=.local->scope.names.lookup y.1=some .local
 fre:W2 (λx=>X.env.kindOf x=some .cell∨X.env.kindOf x=some .free) (Ce scope.names)
 ixs:(Ce scope.names).map some=ix.map λj=>X.N[j]?
 ndl:∀x∈Ce scope.names,scope.names.lookup x=some .free
section
variable{X:Cx}{scope:Scope}{tgs:List Str}{ix:List Nat}
theorem BScope.cells(S:BScope X scope tgs ix)(ok:X.Ok):∀x∈scope.names,x.2=.free->∃c,X.env.cells.lookup x.1=some c:=λx hx hk=>by
 obtain⟨n,k⟩:=x;subst hk;exact ok.has n (IP S.fre n (JI hx))
theorem Inv.cellLt(I:Inv X w4 O H s)(e:X.env.cells.lookup x=some c):c<s.heap.objs.size:=by
 obtain⟨v,q⟩:=I.cell x c e;exact q.lt
theorem Inv.track(I:Inv X w4 O H s)(f:F8 X w4 H D)(new:ObjOk X.prog X.w (upd H D o) s.heap D o):Inv X w4 O (upd H D o) s:=by
 obtain⟨f0,f1,f2,f3,f4,f5⟩:=f;have nD:∀b u,H b=some u->b≠D:=λb u e z=>by rw[z,f0] at e;cases e
 have:=I.step (h':=s.heap) (H':=upd H D o) (g':=s.gens) (t':=s.toks) (d':=s.drawn) (ch:=[D]) (λb hb=>?_) (λb u _ _ _ e _=>e) (λb u _ _ _ e _=>⟨u.slots,e⟩) (λb u hb e n=>?_) (λb u _ e=>⟨u,e⟩)
  (λb xs e=>?_) (λb u v e=>?_) (λb ps e=>?_) (λm hm=>hm) (λb u e=>?_) I.bare
 ·exact this
 ·have e:b=D:=by simpa using hb
  subst e;exact⟨f3,f1,f4,f5⟩
 ·rw[AS (λz=>hb (by simp[z]))];exact n
 ·rw[AS (nD b _ e)];exact e
 ·rw[AS (nD b _ e)];exact e
 ·exact⟨#[],by rw[AS (nD b _ e),e];simp⟩
 ·by_cases hb:b=D
  ·subst hb;rw[Bw] at e;cases e;exact new
  ·rw[AS hb] at e;exact(I.hok b u e).stay (λ_ _ _ q=>q) (λc q=>by rw[AS (nD c _ q)];exact q) λc xs q=>by rw[AS (nD c _ q)];exact q
theorem Rs(S:BScope X scope tgs ix)(I:Inv X w4 O H s)(hf:∀b∈fp,F8 X w4 H b)(hfo:∀b∈fp,b<s.heap.objs.size)(hC:s.heap.objs.size<=C):
  (cxB X scope tgs fp C s H).Ok:=by
 have sub:∀x c,(E8 X.env scope.names []).lookup x=some c->X.env.cells.lookup x=some c:=E7 scope.names [] (λ_ _ z=>by simp at z);refine⟨I.ok.mod,S.kind,I.ok.glob,I.ok.blt,hC,λx y c h1 h2=>I.ok.inj x y c (sub x c h1) (sub y c h2),λx hx=>?_,λx c h=>absurd h (by simp[cxB]),I.ok.hd,I.ok.frames,.inl rfl,λb hb=>⟨?_,λx c e=>?_⟩,λb o e=>I.bs b o e,
  AAs I.ok.bsz I.sz,λb o e hb=>?_,λb hb hz=>?_,I.stack,I.stkFree⟩
 ·have hx':(relabel scope X.env).names.lookup x=some .cell∨(relabel scope X.env).names.lookup x=some .free:=hx;have hm:(x,NameKind.free)∈scope.names:=by
   rcases hx' with h|h
   ·rcases DX h with q|q
    ·exact absurd rfl (S.nocell _ (PySem.mem_of_lookup q))
    ·exact PySem.mem_of_lookup q.1
   ·rcases DX h with q|q
    ·exact PySem.mem_of_lookup q
    ·exact absurd q.2 (by decide)
  obtain⟨c,hc⟩:=S.cells I.ok _ hm rfl;exact⟨c,JP hm hc⟩
 ·exact λz=>absurd (hfo b hb) (by rw[z];exact Nat.not_lt.mpr hC)
 ·exact(hf b hb).2.2.2.2.1 x c (sub x c e)
 ·obtain⟨f0,f1,f2,f3,f4,f5⟩:=hf b hb;rcases f3 with z|z
  ·exact I.ok.noex b o e z
  ·exact absurd (Heap.lt_size (I.ok.bs b o e).1) (Nat.not_lt.mpr z)
 ·obtain⟨f0,f1,f2,f3,f4,f5⟩:=hf b hb;rcases AAI.mp (I.stkSub b hz) with z|z
  ·exact f1 z
  ·exact f2 z
end
section
variable{X:Cx}{scope:Scope}{tgs:List Str}{ix:List Nat}
noncomputable abbrev C1(tgs:List Str)(ix:List Nat)(O:St):St:=List.replicate tgs.length none++Ix ix O
theorem HQ(h:(C1 tgs ix O)[k]?=some (some v)):tgs.length<=k/\∃j,ix[k-tgs.length]?=some j/\O[j]?=some (some v):=by
 have hk:tgs.length<=k:=by
  rcases Nat.lt_or_ge k tgs.length with z|z
  ·rw[AAS (by simpa using z),List.getElem?_replicate,if_pos z] at h;cases h
  ·exact z
 refine⟨hk,?_⟩;rw[AAR (by simpa using hk),AAn] at h;unfold Ix at h;rw[AAV] at h;cases e:ix[k-tgs.length]? with
 |none=>rw[e] at h;cases h
 |some j=>
  rw[e] at h;refine⟨j,rfl,?_⟩;have h':(O[j]?).getD none=some v:=Option.some.inj h;cases q:O[j]? with
  |none=>rw[q] at h';cases h'
  |some o=>
   rw[q] at h';have h'':o=some v:=h';rw[h'']
theorem MR(S:BScope X scope tgs ix)(I:Inv X w4 O H s)(hf:∀b∈fp,F8 X w4 H b)(hfo:∀b∈fp,b<s.heap.objs.size)
  (hC:s.heap.objs.size<=C) (hD:s.heap.objs.size<=D) (hDC:D≠C) {m:Str->Option Value} (hn:s4.heap.Ns C m) (hk:∀b u,s.heap.get? b=some u->s4.heap.get? b=some u) (hos:s4.os=s.os) (hg:s4.gens=s.gens)
  (hDo:s4.heap.get? D=some o) (hcell:∀v,o.data≠.cell v):Inv (cxB X scope tgs fp C s H) [(D,o)] (C1 tgs ix O) H s4:=by
 have ok:=Rs (tgs:=tgs) (ix:=ix) (C:=C) S I hf hfo hC;have sub:∀x c,(E8 X.env scope.names []).lookup x=some c->X.env.cells.lookup x=some c:=E7 scope.names [] (λ_ _ z=>by simp at z);refine⟨ok,hos,by rw[hg];exact I.bare,Un.kept hk,⟨m,hn,λk x v h1 h2 h3=>?_⟩,λx c e=>?_,I.hok.fresh hC,λx c e=>I.freeC x c (sub x c e),λp hp=>?_,I.hok.kept hk,?_⟩
 ·obtain⟨hkl,j,hj,hσ⟩:=HQ h2;have h1':(Ce scope.names)[k-tgs.length]?=some x:=by
   have:(tgs++Ce scope.names)[k]?=some x:=h1
   rwa [AAR hkl] at this
  have hx:x∈Ce scope.names:=AAU h1';have hXN:X.N[j]?=some x:=by
   have e:=congrArg (λl=>l[k-tgs.length]?) S.ixs;simp only[AAV,h1',hj,Option.map_some] at e;exact(Option.some.inj e).symm
  have kx:=IP S.fre x hx;obtain⟨m0,hn0,hl⟩:=I.loc;obtain⟨u,r,l⟩:=hl j x v hXN hσ (by rcases kx with z|z;exact .inr (.inl z);exact .inr (.inr z));refine⟨u,r,?_⟩;rcases l with ⟨z,_⟩|⟨_,c,hc,q⟩
  ·rcases kx with y|y<;>rw[z] at y<;>cases y
  ·refine .inr ⟨?_,c,JP (FX hx) hc,?_⟩
   ·have h3':(relabel scope X.env).names.lookup x=some .local∨(relabel scope X.env).names.lookup x=some .cell∨(relabel scope X.env).names.lookup x=some .free:=h3;rcases h3' with z|z|z
    ·exfalso;rcases DX z with w|w
     ·have lk:scope.names.lookup x=some .local:=w;have:=S.ndl x hx;rw[lk] at this;cases this
     ·exact absurd w.2 (by decide)
    ·exact .inl z
    ·exact .inr z
   ·obtain⟨oc,hoc,hd⟩:=q;exact⟨oc,hk c oc hoc,hd⟩
 ·obtain⟨v,oc,hoc,hd⟩:=I.cell x c (sub x c e);exact⟨v,oc,hk c oc hoc,hd⟩
 ·have e:p=(D,o):=by simpa[cxB] using hp
  subst e;refine⟨hDo,I.hok.fresh hD,hDC,λhz=>?_,hcell⟩;have hz':D∈frs X.stack:=hz;rcases AAI.mp (I.stkSub D hz') with z|z
  ·exact absurd I.lt (by rw[←z];exact Nat.not_lt.mpr hD)
  ·exact I.nofs hD z
 ·show (List.replicate tgs.length none++Ix ix O).length=(tgs++Ce scope.names).length;have e:=congrArg List.length S.ixs;simp only[AAF] at e;rw[AAG,AAG,AAn,e];unfold Ix;rw[AAF]
def GK(n:Nat)(g:TG):Prop:=∀x O H Q,g x O H Q->g x O H λu4 H2=>Q u4 H2/\u4.length=O.length/\u4.drop n=O.drop n
theorem UB(h:i<n):GK n (Gh i):=λx O H Q q=>⟨q,by simp,by rw[List.drop_set_of_lt h]⟩
def Yk(tgs:List Str)(ix:List Nat)(g:TG)(tc:TT)(te:TE)(O:St)(Q:VK)(J:It)(H1:Hp):Prop:=∃W:Nat->Nat->List V->Hp->Prop,(∃m,W 0 m [] H1)/\∀i m ys H,W i m ys H->
 (J.stop i H/\ys.length<=sizeLine/\∀p,H p=none->Q (.ref p) (upd H p (.lst ys))) ∨
 (J.go i H/\ys.length<sizeLine/\∃N:List V->Hp->Prop,(∀ys' H',N ys' H'->∃m',m'<m/\W (i+1) m' ys' H')/\∀x H',J.yld i H x H'->g x (C1 tgs ix O) H' λu4 H2=>tc u4 H2 λb H3=>
  if b=true then te u4 H3 λv H4=>N (ys++[v]) H4 else N ys H3)
noncomputable def Po(tgs:List Str)(ix:List Nat)(wi:TI)(g:TG)(tc:TT)(te:TE):TE:=λO H Q=>wi O H λJ H1=>Yk tgs ix g tc te O Q J H1
theorem MZ(h:wpAny M A t Q (λ_ _=>False) s)(hQ:∀a s,Q a s->Q' a s):wpAny M A t Q' E s:=AAj h hQ λ_ _ x=>x.elim
end
section
variable{X:Cx}{scope:Scope}{tgs:List Str}{ix:List Nat}
noncomputable abbrev J7(its:List Value)(k:Nat):Obj:={ cls:=.type "list",data:=.seq its.toArray k }
theorem UT{fp:List Addr}{C:Addr}{s0:Shared}{H0:Hp}{w4:List (Addr×Obj)}{O u7:St}{H:Hp}{s:Shared}(I:Inv (cxB X scope tgs fp C s0 H0) w4 u7 H s)(l6:u7.length=(C1 tgs ix O).length)
  (d6:u7.drop tgs.length=(C1 tgs ix O).drop tgs.length):Inv (cxB X scope tgs fp C s0 H0) w4 (C1 tgs ix O) H s:=by
 refine I.weak l6.symm λk v e=>?_;obtain⟨hk,_⟩:=HQ e;have e1:u7[k]?=(u7.drop tgs.length)[k-tgs.length]?:=by rw[List.getElem?_drop];congr 1;omega
 have e2:(C1 tgs ix O)[k]?=((C1 tgs ix O).drop tgs.length)[k-tgs.length]?:=by rw[List.getElem?_drop];congr 1;omega
 rw[e1,d6,←e2];exact e
end
section
variable{X:Cx}
theorem Lg:CU X (.builtin "isinstance") (λxs H Q=>∃x T t b,xs=[x,.ty T]/\F7 X.K H x t/\PySem.W.kitOne X.K t (.type T)=some b/\Q (.bl b) H):=by
 intro w4 s O H xs us Q I r h;obtain⟨x,T,t,b,rfl,ty,e,q⟩:=h;obtain⟨u,w',rfl,rx,ry⟩:=W7 r;cases ry;exact Og I rx ty e λtk=>⟨.bl b,H,I.tok tk,rfl,q⟩
end
mutual
inductive DatV (K:PySem.W.Frag) (H:Hp):V->PyData->Prop
 |non:DatV K H .non .none
 |bl (b:Bool):DatV K H (.bl b) (.bool b)
 |int (i:Int):DatV K H (.int i) (.int i)
 |str (x:Str):DatV K H (.str x) (.str x)
 |tup {a:Addr} {xs:List V} {ds:List PyData}:SqT K H a xs->DatVs K H xs ds->DatV K H (.ref a) (.tuple ds)
 |lst {a:Addr} {xs:List V} {ds:List PyData}:SqL K H a xs->DatVs K H xs ds->DatV K H (.ref a) (.list ds)
inductive DatVs (K:PySem.W.Frag) (H:Hp):List V->List PyData->Prop
 |nil:DatVs K H [] []
 |cons {v:V} {d:PyData} {vs:List V} {ds:List PyData}:DatV K H v d->DatVs K H vs ds->DatVs K H (v::vs) (d::ds)
end
section
variable{X:Cx}{w4:List (Addr×Obj)}{O:St}{H:Hp}{s:Shared}
mutual
theorem DatV.reads(I:Inv X w4 O H s):∀{v:V} {d:PyData},DatV X.K H v d->∀{u:Value},RelV v u->∃as,Reads s.heap u d as
 |_,_,.non,_,r=>by cases r;exact⟨[],.none⟩
 |_,_,.bl b,_,r=>by cases r;exact⟨[],.bool b⟩
 |_,_,.int i,_,r=>by obtain⟨t,rfl⟩:=r;exact⟨[],.int i t⟩
 |_,_,.str x,_,r=>by obtain⟨t,rfl⟩:=r;exact⟨[],.str x t⟩
 |_,_,.tup hq hs,_,r=>by
  cases r;obtain⟨its,rv,⟨o,e,c,n,d⟩,_⟩:=I.tuple hq;obtain⟨as,ra⟩:=DatVs.reads I hs rv;exact⟨_,.tuple e c d (by simpa using ra)⟩
 |_,_,.lst hq hs,_,r=>by
  cases r;obtain⟨its,rv,⟨o,n,e,c,_,d⟩,_⟩:=I.list hq;obtain⟨as,ra⟩:=DatVs.reads I hs rv;exact⟨_,.list e c d (by simpa using ra)⟩
theorem DatVs.reads(I:Inv X w4 O H s):∀{vs:List V} {ds:List PyData},DatVs X.K H vs ds->∀{us:List Value},Vals vs us->∃as,ReadsAll s.heap us ds as
 |_,_,.nil,_,.nil=>⟨[],.nil⟩
 |_,_,.cons h t,_,.cons r rr=>by
  obtain⟨a,ra⟩:=DatV.reads I h r;obtain⟨b,rb⟩:=DatVs.reads I t rr;exact⟨_,.cons ra rb⟩
end
end
section
variable{X:Cx}
theorem WB(hu:X.A.units+64<cLine):OpR X (compareOp .Eq) (λx y H Q=>∃d d',DatV X.K H x d/\DatV X.K H y d'/\SeqAt.shaped d=true/\SeqAt.shaped d'=true/\Q (.bl (PyData.eqv d d')) H):=by
 intro w4 s O H x y v u Q I rx ry h;obtain⟨d,d',h1,h2,s1,s2,q⟩:=h;obtain⟨as,ra⟩:=h1.reads I rx;obtain⟨bs,rb⟩:=h2.reads I ry;exact SeqAt.compareEq_shaped ra rb s1 s2 hu ⟨.bl _,H,I,rfl,q⟩
theorem V7(hu:X.A.units+64<cLine):OpR X (compareOp .NotEq) (λx y H Q=>∃d d',DatV X.K H x d/\DatV X.K H y d'/\SeqAt.shaped d=true/\SeqAt.shaped d'=true/\Q (.bl (!PyData.eqv d d')) H):=by
 intro w4 s O H x y v u Q I rx ry h;obtain⟨d,d',h1,h2,s1,s2,q⟩:=h;obtain⟨as,ra⟩:=h1.reads I rx;obtain⟨bs,rb⟩:=h2.reads I ry;exact SeqAt.compareNe_shaped ra rb s1 s2 hu ⟨.bl _,H,I,rfl,q⟩
theorem P4(hr:Room k A):A.units+64<cLine:=hr.units
end
theorem Inv.turnedL{X:Cx}{w4:List (Addr×Obj)}{O:St}{H:Hp}{t':Nat}{ch:List Addr}(I:Inv X w4 O H s)(k:∀b o,b∉ch->s.heap.get? b=some o->h'.get? b=some o)(hf:∀b∈ch,F8 X w4 H b):Inv X w4 O H { s with heap:=h',toks:=t' }:=by
 have nit:∀b u,H b=some u->b∉ch:=λb u e z=>by rw[(hf b z).1] at e;cases e
 refine I.step (g':=s.gens) (d':=s.drawn) (ch:=ch) (λb hb=>⟨(hf b hb).2.2.2.1,(hf b hb).2.1,(hf b hb).2.2.2.2.1,(hf b hb).2.2.2.2.2⟩) (λb o _ _ hc e _=>k b o hc e) (λb o _ _ hc e _=>⟨o.slots,k b o hc e⟩) (λ_ _ _ _ n=>n)
  (λb o hc e=>⟨o,k b o hc e⟩) (λ_ _ e=>e) (λ_ _ _ e=>e) (λb ps e=>⟨#[],by rw[e];simp⟩) (λm hm=>?_) (λb u e=>?_) I.bare
 ·obtain⟨o,es,ep,ho,r⟩:=hm;exact⟨o,es,ep,k _ o (λz=>(hf _ z).2.1 rfl) ho,r⟩
 ·refine(I.hok b u e).stay (λc v hc q=>k c v ?_ q) (λ_ q=>q) λ_ _ q=>q;rcases hc with z|z
  ·rw[z];exact nit b u e
  ·exact nit c _ z
noncomputable def ItP(K:PySem.W.Frag)(n:Nat)(src:Nat->List V)(Cond:PySem.W.Frag->Hp->Prop):It:=
 ⟨λi H=>i<n/\Cond K H,λi H v H'=>∃T,H T=none/\v=.ref T/\H'=upd H T (.tup (src i)),λi H=>i=n/\Cond K H⟩
theorem HI{P:Program}{w:World}{K:PySem.W.Frag}{es:List Expr}{k0:Nat}{pos:Pos}{I0:Addr}{Y:Type}{fp wr:List Addr}{n:Nat}{src:Nat->List V}{good:Y->Prop}{Pt:Y->Nat->Array Value->Prop}{Sw:Y->Nat->Heap->Prop}{Mid:Y->Nat->Addr->Heap->Prop}{tn:Nat->Heap->Prop}{Cond:PySem.W.Frag->Hp->Prop}
  (W:∀A:Around,A.handled=none->∀z,good z->WalksT P w A I0 fp wr n (Pt z) (Sw z) (Mid z)) (hmem:I0∈wr) (hPt:∀z i vals,good z->Pt z i vals->Vals (src i) vals.toList) (hlen:∀i,(src i).length<=sizeLine)
  (obj:∀i h,tn i h->∀b∈wr,∃o,h.get? b=some o/\∀v,o.data≠.cell v)
  (keep:∀i h h',tn i h->(∀b∈wr,∀o,h.get? b=some o->h'.get? b=some o)->tn i h')
  (into:∀(X:Cx) (w4:List (Addr×Obj)) (O:St) (H:Hp) (s:Shared) (i:Nat),X.prog=P->X.w=w->X.K=K->Inv X w4 O H s->Cond K H->tn i s.heap->∃z,good z/\Sw z i s.heap) (out:∀z i h,Sw z i h->tn i h)
  (self:∀(A:Around) (i:Nat) (s:Shared) (Q:Value->Shared->Prop) (E:Value->Shared->Prop),tn i s.heap->Q (.ref I0) s->wpAny (model P w) A (pyIter (.ref I0)) Q E s) :
  Lp P w K (.Tuple es k0 pos) (ItP K n src Cond) wr I0 tn where
 mem:=hmem
 obj:=obj
 keep:=keep
 item:=by
  intro X hP hw hK hc i w4 s O H E I hf st hg;obtain⟨hi,hcond⟩:=hg;obtain⟨z,gz,sz⟩:=into X w4 O H s i hP hw hK I hcond st;have W':=W X.A (I.ok.hd hc) z gz;refine W'.item i s _ _ hi sz λT vals h' tk hp hT ht hm kk=>⟨_,rfl,?_⟩;have I1:Inv X w4 O H { s with heap:=h',toks:=tk }:=I.turnedL kk hf;refine W'.go es k0 pos i T _ _ _ hm λh2 st2 kk2=>?_;have I2:Inv X w4 O H { s with heap:=h2,toks:=tk }:=I1.turnedL (t':=tk) kk2 hf;have hn:H T=none:=I.hok.fresh hT;have ht2:IsTup h2 T vals:=by
   obtain⟨o,e,r⟩:=ht;exact⟨o,kk2 T o (W'.apart i T _ hm) e,r⟩
  refine⟨.ref T,upd H T (.tup (src i)),I2.track (I.fpOk hT hn) ⟨hlen i,vals.toList,hPt z i vals gz hp,by simpa using ht2⟩,rfl,⟨T,hn,rfl,rfl⟩,out z _ _ st2,λb hb=>?_⟩;have hbT:b≠T:=λz=>W'.apart i T _ hm (by rw[←z];exact hb);rw[AS hbT];exact(hf b hb).1
 done:=by
  intro X hP hw hK hc i w4 s O H E I hf st hg;obtain⟨hi,hcond⟩:=hg;subst hi;obtain⟨z,gz,sz⟩:=into X w4 O H s i hP hw hK I hcond st;exact(W X.A (I.ok.hd hc) z gz).done s _ _ sz λh' tk kk=>⟨rfl,I.turnedL kk hf⟩
 self:=self
noncomputable def Ey(xs:List V)(i:Nat):List V:=[.int i,xs.getD i .non]
theorem IE(r:Vals xs its)(h:∃t x,its.toArray[i]?=some x/\vals=#[.int i t,x]):Vals (Ey xs i) vals.toList:=by
 obtain⟨t,x,hx,rfl⟩:=h;have hx':its[i]?=some x:=by simpa using hx
 have hlt:i<its.length:=(AAT.mp hx').1;have hl:=r.length;have hv:xs[i]?=some (xs.getD i .non):=by
  rw[AAt (by omega)];simp[List.getD,show i<xs.length by omega]
 obtain⟨u,hu,ru⟩:=r.get hv;rw[hx'] at hu;cases hu;exact .cons ⟨t,rfl⟩ (.cons ru .nil)
theorem Nv{P:Program}{w:World}{f:Nat->Heap->Prop}(A:Around)(i:Nat)(s:Shared)(Q:Value->Shared->Prop)(E:Value->Shared->Prop)(st:(∃old,IsEnum s.heap e it i old)/\f i s.heap)(h:Q (.ref e) s):wpAny (model P w) A (pyIter (.ref e)) Q E s:=by
 obtain⟨⟨old,he⟩,_⟩:=st;exact wpAny_pyIter_enum he h
theorem Ri(he:∃old,IsEnum h e it i old)(ho:h.get? it=some o)(hd:∃vs,o.data=.fields vs):∀b∈[e,it],∃o,h.get? b=some o/\∀v,o.data≠.cell v:=λb hb=>by
 rcases AAI.mp hb with z|z
 ·subst z;obtain⟨old,he⟩:=he;exact⟨_,he,λv q=>by cases q⟩
 ·rw[AAK.mp z];obtain⟨vs,hd⟩:=hd;exact⟨o,ho,λv q=>by rw[hd] at q;cases q⟩
theorem L0{P:Program}{w:World}{K:PySem.W.Frag}{k0:Nat}{pos:Pos}(a e it:Addr)(xs:List V)(hei:e≠it)(hea:e≠a)(hai:a≠it):
  Lp P w K (.Tuple es k0 pos) (ItP K xs.length (Ey xs) λK H=>SqL K H a xs) [e,it] e (λi h=>(∃old,IsEnum h e it i old)/\h.IsListIter it a i):=
 HI (Y:=List Value) (good:=λits=>Vals xs its) (Pt:=λits i vals=>∃t x,its.toArray[i]?=some x/\vals=#[.int i t,x]) (Sw:=λits i h=>(∃old,IsEnum h e it i old)/\h.IsListIter it a i/\h.IsList a its.toArray)
  (λA hA its r=>by
   have hl:xs.length=its.toArray.size:=by rw[List.size_toArray];exact r.length
   rw[hl];exact WalksT.enumerateD (Draws.list (show A.in1.handled=none from hA) it a hai its.toArray) e hei (by simp[hei,hea]) (by simp))
  (by simp) (λits i vals r h=>IE r h) (λi=>(by show 2<=sizeLine;decide))
  (λi h st=>by obtain⟨o,ho,_,hd⟩:=st.2;exact Ri st.1 ho ⟨_,hd⟩)
  (λi h h' st k=>⟨by obtain⟨old,q⟩:=st.1;exact⟨old,k e (by simp) _ q⟩,st.2.at λo q=>k it (by simp) o q⟩)
  (λX w4 O H s i hP hw hK I hc st=>by
   subst hK;obtain⟨its,r,p,_⟩:=I.list hc;exact⟨its,r,st.1,st.2,p.isList⟩)
  (λz i h st=>⟨st.1,st.2.1⟩) (λA i s Q E st h=>Nv (f:=λi h=>h.IsListIter it a i) A i s Q E st h)
end L2
namespace L2
open PySem PySem.Spec PyProof.Rows
open AutoSeq1 (wpAny_loadPart')
section
variable{X:Cx}{es:List Expr}{k0:Nat}{tpos:Pos}
noncomputable def Wc(K:PySem.W.Frag)(ta:TA):TI:=λO H R=>ta O H λvs H1=>∃a xs,vs=[.ref a]/\SqL K H1 a xs/\R (ItP K xs.length (Ey xs) λK H=>SqL K H a xs) H1
theorem JS:bootBuiltins "enumerate" = some (.type "enumerate"):=by decide +kernel
theorem Pf{w4:List (Addr×Obj)}{O:St}{H:Hp}{s:Shared}(I:Inv X w4 O H s):∀b∈[s.heap.objs.size+1,s.heap.objs.size],F8 X w4 H b:=λb hb=>by
 have hb':b=s.heap.objs.size+1∨b=s.heap.objs.size:=by simpa using hb
 rcases hb' with e|e<;>subst e
 ·exact I.fpOk (Nat.le_succ _) (I.hok.fresh (Nat.le_succ _))
 ·exact I.fpOk (AAE _) (I.hok.fresh (AAE _))
theorem QX{a:Expr}{ta:TA}{p pos:Pos}(hg:Gl X "enumerate")(hm:X.mg "enumerate" = none)(ha:PA X [a] ta)(hs:starEach [a] X.env=[(false,eval a X.env)]:=by rfl):PI X (.Tuple es k0 tpos) (.Call (.Name "enumerate" p) [a] [] pos) (Wc X.K ta):=by
 intro w4 s O H R I h;refine Call_ (GI I hg hm JS (PyProof.Rows.callWith_type1 (thn (ha pos w4 s O H _ I h) λus s1 ⟨vs,H1,I1,r1,q1⟩=>?_) hs rfl));obtain⟨l,xs,e,hq,q⟩:=q1;subst e;obtain⟨u,rfl,ru⟩:=Eb r1;cases ru;obtain⟨its,rv,pl,hz⟩:=I1.list hq;have hlt:l<s1.heap.objs.size:=by obtain⟨o,n,e,_⟩:=pl;exact Heap.lt_size e
 refine call_enumerate_list pl.isList λh' he hit hsz kk=>wpAny_pyIter_enum he ?_;exact⟨s1.heap.objs.size+1,[s1.heap.objs.size+1,s1.heap.objs.size],_,_,H1,rfl,I1.kept (t':=s1.toks) kk,L0 l _ _ xs (Nat.succ_ne_self _) (Nat.ne_of_gt (AAi hlt)) (AAe hlt),⟨⟨_,he⟩,hit⟩,Pf I1,q⟩
end
end L2
namespace L2
open PySem PySem.Spec PyProof.Rows
end L2
namespace Nk
open PySem PySem.Spec PyProof.Rows
inductive NK where
 |int (i:Int)|tup (ks:List NK)
noncomputable instance:DecidableEq NK:=λ_ _=>Classical.propDecidable _
mutual
def NK.deep:NK->Nat
 | .int _=>0
 | .tup ks=>NK.deeps ks+1
def NK.deeps:List NK->Nat
 |[]=>0
 |k::ks=>max (NK.deep k) (NK.deeps ks)
end
mutual
def NK.hash:NK->Int
 | .int i=>hashInt i
 | .tup ks=>reduceHash (Builtin.Tuple.tupleHashOf (NK.hashes ks))
def NK.hashes:List NK->List Int
 |[]=>[]
 |k::ks=>NK.hash k::NK.hashes ks
end
mutual
def NK.draws:NK->Nat
 | .int _=>1
 | .tup ks=>NK.drawsL ks+1
def NK.drawsL:List NK->Nat
 |[]=>0
 |k::ks=>NK.draws k+NK.drawsL ks
end
mutual
def At(h:Heap):NK->Value->Prop
 | .int i,v=>∃t,v=.int i t
 | .tup ks,v=>∃a o items n,v=.ref a/\h.get? a=some o/\o.cls=.type "tuple" /\ o.data=.seq items n/\Ats h ks items.toList
def Ats(h:Heap):List NK->List Value->Prop
 |[],vs=>vs=[]
 |k::ks,vs=>∃v vs',vs=v::vs'/\At h k v/\Ats h ks vs'
end
mutual
theorem At.inj:∀{k j:NK} {v:Value},At h k v->At h j v->k=j
 | .int i,.int j,v,a,b=>by
  unfold At at a b;obtain⟨t,rfl⟩:=a;obtain⟨u,e⟩:=b;injection e with e1 _
  rw[e1]
 | .int i,.tup js,v,a,b=>by
  unfold At at a b;obtain⟨t,rfl⟩:=a;obtain⟨_,_,_,_,e,_⟩:=b;cases e
 | .tup ks,.int j,v,a,b=>by
  unfold At at a b;obtain⟨t,rfl⟩:=b;obtain⟨_,_,_,_,e,_⟩:=a;cases e
 | .tup ks,.tup js,v,a,b=>by
  unfold At at a b;obtain⟨x,o,items,n,rfl,h1,_,h3,h4⟩:=a;obtain⟨x',o',items',n',e,h1',_,h3',h4'⟩:=b;cases e;rw[h1] at h1';cases h1';rw[h3] at h3';cases h3';rw[Ats.inj h4 h4']
theorem Ats.inj:∀{ks js:List NK} {vs:List Value},Ats h ks vs->Ats h js vs->ks=js
 |[],[],_,_,_=>rfl
 |[],_::_,vs,a,b=>by
  unfold Ats at a b;subst a;obtain⟨_,_,e,_⟩:=b;cases e
 |_::_,[],vs,a,b=>by
  unfold Ats at a b;subst b;obtain⟨_,_,e,_⟩:=a;cases e
 |k::ks,j::js,vs,a,b=>by
  unfold Ats at a b;obtain⟨v,vs',rfl,a1,a2⟩:=a;obtain⟨v',vs'',e,b1,b2⟩:=b;cases e;rw[At.inj a1 b1,Ats.inj a2 b2]
end
mutual
theorem At.kept:∀{k:NK} {v:Value},At h k v->(∀a o items n,h.get? a=some o->o.cls=.type "tuple" -> o.data=.seq items n->h'.get? a=some o)->At h' k v
 | .int i,v,a,_=>by unfold At at a ⊢;exact a
 | .tup ks,v,a,kp=>by
  unfold At at a ⊢;obtain⟨x,o,items,n,rfl,h1,h2,h3,h4⟩:=a;exact⟨x,o,items,n,rfl,kp x o items n h1 h2 h3,h2,h3,Ats.kept h4 kp⟩
theorem Ats.kept:∀{ks:List NK} {vs:List Value},Ats h ks vs->(∀a o items n,h.get? a=some o->o.cls=.type "tuple" -> o.data=.seq items n->h'.get? a=some o)->Ats h' ks vs
 |[],vs,a,_=>by unfold Ats at a ⊢;exact a
 |k::ks,vs,a,kp=>by
  unfold Ats at a ⊢;obtain⟨v,vs',rfl,a1,a2⟩:=a;exact⟨v,vs',rfl,At.kept a1 kp,Ats.kept a2 kp⟩
end
section
variable{prog:Program}{w:World}{A:Around}{E:Value->Shared->Prop}{s:Shared}
theorem hash_tup(hu:A.units<cLine)(ho:s.heap.get? a=some o)(hc:o.cls=.type "tuple")(hd:o.data=.seq items n)
  (each:∀(P:Array Int->Shared->Prop),P hs.toArray { s with toks:=s.toks+d }->wpAny (model prog w) A.in1 (forIn items.toList (#[]:Array Int) λx r=>do let y ←pyHash x;pure (ForInStep.yield (r.push y))) P E s)
  (q:Q (reduceHash (Builtin.Tuple.tupleHashOf hs)) { s with toks:=s.toks+(d+1) }):wpAny (model prog w) A (pyHash (.ref a)) Q E s:=by
 have hT:s.TypeIs (.ref a) "tuple" := ⟨o,ho,hc⟩;show wpAny _ _ (pyHashByItsType (.ref a)) Q E s;unfold pyHashByItsType;refine AAA (wpAny_cRoomFor_or (.inr hu) (AAA (wpAny_specialOf hT PySem.F.slot_tuple_hash.lookup ?_)));rw[if_neg (by rw[beq_builtin_none];exact AAh)];refine AAA (wpAny_specialOf hT PySem.F.slot_tuple_hash.lookup ?_);show wpAny _ _ (callSpecialIfBoundUnlessNone? (.ref a) "__hash__" _ >>= _) Q E s;refine AAA (wpAny_callSpecialIfBoundUnlessNone?_slot hT PySem.F.slot_tuple_hash (AAd PySem.F.slot_tuple_hash hT PySem.F.entry_tuple_hash ?_ (PySem.F.args_tuple_hash_1 _)));show wpAny _ _ (Builtin.Tuple.tupleItemsOf (.ref a) >>= _) _ _ s;refine AAA (wpAny_tupleItemsOf ho hd (AAA ?_));rw[←Array.forIn_toList];refine each _ ?_;show wpAny _ _ (retInt (Builtin.Tuple.tupleHashOf hs.toArray.toList)) _ _ _;refine wpAny_ret_mkInt ?_;show wpAny _ _ (pyHashByItsType.reduced _) Q E _;unfold pyHashByItsType.reduced;unfold reduceHash at q;split
 ·rename_i hr;rw[if_pos hr] at q;exact AAB q
 ·rename_i hr;rw[if_neg hr] at q;exact AAA (wpAny_rule (AAB q))
mutual
theorem At.hash:∀{k:NK} {v:Value} {A:Around} {E:Value->Shared->Prop} {s:Shared} {Q:Int->Shared->Prop},A.units+k.deep<cLine->At s.heap k v->Q k.hash { s with toks:=s.toks+k.draws }->wpAny (model prog w) A (pyHash v) Q E s
 | .int i,v,A,E,s,Q,hu,hk,q=>by
  unfold At at hk;obtain⟨t,rfl⟩:=hk;exact(intKind prog w).pyHash (k:=i) (by simp[intKind,Value.isInt]) q
 | .tup ks,v,A,E,s,Q,hu,hk,q=>by
  unfold At at hk;obtain⟨a,o,items,n,rfl,h1,h2,h3,h4⟩:=hk;have hu':A.units+(NK.deeps ks+1)<cLine:=hu;refine hash_tup (hs:=NK.hashes ks) (d:=NK.drawsL ks) (by omega) h1 h2 h3 (λP p=>?_) q;exact Ats.hash (A:=A.in1) (by show A.units+1+NK.deeps ks<cLine;omega) h4 (acc:=#[]) (by simpa using p)
theorem Ats.hash:∀{ks:List NK} {vs:List Value} {A:Around} {E:Value->Shared->Prop} {s:Shared} {acc:Array Int} {P:Array Int->Shared->Prop},A.units+NK.deeps ks<cLine->Ats s.heap ks vs->P (acc++(NK.hashes ks).toArray) { s with toks:=s.toks+NK.drawsL ks }->
  wpAny (model prog w) A (forIn vs acc λx r=>do let y ←pyHash x;pure (ForInStep.yield (r.push y))) P E s
 |[],vs,A,E,s,acc,P,hu,hk,q=>by
  unfold Ats at hk;subst hk;rw[List.forIn_nil];exact AAB (by simpa[NK.hashes,NK.drawsL] using q)
 |k::ks,vs,A,E,s,acc,P,hu,hk,q=>by
  unfold Ats at hk;obtain⟨v,vs',rfl,a1,a2⟩:=hk;rw[List.forIn_cons];have hu':A.units+max (NK.deep k) (NK.deeps ks)<cLine:=hu;refine AAA (AAA (At.hash (by omega) a1 (AAB ?_)));refine Ats.hash (by omega) (s:={ s with toks:=s.toks+k.draws }) a2 ?_;simpa[NK.hashes,NK.drawsL,Nat.add_assoc] using q
end
end
end Nk
namespace Nk
open PySem PySem.Spec PyProof.Rows PySem.MeetsSeq PySem.SeqAt
theorem Ats.len:∀{ks:List NK} {vs:List Value},Ats h ks vs->vs.length=ks.length
 |[],_,a=>by unfold Ats at a;subst a;rfl
 |k::ks,_,a=>by
  unfold Ats at a;obtain⟨v,vs',rfl,_,a2⟩:=a;simp[Ats.len a2]
noncomputable def Da(ks js:List NK)(j:Nat):Bool:=decide (ks[j]?=js[j]?)
theorem GH:((List.range (min ks.length js.length)).all (Da ks js)&&ks.length==js.length)=decide (NK.tup ks=NK.tup js):=by
 by_cases e:ks=js
 ·subst e;rw[AAO rfl,beq_self_eq_true,Bool.and_true,List.all_eq_true];intro j _;exact AAO rfl
 ·rw[AAN (λz=>e (NK.tup.inj z))];by_cases hl:ks.length=js.length
  ·rw[beq_iff_eq.mpr hl,Bool.and_true,←Bool.not_eq_true];intro z;rw[List.all_eq_true] at z;refine e (List.ext_getElem? λj=>?_);by_cases hj:j<ks.length
   ·exact of_decide_eq_true (z j (List.mem_range.mpr (by omega)))
   ·rw[List.getElem?_eq_none (by omega),List.getElem?_eq_none (by omega)]
  ·rw[AAf.mpr hl,Bool.and_false]
mutual
theorem At.eq:∀{k j:NK} {u v:Value} {A:Around} {s:Shared},A.units+k.deep<cLine->At s.heap k u->At s.heap j v->EqAt A s u v (decide (k=j))
 | .int i,.int j,u,v,A,s,hu,a,b=>by
  unfold At at a b;obtain⟨t,rfl⟩:=a;obtain⟨t',rfl⟩:=b;have:decide (NK.int i=NK.int j)=(i==j):=by
   by_cases e:i=j
   ·subst e;simp
   ·rw[AAN (λz=>e (NK.int.inj z)),AAf.mpr e]
  rw[this];exact EqAt.int_int i t j t'
 | .int i,.tup js,u,v,A,s,hu,a,b=>by
  unfold At at a b;obtain⟨t,rfl⟩:=a;obtain⟨x,o,items,n,rfl,h1,h2,h3,_⟩:=b;rw[AAN (by intro z;cases z)];exact EqAt.int_tuple i t ⟨o,h1,h2,n,h3⟩ (AAr (Nat.le_add_right _ _) hu)
 | .tup ks,.int j,u,v,A,s,hu,a,b=>by
  unfold At at a b;obtain⟨t,rfl⟩:=b;obtain⟨x,o,items,n,rfl,h1,h2,h3,_⟩:=a;rw[AAN (by intro z;cases z)];exact EqAt.tuple_int j t ⟨o,h1,h2,n,h3⟩ (AAr (Nat.le_add_right _ _) hu)
 | .tup ks,.tup js,u,v,A,s,hu,a,b=>by
  have a':=a;have b':=b;unfold At at a b;obtain⟨x,o,items,n,rfl,h1,h2,h3,h4⟩:=a;obtain⟨y,o',items',n',rfl,h1',h2',h3',h4'⟩:=b;have hu':A.units+(NK.deeps ks+1)<cLine:=hu;by_cases e:x=y
  ·subst e;rw[At.inj a' b',AAO rfl];exact EqAt.same _
  ·rw[←GH];have l1:=h4.len;have l2:=h4'.len;rw[Array.length_toList] at l1 l2;rw[←l1,←l2];refine EqAt.of_refs e (RcAt.tuples ⟨o,h1,h2,n,h3⟩ ⟨o',h1',h2',n',h3'⟩ (by omega) λj g1 g2=>?_);have:=Ats.eqs (A:=A.in1) (by show A.units+1+NK.deeps ks<cLine;omega) h4 h4' j (by simpa using g1) (by simpa using g2);simpa using this
theorem Ats.eqs:∀{ks js:List NK} {us vs:List Value} {A:Around} {s:Shared},A.units+NK.deeps ks<cLine->Ats s.heap ks us->Ats s.heap js vs->∀(j:Nat) (h1:j<us.length) (h2:j<vs.length),EqAt A s us[j] vs[j] (Da ks js j)
 |[],js,us,vs,A,s,hu,a,b,j,h1,h2=>by unfold Ats at a;subst a;simp at h1
 |k::ks,[],us,vs,A,s,hu,a,b,j,h1,h2=>by unfold Ats at b;subst b;simp at h2
 |k::ks,l::js,us,vs,A,s,hu,a,b,j,h1,h2=>by
  unfold Ats at a b;obtain⟨u,us',rfl,a1,a2⟩:=a;obtain⟨v,vs',rfl,b1,b2⟩:=b;have hu':A.units+max (NK.deep k) (NK.deeps ks)<cLine:=hu;cases j with
  |zero=>
   have:=At.eq (k:=k) (j:=l) (A:=A) (by omega) a1 b1;have e:Da (k::ks) (l::js) 0=decide (k=l):=by unfold Da;simp
   rw[e];exact this
  |succ j=>
   have:=Ats.eqs (A:=A) (by omega) a2 b2 j (by simpa using h1) (by simpa using h2);have e:Da (k::ks) (l::js) (j+1)=Da ks js j:=by unfold Da;simp
   rw[e];simpa using this
end
section
variable{prog:Program}{w:World}
theorem At.quiet:∀(d:Nat) {k:NK} {v:Value} {A:Around} {E:Value->Shared->Prop} {s:Shared} {Q:Bool->Shared->Prop},k.deep<=d->At s.heap k v->Q true s->wpAny (model prog w) A (eqIsQuiet d v) Q E s
 |d,.int i,v,A,E,s,Q,hd,a,q=>by
  unfold At at a;obtain⟨t,rfl⟩:=a;unfold eqIsQuiet;exact AAB q
 |0,.tup ks,v,A,E,s,Q,hd,a,q=>by
  have hd':NK.deeps ks+1<=0:=hd;omega
 |d'+1,.tup ks,v,A,E,s,Q,hd,a,q=>by
  have hd':NK.deeps ks+1<=d'+1:=hd;unfold At at a;obtain⟨x,o,items,n,rfl,h1,h2,h3,h4⟩:=a;have hT:s.TypeIs (.ref x) "tuple" := ⟨o,h1,h2⟩;unfold eqIsQuiet;refine AAA (wpAny_specialOf hT PySem.F.slot_tuple_eq.lookup ?_);show wpAny _ _ (isInstance (.ref x) (.type "tuple") >>= _) _ _ s;refine AAA (wpAny_isInstance hT isSubtype_tuple_tuple ?_);simp only[Bool.not_true,Bool.false_eq_true,if_false];refine AAA (wpAny_seqItems h1 h3 (AAA ?_));show wpAny _ _ (forIn items _ _) _ _ s;rw[←Array.forIn_toList];refine wpAny_forIn_list _ (λrest r s'=>r.1=none/\s'=s/\∃ks',NK.deeps ks'<=d'/\Ats s.heap ks' rest) _ ?_ ?_ _ _ ⟨rfl,rfl,ks,by omega,h4⟩
  ·rintro y rest r s' ⟨hr,rfl,ks',hk,at'⟩;cases ks' with
   |nil=>unfold Ats at at';cases at'
   |cons k' ks'=>
    unfold Ats at at';obtain⟨_,_,e,a1,a2⟩:=at';cases e;have hk':max (NK.deep k') (NK.deeps ks')<=d':=hk;refine AAA (At.quiet d' (k:=k') (by omega) a1 ?_);simp only[Bool.not_true,Bool.false_eq_true,if_false];exact AAB ⟨rfl,rfl,ks',by omega,a2⟩
  ·rintro⟨r1,r2⟩ s' ⟨hr,rfl,_⟩;simp only at hr;subst hr;exact AAB q
noncomputable def kind(prog:Program)(w:World):HeapKind prog w NK where
 is:=λh k a=>At h k (.ref a)/\k.deep<=8
 hash:=NK.hash
 draws:=NK.draws
 room:=λA=>A.units+8<cLine
 inj:=λhx hy=>hx.1.inj hy.1
 keeps:=λ{h h' k a d o es ep} x ho hd hs=>⟨x.1.kept λb o' items n e _ e3=>by
  have hne:b≠d:=by
   intro z;subst z;rw[ho] at e;cases e;rw[hd] at e3;cases e3
  exact(hs.2 b hne).trans e,x.2⟩
 pyHash:=λhu hk h=>At.hash (by have:=hk.2;omega) hk.1 h
 eqBool:=λ{A E s x y a b Q} hu hx hy h=>At.eq (by have:=hx.2;omega) hx.1 hy.1 _ _ E Q h
 quiet:=λhk h=>At.quiet 8 hk.2 hk.1 h
end
noncomputable abbrev Cs:=Int×Int×List Int
noncomputable def csK(c:Cs):NK:=.tup [.int c.1,.int c.2.1,.tup (c.2.2.map NK.int)]
open L2 in
noncomputable def D6(p:Addr)(l:List (Cs×Addr×V)):HO:=.ext λh=>∃(us:List Value) (o:Obj) (es:Array DictEntry) (ep:Nat),Vals (l.map (·.2.2)) us/\h.get? p=some o/\o.ExactDict/\o.data=.dict es ep /\
 es.toList=(l.zip us).map (λx=>{ key:=.ref x.1.2.1,hash:=(csK x.1.1).hash,val:=x.2 })/\(l.map (·.1)).Nodup/\l.length<=sizeLine/\(p==sysModules)=false
end Nk
namespace Mi
open PySem L2 Nk
inductive D where
 |non|bl (b:Bool)|int (i:Int)|str (x:Str)|ty (n:String)|scr (ns:List Int)|tup (xs:List D)|lst (xs:List D)|ref (n:Nat)
mutual
def EB:D->D->Bool
 | .non,.non=>true
 | .bl a,.bl b=>a==b
 | .int a,.int b=>a==b
 | .str a,.str b=>a==b
 | .ty a,.ty b=>a==b
 | .scr a,.scr b=>a==b
 | .tup a,.tup b=>Me a b
 | .lst a,.lst b=>Me a b
 | .ref a,.ref b=>a==b
 |_,_=>false
def Me:List D->List D->Bool
 |[],[]=>true
 |a::as,b::bs=>EB a b&&Me as bs
 |_,_=>false
end
mutual
theorem N6:∀{a b:D},EB a b=true->a=b
 | .tup a,.tup b,h=>by unfold EB at h;rw[KU h]
 | .lst a,.lst b,h=>by unfold EB at h;rw[KU h]
 | .non,b,h=>by cases b<;>first|rfl|cases h
 | .bl a,b,h=>by cases b<;>first|(unfold EB at h;rw[eq_of_beq h])|cases h
 | .int a,b,h=>by cases b<;>first|(unfold EB at h;rw[eq_of_beq h])|cases h
 | .str a,b,h=>by cases b<;>first|(unfold EB at h;rw[eq_of_beq h])|cases h
 | .ty a,b,h=>by cases b<;>first|(unfold EB at h;rw[eq_of_beq h])|cases h
 | .scr a,b,h=>by cases b<;>first|(unfold EB at h;rw[eq_of_beq h])|cases h
 | .ref a,b,h=>by cases b<;>first|(unfold EB at h;rw[eq_of_beq h])|cases h
theorem KU:∀{a b:List D},Me a b=true->a=b
 |[],[],_=>rfl
 |a::as,b::bs,h=>by
  unfold Me at h;rw[Bool.and_eq_true] at h;rw[N6 h.1,KU h.2]
end
mutual
theorem JX:∀a:D,EB a a=true
 | .tup a=>by unfold EB;exact GV a
 | .lst a=>by unfold EB;exact GV a
 | .non=>rfl
 | .bl a=>by unfold EB;exact beq_self_eq_true a
 | .int a=>by unfold EB;exact beq_self_eq_true a
 | .str a=>by unfold EB;exact beq_self_eq_true a
 | .ty a=>by unfold EB;exact beq_self_eq_true a
 | .scr a=>by unfold EB;exact beq_self_eq_true a
 | .ref a=>by unfold EB;exact beq_self_eq_true a
theorem GV:∀a:List D,Me a a=true
 |[]=>rfl
 |a::as=>by unfold Me;rw[JX a,GV as];rfl
end
instance:DecidableEq D:=λa b=>if h:EB a b=true then .isTrue (N6 h) else .isFalse λe=>h (by rw[e];exact JX b)
inductive MO where
 |lst (xs:List D)|dK (kvs:List (Key×D))|dC (kvs:List (Cs×D))|ins (c:Str) (fs:List (Str×D))|dP (kvs:List (D×D))|exc (c:Str) (n:Option Nat)
abbrev Mh:=List MO
set_option genInjectivity false in
structure KW where
 fr:PySem.W.Frag
 w:World
instance:CoeOut KW PySem.W.Frag:=⟨KW.fr⟩
noncomputable abbrev _root_.L2.Cx.kw(X:Cx):KW:=⟨X.K,X.w⟩
noncomputable abbrev M(α:Type):=Mh->Option (α×Mh)
noncomputable abbrev Sl:=List (Option D)
noncomputable def ret{α:Type}(a:α):M α:=λZ=>some (a,Z)
noncomputable def bnd{α β:Type}(m:M α)(f:α->M β):M β:=λZ=>match m Z with
 |some (a,w5)=>f a w5
 |none=>none
noncomputable def BQ{α:Type}:M α:=λ_=>none
theorem AE(h:bnd m f Z=some r):∃a w5,m Z=some (a,w5)/\f a w5=some r:=by
 unfold bnd at h;cases e:m Z with
 |none=>rw[e] at h;cases h
 |some p=>obtain⟨a,w5⟩:=p;rw[e] at h;exact⟨a,w5,rfl,h⟩
@[simp] theorem Yl(a:α)(f:α->M β):bnd (ret a) f=f a:=rfl
theorem AM(h:m Z=some (a,w5)):bnd m f Z=f a w5:=by unfold bnd;rw[h]
def ScrAt(K:PySem.W.Frag)(H:Hp)(a:Addr)(xs:List V):Prop:=
 (∃o,H a=some (.frz o (.lst xs)))∨∃(o:Obj) (its:Array Value) (n:Nat),K.lookup a=some o/\o.cls=.type "list" /\ o.dict=none/\o.data=.seq its n/\its.size<=sizeLine/\Vals xs its.toList
theorem ScrAt.sq(h:ScrAt K H a xs):SqL K H a xs:=h.elim (λz=>.inl (.inr z)) .inr
mutual
def Is(K:KW)(Y:Nat->Addr)(k:Nat)(H:Hp):D->V->Prop
 | .non,v=>v=.non
 | .bl b,v=>v=.bl b
 | .int i,v=>v=.int i
 | .str x,v=>v=.str x
 | .ty n,v=>v=.ty n
 | .scr ns,v=>∃p,v=.ref p/\ScrAt K H p (ns.map V.int)
 | .tup ds,v=>∃p vs,v=.ref p/\SqT K H p vs/\IsL K Y k H ds vs
 | .lst ds,v=>∃p vs,v=.ref p/\H p=some (.lst vs)/\(∀n,n<k->Y n≠p)/\IsL K Y k H ds vs
 | .ref n,v=>n<k/\v=.ref (Y n)
def IsL(K:KW)(Y:Nat->Addr)(k:Nat)(H:Hp):List D->List V->Prop
 |[],vs=>vs=[]
 |d::ds,vs=>∃v vs',vs=v::vs'/\Is K Y k H d v/\IsL K Y k H ds vs'
end
section
variable{K:KW}{Y Y' x4:Nat->Addr}{k k' k2:Nat}{H H' H2:Hp}
theorem IsL.length:∀{ds:List D} {vs:List V},IsL K Y k H ds vs->vs.length=ds.length
 |[],_,h=>by unfold IsL at h;subst h;rfl
 |_::_,_,h=>by
  unfold IsL at h;obtain⟨v,vs',rfl,_,h⟩:=h;simp only[AAH,IsL.length h]
theorem IsL.get:∀{ds:List D} {vs:List V} {i:Nat} {d:D},IsL K Y k H ds vs->ds[i]?=some d->∃v,vs[i]?=some v/\Is K Y k H d v
 |[],_,_,_,_,e=>by simp at e
 |_::_,_,0,_,h,e=>by
  unfold IsL at h;obtain⟨v,vs',rfl,h1,_⟩:=h;simp at e;subst e;exact⟨v,rfl,h1⟩
 |_::_,_,i+1,d,h,e=>by
  unfold IsL at h;obtain⟨v,vs',rfl,_,h⟩:=h;obtain⟨u,e1,e2⟩:=IsL.get (i:=i) (d:=d) h (by simpa using e);exact⟨u,by simpa using e1,e2⟩
theorem IsL.append:∀{ds es:List D} {vs us:List V},IsL K Y k H ds vs->IsL K Y k H es us->IsL K Y k H (ds++es) (vs++us)
 |[],_,_,_,h,q=>by unfold IsL at h;subst h;exact q
 |_::_,_,_,_,h,q=>by
  unfold IsL at h;obtain⟨v,vs',rfl,h1,h⟩:=h;show IsL K Y k H (_::(_++_)) _;unfold IsL;exact⟨v,_,rfl,h1,IsL.append h q⟩
theorem IsL.take:∀(n:Nat) {ds:List D} {vs:List V},IsL K Y k H ds vs->IsL K Y k H (ds.take n) (vs.take n)
 |0,ds,vs,_=>by rw[List.take_zero,List.take_zero];unfold IsL;rfl
 |n+1,[],_,h=>by unfold IsL at h;subst h;simp only[List.take_nil];unfold IsL;rfl
 |n+1,_::_,_,h=>by
  unfold IsL at h;obtain⟨v,vs',rfl,h1,h⟩:=h;simp only[List.take_succ_cons];unfold IsL;exact⟨v,_,rfl,h1,IsL.take n h⟩
theorem IsL.drop:∀(n:Nat) {ds:List D} {vs:List V},IsL K Y k H ds vs->IsL K Y k H (ds.drop n) (vs.drop n)
 |0,_,_,h=>h
 |n+1,[],_,h=>by unfold IsL at h;subst h;simp only[List.drop_nil];unfold IsL;rfl
 |n+1,_::_,_,h=>by
  unfold IsL at h;obtain⟨v,vs',rfl,h1,h⟩:=h;simp only[List.drop_succ_cons];exact IsL.drop n h
theorem IsL.cons(h:Is K Y k H d v)(t:IsL K Y k H ds vs):IsL K Y k H (d::ds) (v::vs):=by
 unfold IsL;exact⟨v,vs,rfl,h,t⟩
theorem IsL.nil:IsL K Y k H [] []:=by unfold IsL;rfl
theorem IsL.one(h:Is K Y k H d v):IsL K Y k H [d] [v]:=.cons h .nil
theorem IsL.set(h1:Is K Y k H d v):∀{ds:List D} {vs:List V} (i:Nat),IsL K Y k H ds vs->IsL K Y k H (ds.set i d) (vs.set i v)
 |[],_,_,h=>by unfold IsL at h;subst h;exact .nil
 |_::_,_,0,h=>by
  unfold IsL at h;obtain⟨v,vs',rfl,_,h⟩:=h;exact .cons h1 h
 |_::_,_,i+1,h=>by
  unfold IsL at h;obtain⟨v,vs',rfl,h0,h⟩:=h;exact .cons h0 (IsL.set h1 i h)
theorem IsL.ints:∀{ns:List Int} {vs:List V},IsL K Y k H (ns.map D.int) vs->vs=ns.map V.int
 |[],_,h=>by unfold IsL at h;exact h
 |_::_,_,h=>by
  unfold List.map IsL at h;obtain⟨v,vs',rfl,h1,h⟩:=h;unfold Is at h1;rw[h1,IsL.ints h];rfl
theorem IsL.ofInts:∀(ns:List Int),IsL K Y k H (ns.map D.int) (ns.map V.int)
 |[]=>.nil
 |n::r=>.cons (by unfold Is;rfl) (IsL.ofInts r)
noncomputable def RH:HO->Bool
 | .lst _=>true
 | .dK _=>true
 | .ext _=>true
 | .ins _ _ _=>true
 |_=>false
def Muts(Y:Nat->Addr)(k:Nat)(H:Hp):Prop:=∀n,n<k->∃o,H (Y n)=some o/\RH o=true
structure Ext(Y:Nat->Addr)(k:Nat)(H:Hp)(Y':Nat->Addr)(k':Nat)(H':Hp):Prop where
 le:k<=k'
 agree:∀n,n<k->Y' n=Y n
 fresh:∀n,k<=n->n<k'->H (Y' n)=none
 keep:∀p o,H p=some o->(∀n,n<k->Y n≠p)->H' p=some o
 was:Muts Y k H
 there:Muts Y k H'
theorem Ext.refl(h:Muts Y k H):Ext Y k H Y k H:=⟨AAE _,λ_ _=>rfl,λn h1 h2=>absurd h1 (by omega),λ_ _ e _=>e,h,h⟩
theorem Ext.trans(a:Ext Y k H Y' k' H')(b:Ext Y' k' H' x4 k2 H2):Ext Y k H x4 k2 H2 where
 le:=AAs a.le b.le
 agree:=λn h=>(b.agree n (AAM h a.le)).trans (a.agree n h)
 fresh:=λn h1 h2=>by
  rcases Nat.lt_or_ge n k' with z|z
  ·rw[b.agree n z];exact a.fresh n h1 z
  ·have q:=b.fresh n z h2;cases e:H (x4 n) with
   |none=>rfl
   |some o=>
    by_cases hx:∃m,m<k/\Y m=x4 n
    ·obtain⟨m,hm,e2⟩:=hx;obtain⟨o',q',_⟩:=a.there m hm;rw[e2,q] at q';cases q'
    ·have:=a.keep _ o e (λm hm e2=>hx ⟨m,hm,e2⟩);rw[q] at this;cases this
 keep:=λp o e hn=>b.keep p o (a.keep p o e hn) (λn hlt e2=>by
  rcases Nat.lt_or_ge n k with z|z
  ·rw[a.agree n z] at e2;exact hn n z e2
  ·have:=a.fresh n z hlt;rw[e2,e] at this;cases this)
 was:=a.was
 there:=λn h=>by
  have:=b.there n (AAM h a.le);rw[a.agree n h] at this;exact this
theorem Ext.out(a:Ext Y k H Y' k' H')(e:H p=some o)(hn:∀n,n<k->Y n≠p):∀n,n<k'->Y' n≠p:=λn h e2=>by
 rcases Nat.lt_or_ge n k with z|z
 ·rw[a.agree n z] at e2;exact hn n z e2
 ·have:=a.fresh n z h;rw[e2,e] at this;cases this
theorem Muts.ne(a:Muts Y k H)(e:H p=some o)(hm:RH o=false):∀n,n<k->Y n≠p:=λn hn e2=>by
 obtain⟨o',q,h⟩:=a n hn;rw[e2,e] at q;cases q;rw[hm] at h;cases h
theorem Jj(a:Ext Y k H Y' k' H')(h:SqT K H p vs):SqT K H' p vs:=by
 rcases h with h|h
 ·rcases h with h|⟨o,h⟩
  ·exact .inl (.inl (a.keep p _ h (a.was.ne h rfl)))
  ·exact .inl (.inr ⟨o,a.keep p _ h (a.was.ne h rfl)⟩)
 ·exact .inr h
theorem Jo(a:Ext Y k H Y' k' H')(h:ScrAt K H p vs):ScrAt K H' p vs:=by
 rcases h with ⟨o,h⟩|h
 ·exact .inl ⟨o,a.keep p _ h (a.was.ne h rfl)⟩
 ·exact .inr h
mutual
theorem Is.ext(a:Ext Y k H Y' k' H'):∀{d:D} {v:V},Is K Y k H d v->Is K Y' k' H' d v
 | .non,_,h=>by unfold Is at h ⊢;exact h
 | .bl _,_,h=>by unfold Is at h ⊢;exact h
 | .int _,_,h=>by unfold Is at h ⊢;exact h
 | .str _,_,h=>by unfold Is at h ⊢;exact h
 | .ty _,_,h=>by unfold Is at h ⊢;exact h
 | .scr ns,_,h=>by
  unfold Is at h ⊢;obtain⟨p,rfl,h⟩:=h;exact⟨p,rfl,Jo a h⟩
 | .tup ds,_,h=>by
  unfold Is at h ⊢;obtain⟨p,vs,rfl,h1,h2⟩:=h;exact⟨p,vs,rfl,Jj a h1,IsL.ext a h2⟩
 | .lst ds,_,h=>by
  unfold Is at h ⊢;obtain⟨p,vs,rfl,h1,hn,h2⟩:=h;exact⟨p,vs,rfl,a.keep p _ h1 hn,a.out h1 hn,IsL.ext a h2⟩
 | .ref n,_,h=>by
  unfold Is at h ⊢;obtain⟨h,rfl⟩:=h;exact⟨AAM h a.le,by rw[a.agree n h]⟩
theorem IsL.ext(a:Ext Y k H Y' k' H'):∀{ds:List D} {vs:List V},IsL K Y k H ds vs->IsL K Y' k' H' ds vs
 |[],_,h=>by unfold IsL at h ⊢;exact h
 |_::_,_,h=>by
  unfold IsL at h ⊢;obtain⟨v,vs',rfl,h1,h2⟩:=h;exact⟨v,vs',rfl,Is.ext a h1,IsL.ext a h2⟩
end
noncomputable def KVs(K:KW)(Y:Nat->Addr)(k:Nat)(H:Hp):List (Key×D)->List (Key×V)->Prop
 |[],r=>r=[]
 |(y,d)::l,r=>∃v r',r=(y,v)::r'/\Is K Y k H d v/\KVs K Y k H l r'
theorem KVs.ext(a:Ext Y k H Y' k' H'):∀{l:List (Key×D)} {r:List (Key×V)},KVs K Y k H l r->KVs K Y' k' H' l r
 |[],_,h=>h
 |(_,_)::_,_,h=>by
  obtain⟨v,r',rfl,h1,h2⟩:=h;exact⟨v,r',rfl,h1.ext a,h2.ext a⟩
noncomputable def csD(c:Cs):D:=.tup [.int c.1,.int c.2.1,.tup (c.2.2.map D.int)]
noncomputable def CVs(K:KW)(Y:Nat->Addr)(k:Nat)(H:Hp):List (Cs×D)->List (Cs×Addr×V)->Prop
 |[],r=>r=[]
 |(y,d)::l,r=>∃a v r',r=(y,a,v)::r'/\Is K Y k H (csD y) (.ref a)/\Is K Y k H d v/\CVs K Y k H l r'
theorem CVs.ext(a:Ext Y k H Y' k' H'):∀{l:List (Cs×D)} {r:List (Cs×Addr×V)},CVs K Y k H l r->CVs K Y' k' H' l r
 |[],_,h=>h
 |(_,_)::_,_,h=>by
  obtain⟨b,v,r',rfl,h1,h2,h3⟩:=h;exact⟨b,v,r',rfl,h1.ext a,h2.ext a,h3.ext a⟩
noncomputable def FVs(K:KW)(Y:Nat->Addr)(k:Nat)(H:Hp):List (Str×D)->List (Str×V)->Prop
 |[],r=>r=[]
 |(y,d)::l,r=>∃v r',r=(y,v)::r'/\Is K Y k H d v/\FVs K Y k H l r'
theorem FVs.ext(a:Ext Y k H Y' k' H'):∀{l:List (Str×D)} {r:List (Str×V)},FVs K Y k H l r->FVs K Y' k' H' l r
 |[],_,h=>h
 |(_,_)::_,_,h=>by
  obtain⟨v,r',rfl,h1,h2⟩:=h;exact⟨v,r',rfl,h1.ext a,h2.ext a⟩
mutual
def hD(w:World):D->Int
 | .int i=>hashInt i
 | .str x=>hashStr w x
 | .tup ks=>reduceHash (Builtin.Tuple.tupleHashOf (hDs w ks))
 |_=>0xFCA86420
def hDs(w:World):List D->List Int
 |[]=>[]
 |k::ks=>hD w k::hDs w ks
end
noncomputable def De(w:World)(p:Addr)(l:List (D×Addr×V)):HO:=.ext λh=>∃(us:List Value) (o:Obj) (es:Array DictEntry) (ep:Nat),Vals (l.map (·.2.2)) us/\h.get? p=some o/\o.ExactDict/\o.data=.dict es ep /\
 es.toList=(l.zip us).map (λx=>{ key:=.ref x.1.2.1,hash:=hD w x.1.1,val:=x.2 })/\(l.map (·.1)).Nodup/\l.length<=sizeLine/\(p==sysModules)=false
mutual
def Kz:D->Bool
 | .non=>true
 | .int _=>true
 | .str _=>true
 | .tup ds=>KzL ds
 |_=>false
def KzL:List D->Bool
 |[]=>true
 |d::ds=>Kz d&&KzL ds
end
mutual
def deep:D->Nat
 | .tup ks=>deeps ks+1
 |_=>0
def deeps:List D->Nat
 |[]=>0
 |k::ks=>max (deep k) (deeps ks)
end
noncomputable def PVs(K:KW)(Y:Nat->Addr)(k:Nat)(H:Hp):List (D×D)->List (D×Addr×V)->Prop
 |[],r=>r=[]
 |(y,d)::l,r=>∃a v r',r=(y,a,v)::r'/\(Kz y=true/\deep y<=8/\Is K Y k H y (.ref a))/\Is K Y k H d v/\PVs K Y k H l r'
theorem PVs.ext(a:Ext Y k H Y' k' H'):∀{l:List (D×D)} {r:List (D×Addr×V)},PVs K Y k H l r->PVs K Y' k' H' l r
 |[],_,h=>h
 |(_,_)::_,_,h=>by
  obtain⟨b,v,r',rfl,h1,h2,h3⟩:=h;exact⟨b,v,r',rfl,⟨h1.1,h1.2.1,h1.2.2.ext a⟩,h2.ext a,h3.ext a⟩
def U7(K:PySem.W.Frag)(c:Str)(C:Addr):Prop:=PySem.W.nsIn K mainGlobals c=some (some (.ref C))
noncomputable def ZJ(p C:Addr)(dx:Option Addr):HO:=.ext λh=>∃oe vs,h.get? p=some oe/\oe.cls=.ref C/\oe.dict=dx/\oe.data=.fields vs
def ZW(H:Hp)(n:Option Nat)(dx:Option Addr):Prop:=match n with
 |none=>dx=none
 |some i=>∃d,dx=some d/\H d=some (.xd [("at",.int (i:Int))])
noncomputable def ObjIs(K:KW)(Y:Nat->Addr)(k:Nat)(H:Hp)(p:Addr):MO->HO->Prop
 | .lst ds,o=>∃vs,o=.lst vs/\IsL K Y k H ds vs
 | .dK l,o=>∃r,o=.dK r/\KVs K Y k H l r
 | .dC l,o=>∃r,o=D6 p r/\CVs K Y k H l r
 | .ins c l,o=>∃C dx r,o=.ins C dx r/\U7 K c C/\H dx=some (.own p)/\FVs K Y k H l r
 | .dP l,o=>∃r,o=De K.w p r/\PVs K Y k H l r
 | .exc c n,o=>∃C dx,o=ZJ p C dx/\U7 K c C/\ZW H n dx
structure RelH(K:KW)(Y:Nat->Addr)(Z:Mh)(H:Hp):Prop where
 inj:∀i j,i<Z.length->j<Z.length->Y i=Y j->i=j
 obj:∀n o,Z[n]?=some o->∃u,H (Y n)=some u/\ObjIs K Y Z.length H (Y n) o u
theorem ObjIs.mut(h:ObjIs K Y k H p o u):RH u=true:=by
 cases o with
 |lst ds=>obtain⟨vs,rfl,_⟩:=h;rfl
 |dK l=>obtain⟨r,rfl,_⟩:=h;rfl
 |dC l=>obtain⟨r,rfl,_⟩:=h;rfl
 |ins c l=>obtain⟨C,dx,r,rfl,_⟩:=h;rfl
 |dP l=>obtain⟨r,rfl,_⟩:=h;rfl
 |exc c n=>obtain⟨C,dx,rfl,_⟩:=h;rfl
theorem ObjIs.ext(a:Ext Y k H Y' k' H')(h:ObjIs K Y k H p o u):ObjIs K Y' k' H' p o u:=by
 cases o with
 |lst ds=>obtain⟨vs,rfl,h⟩:=h;exact⟨vs,rfl,h.ext a⟩
 |dK l=>obtain⟨r,rfl,h⟩:=h;exact⟨r,rfl,h.ext a⟩
 |dC l=>obtain⟨r,rfl,h⟩:=h;exact⟨r,rfl,h.ext a⟩
 |ins c l=>obtain⟨C,dx,r,rfl,h0,h1,h⟩:=h;exact⟨C,dx,r,rfl,h0,a.keep dx _ h1 (a.was.ne h1 rfl),h.ext a⟩
 |dP l=>obtain⟨r,rfl,h⟩:=h;exact⟨r,rfl,h.ext a⟩
 |exc c n=>
  obtain⟨C,dx,rfl,h0,h1⟩:=h;refine⟨C,dx,rfl,h0,?_⟩;cases n with
  |none=>exact h1
  |some i=>
   obtain⟨d,e,q⟩:=h1;exact⟨d,e,a.keep d _ q (a.was.ne q rfl)⟩
theorem RelH.muts(r:RelH K Y Z H):Muts Y Z.length H:=λn hn=>by
 obtain⟨u,e,h⟩:=r.obj n Z[n] (by simp[hn]);exact⟨u,e,h.mut⟩
theorem RelH.ext0(r:RelH K Y Z H):Ext Y Z.length H Y Z.length H:=Ext.refl r.muts
theorem RelH.laid(r:RelH K Y Z H)(o:HO)(hp:H p=none):Ext Y Z.length H Y Z.length (upd H p o)/\RelH K Y Z (upd H p o):=by
 have kp:∀q u,H q=some u->upd H p o q=some u:=λq u e=>by rw[AS (Cc e hp)];exact e
 have a:Ext Y Z.length H Y Z.length (upd H p o):=⟨AAE _,λ_ _=>rfl,λn h1 h2=>absurd h1 (by omega),λq u e _=>kp q u e,r.muts,λn hn=>by
  obtain⟨u,e,h⟩:=r.muts n hn;exact⟨u,kp _ _ e,h⟩⟩
 refine⟨a,r.inj,λn o' e=>?_⟩;obtain⟨u,e1,h⟩:=r.obj n o' e;exact⟨u,kp _ _ e1,h.ext a⟩
theorem RelH.grown(r:RelH K Y Z H)(hp:H p=none)(h:ObjIs K Y Z.length H p m o):
  ∃Y',Ext Y Z.length H Y' (Z++[m]).length (upd H p o)/\RelH K Y' (Z++[m]) (upd H p o)/\Y' Z.length=p:=by
 have kp:∀q u,H q=some u->upd H p o q=some u:=λq u e=>by rw[AS (Cc e hp)];exact e
 let Y':Nat->Addr:=λn=>if n=Z.length then p else Y n
 have e0:Y' Z.length=p:=if_pos rfl;have e1:∀n,n<Z.length->Y' n=Y n:=λn hn=>if_neg (by omega);have a:Ext Y Z.length H Y' (Z++[m]).length (upd H p o):=⟨by simp,e1,λn h1 h2=>by
   have:n=Z.length:=by simp at h2;omega
   rw[this,e0];exact hp,λq u e _=>kp q u e,r.muts,λn hn=>by
  obtain⟨u,e,h⟩:=r.muts n hn;exact⟨u,kp _ _ e,h⟩⟩
 refine⟨Y',a,⟨λi j hi hj e=>?_,λn o' e=>?_⟩,e0⟩
 ·simp at hi hj;have old:∀i,i<Z.length->Y' i≠p:=λi hi e=>by
   obtain⟨u,q,_⟩:=r.muts i hi;rw[←e1 i hi,e,hp] at q;cases q
  rcases Nat.lt_or_ge i Z.length with zi|zi<;>rcases Nat.lt_or_ge j Z.length with zj|zj
  ·rw[e1 i zi,e1 j zj] at e;exact r.inj i j zi zj e
  ·have:j=Z.length:=by omega
   subst this;rw[e0] at e;exact absurd e (old i zi)
  ·have:i=Z.length:=by omega
   subst this;rw[e0] at e;exact absurd e.symm (old j zj)
  ·omega
 ·rcases Nat.lt_or_ge n Z.length with z|z
  ·rw[AAS z] at e;obtain⟨u,q,hq⟩:=r.obj n o' e;exact⟨u,by rw[e1 n z];exact kp _ _ q,by rw[e1 n z];exact hq.ext a⟩
  ·have hn:n=Z.length:=by
    have:=(AAT.mp e).1;simp at this;omega
   subst hn;rw[AAR (AAE _),AAu] at e;simp at e;subst e;exact⟨o,by rw[e0,Bw],by rw[e0];exact h.ext a⟩
theorem RelH.changed(r:RelH K Y Z H)(hn:n<Z.length)(h:ObjIs K Y Z.length H (Y n) m o):
  Ext Y Z.length H Y (Z.set n m).length (upd H (Y n) o)/\RelH K Y (Z.set n m) (upd H (Y n) o):=by
 have ne:∀i,i<Z.length->i≠n->Y i≠Y n:=λi hi hne e=>hne (r.inj i n hi hn e);have a:Ext Y Z.length H Y (Z.set n m).length (upd H (Y n) o):=⟨by simp,λ_ _=>rfl,λi h1 h2=>by simp at h2;omega,λq u e hq=>by rw[AS (λz=>hq n hn z.symm)];exact e,r.muts,λi hi=>by
  by_cases z:i=n
  ·subst z;exact⟨o,Bw,h.mut⟩
  ·obtain⟨u,e,hu⟩:=r.muts i hi;exact⟨u,by rw[AS (ne i hi z)];exact e,hu⟩⟩
 refine⟨a,λi j hi hj=>r.inj i j (by simpa using hi) (by simpa using hj),λi o' e=>?_⟩;by_cases z:i=n
 ·subst z;rw[List.getElem?_set_self hn] at e;cases e;exact⟨o,Bw,h.ext a⟩
 ·rw[AAo (Ne.symm z)] at e;have hi:i<Z.length:=(AAT.mp e).1;obtain⟨u,q,hq⟩:=r.obj i o' e;exact⟨u,by rw[AS (ne i hi z)];exact q,hq.ext a⟩
structure RelS(K:KW)(Y:Nat->Addr)(k:Nat)(H:Hp)(B:Sl)(O:St):Prop where
 len:O.length=B.length
 get:∀(i:Nat) (d:D),B[i]?=some (some d)->∃v,O[i]?=some (some v)/\Is K Y k H d v
theorem RelS.ext(a:Ext Y k H Y' k' H')(r:RelS K Y k H B O):RelS K Y' k' H' B O:=⟨r.len,λi d e=>by
 obtain⟨v,e1,h⟩:=r.get i d e;exact⟨v,e1,h.ext a⟩⟩
theorem RelS.set(r:RelS K Y k H B O)(i:Nat)(h:Is K Y k H d v):RelS K Y k H (B.set i (some d)) (O.set i (some v)):=⟨by simp[r.len],λj e q=>by
 by_cases z:i=j
 ·subst z;have hi:i<B.length:=by
   have:=(AAT.mp q).1;simpa using this
  rw[List.getElem?_set_self hi] at q;cases q;exact⟨v,List.getElem?_set_self (by rw[r.len];exact hi),h⟩
 ·rw[AAo z] at q;obtain⟨u,e1,hu⟩:=r.get j e q;exact⟨u,by rw[AAo z];exact e1,hu⟩⟩
end
end Mi
namespace Mi
open PySem L2
noncomputable abbrev Exn:=Str×Option Nat
inductive Fl where
 |next|brk|cont|rt (d:D)|xc (x:Exn)
abbrev Aft(K:KW)(Y:Nat->Addr)(Z:Mh)(H:Hp)(Z':Mh)(φ:(Nat->Addr)->Hp->Prop):Prop:=
 ∀Y' H',Ext Y Z.length H Y' Z'.length H'->RelH K Y' Z' H'->φ Y' H'
noncomputable def tE(K:KW)(m:Sl->M D):TE:=λO H Q=>∃Y Z B d Z',RelH K Y Z H/\RelS K Y Z.length H B O/\m B Z=some (d,Z') /\
 Aft K Y Z H Z' λY' H'=>∀v,Is K Y' Z'.length H' d v->Q v H'
noncomputable def tT(K:KW)(m:Sl->M Bool):TT:=λO H Q=>∃Y Z B b Z',RelH K Y Z H/\RelS K Y Z.length H B O/\m B Z=some (b,Z') /\
 Aft K Y Z H Z' λ_ H'=>Q b H'
noncomputable def tL(K:KW)(m:Sl->M (List D)):TA:=λO H Q=>∃Y Z B ds Z',RelH K Y Z H/\RelS K Y Z.length H B O/\m B Z=some (ds,Z') /\
 Aft K Y Z H Z' λY' H'=>∀vs,IsL K Y' Z'.length H' ds vs->Q vs H'
noncomputable def FlP(K:KW)(Dn:SQ)(Y':Nat->Addr)(k:Nat)(H':Hp)(x8:Sl)(O':St):Fl->Prop
 | .next=>Dn.nx O' H'
 | .brk=>Dn.bk O' H'
 | .cont=>Dn.ct O' H'
 | .rt d=>∀v,Is K Y' k H' d v->Dn.rt v H'
 | .xc _=>False
noncomputable def tSt(K:KW)(m:Sl->M (Fl×Sl)):TS:=λDn O H=>∃Y Z B f x8 Z',RelH K Y Z H/\RelS K Y Z.length H B O/\m B Z=some ((f,x8),Z') /\
 Aft K Y Z H Z' λY' H'=>∀O',RelS K Y' Z'.length H' x8 O'->FlP K Dn Y' Z'.length H' x8 O' f
structure RE(X:Cx)(e:Expr)(m:Sl->M D):Prop where
 pe:PE X e (tE X.kw m)
structure RT(X:Cx)(e:Expr)(m:Sl->M Bool):Prop where
 pe:PT X e (tT X.kw m)
structure RW(X:Cx)(e:Expr)(m:Sl->M Bool):Prop where
 pe:PW X e (tT X.kw m)
structure RA(X:Cx)(es:List Expr)(m:Sl->M (List D)):Prop where
 pe:PA X es (tL X.kw m)
structure RS(X:Cx)(st:Stmt)(m:Sl->M (Fl×Sl)):Prop where
 pe:PS X st (tSt X.kw m)
structure RSs(X:Cx)(st:List Stmt)(m:Sl->M (Fl×Sl)):Prop where
 pe:PSs X st (tSt X.kw m)
section
variable{X:Cx}{e a b c:Expr}{es:List Expr}{pos:Pos}
theorem PE.wk{t t':TE}(h:PE X e t)(w:∀O H Q,t' O H Q->t O H Q):PE X e t':=λw4 s O H Q I q=>h w4 s O H Q I (w O H Q q)
theorem RE.wk{m:Sl->M D}{t:TE}(h:PE X e t)(w:∀O H Q,tE X.kw m O H Q->t O H Q):RE X e m:=⟨PE.wk h w⟩
theorem PT.wk{t t':TT}(h:PT X e t)(w:∀O H Q,t' O H Q->t O H Q):PT X e t':=λw4 s O H Q I q=>h w4 s O H Q I (w O H Q q)
theorem RT.wk{m:Sl->M Bool}{t:TT}(h:PT X e t)(w:∀O H Q,tT X.kw m O H Q->t O H Q):RT X e m:=⟨PT.wk h w⟩
theorem PW.wk{t t':TT}(h:PW X e t)(w:∀O H Q,t' O H Q->t O H Q):PW X e t':=λwh w4 s O H Q I q=>h wh w4 s O H Q I (w O H Q q)
theorem RW.wk{m:Sl->M Bool}{t:TT}(h:PW X e t)(w:∀O H Q,tT X.kw m O H Q->t O H Q):RW X e m:=⟨PW.wk h w⟩
theorem PA.wk{t t':TA}(h:PA X es t)(w:∀O H Q,t' O H Q->t O H Q):PA X es t':=λp w4 s O H Q I q=>h p w4 s O H Q I (w O H Q q)
theorem RA.wk{m:Sl->M (List D)}{t:TA}(h:PA X es t)(w:∀O H Q,tL X.kw m O H Q->t O H Q):RA X es m:=⟨PA.wk h w⟩
theorem PS.wk{st:Stmt}{t t':TS}(h:PS X st t)(w:∀D O H,t' D O H->t D O H):PS X st t':=λw4 s O H D I q=>h w4 s O H D I (w D O H q)
theorem RS.wk{m:Sl->M (Fl×Sl)}{st:Stmt}{t:TS}(h:PS X st t)(w:∀D O H,tSt X.kw m D O H->t D O H):RS X st m:=⟨PS.wk h w⟩
theorem PSs.wk{st:List Stmt}{t t':TS}(h:PSs X st t)(w:∀D O H,t' D O H->t D O H):PSs X st t':=λw4 s O H D I q=>h w4 s O H D I (w D O H q)
theorem RSs.wk{m:Sl->M (Fl×Sl)}{st:List Stmt}{t:TS}(h:PSs X st t)(w:∀D O H,tSt X.kw m D O H->t D O H):RSs X st m:=⟨PSs.wk h w⟩
theorem OpR.wk{f:Value->Value->Sem Value}{r r':R2}(h:OpR X f r)(w:∀x y H Q,r' x y H Q->r x y H Q):OpR X f r':=λw4 s O H x y v u Q I rx ry q=>h w4 s O H x y v u Q I rx ry (w x y H Q q)
noncomputable def Hq:Expr->Bool
 | .Starred _ _=>true
 |_=>false
theorem BY{e:Expr}{es:List Expr}{env:Env}(h:Hq e=false):starEach (e::es) env=(false,eval e env)::starEach es env:=by
 cases e<;>first|rfl|cases h
theorem C2{pos:Pos}{env:Env}:∀{es:List Expr},(es.all λe=>!Hq e)=true->(backTo pos (starEach es env)).any (·.1)=false
 |[],_=>rfl
 |e::es,h=>by
  rw[List.all_cons,Bool.and_eq_true] at h;have h1:Hq e=false:=by simpa using h.1
  have ih:=C2 (pos:=pos) (env:=env) h.2;rw[BY h1];unfold backTo at ih ⊢;simpa using ih
noncomputable def AA(i:Nat):Sl->M D:=λB Z=>match B[i]? with
 |some (some d)=>some (d,Z)
 |_=>none
noncomputable def mC(d:D):Sl->M D:=λ_=>ret d
theorem AB(i:Nat){x:Str}(hN:X.N[i]?=some x:=by rfl)(hv:Vis X.env.scope x:=by first|exact Or.inl rfl|exact Or.inr (Or.inl rfl)|exact Or.inr (Or.inr rfl))(hd:(x==("__debug__" : Str))=false:=by decide)
  (hcd:(x==("__classdict__" : Str))=false:=by decide):RE X (.Name x pos) (AA i):=RE.wk (Vr hN hv hd hcd) λO H Q h=>by
 obtain⟨Y,Z,B,d,Z',R,S,e,q⟩:=h;unfold AA at e;split at e
 ·rename_i d' ed;cases e;obtain⟨v,e1,h1⟩:=S.get i _ ed;exact⟨v,e1,q Y H R.ext0 R v h1⟩
 ·cases e
theorem ON{t:TE}{d:D}{v:V}(h:PE X e (tC v))(hd:∀Y k H,Is X.kw Y k H d v):RE X e (mC d):=RE.wk h λO H Q h=>by
 obtain⟨Y,Z,B,d,Z',R,S,e,q⟩:=h;cases e;exact q Y H R.ext0 R v (hd _ _ _)
theorem AF{i j}:RE X (.Constant (.int i) j pos) (mC (.int i)):=ON (t:=λ_ _ _=>True) Vx λ_ _ _=>by unfold Is;rfl
theorem Ei{i j}:RE X (.Constant (.bool i) j pos) (mC (.bl i)):=ON (t:=λ_ _ _=>True) Xr λ_ _ _=>by unfold Is;rfl
theorem Cb{j}:RE X (.Constant .none j pos) (mC .non):=ON (t:=λ_ _ _=>True) Vw λ_ _ _=>by unfold Is;rfl
theorem Ao{i j}:RE X (.Constant (.str i) j pos) (mC (.str i)):=ON (t:=λ_ _ _=>True) Vt λ_ _ _=>by unfold Is;rfl
theorem TJ{x:Str}{v:V}{u:Value}{d:D}(hm:X.mg x=some u)(r:RelV v u)(hd:∀Y k H,Is X.kw Y k H d v)(hg:Gl X x:=by rfl)(hdb:(x==("__debug__" : Str))=false:=by decide):RE X (.Name x pos) (mC d):=
 ON (t:=λ_ _ _=>True) (Tf hg hm r hdb) hd
noncomputable def mOp(g:D->D->M D)(ma mb:Sl->M D):Sl->M D:=λB=>bnd (ma B) λx=>bnd (mb B) λy=>g x y
noncomputable def mUn(g:D->M D)(ma:Sl->M D):Sl->M D:=λB=>bnd (ma B) g
noncomputable def rM(K:KW)(g:D->D->M D):R2:=λx y H Q=>∃Y Z a b d Z',RelH K Y Z H/\Is K Y Z.length H a x/\Is K Y Z.length H b y/\g a b Z=some (d,Z') /\
 Aft K Y Z H Z' λY' H'=>∀v,Is K Y' Z'.length H' d v->Q v H'
noncomputable def rM1(K:KW)(g:D->M D):V->Hp->VK->Prop:=λx H Q=>∃Y Z a d Z',RelH K Y Z H/\Is K Y Z.length H a x/\g a Z=some (d,Z') /\
 Aft K Y Z H Z' λY' H'=>∀v,Is K Y' Z'.length H' d v->Q v H'
noncomputable def rMA(K:KW)(g:List D->M D):List V->Hp->VK->Prop:=λxs H Q=>∃Y Z as d Z',RelH K Y Z H/\IsL K Y Z.length H as xs/\g as Z=some (d,Z') /\
 Aft K Y Z H Z' λY' H'=>∀v,Is K Y' Z'.length H' d v->Q v H'
theorem Mz{K:KW}{g:D->D->M D}{ma mb:Sl->M D}{O:St}{H:Hp}{Q:VK}(h:tE K (mOp g ma mb) O H Q):tOp (rM K g) (tE K ma) (tE K mb) O H Q:=by
 obtain⟨Y,Z,B,d,Z',R,S,e,q⟩:=h;obtain⟨x,w5,e1,e⟩:=AE e;obtain⟨y,w6,e2,e3⟩:=AE e;refine⟨Y,Z,B,x,w5,R,S,e1,λx3 H1 E1 R1 v1 i1=>?_⟩;refine⟨x3,w5,B,y,w6,R1,S.ext E1,e2,λx4 H2 E2 R2 v2 i2=>?_⟩;exact⟨x4,w6,x,y,d,Z',R2,i1.ext E2,i2,e3,λx9 H3 E3 R3 v3 i3=>q x9 H3 ((E1.trans E2).trans E3) R3 v3 i3⟩
theorem XL{K:KW}{g:D->M D}{ma:Sl->M D}{O:St}{H:Hp}{Q:VK}(h:tE K (mUn g ma) O H Q):tUn (rM1 K g) (tE K ma) O H Q:=by
 obtain⟨Y,Z,B,d,Z',R,S,e,q⟩:=h;obtain⟨x,w5,e1,e⟩:=AE e;refine⟨Y,Z,B,x,w5,R,S,e1,λx3 H1 E1 R1 v1 i1=>?_⟩;exact⟨x3,w5,x,d,Z',R1,i1,e,λx9 H3 E3 R3 v3 i3=>q x9 H3 (E1.trans E3) R3 v3 i3⟩
theorem Ad{op:Operator}{g:D->D->M D}{ma mb:Sl->M D}(ho:OpR X (binaryOp op) (rM X.kw g))(ha:RE X a ma)(hb:RE X b mb):RE X (.BinOp a op b pos) (mOp g ma mb):=RE.wk (Xo ho ha.pe hb.pe) λ_ _ _ h=>Mz h
theorem Xa{op:UnaryOp}{g:D->M D}{ma:Sl->M D}(ho:UnR X (unaryOp op) (rM1 X.kw g))(ha:RE X a ma):RE X (.UnaryOp op a pos) (mUn g ma):=RE.wk (Xn ho ha.pe) λ_ _ _ h=>XL h
theorem EL{op:CmpOp}{g:D->D->M D}{ma mb:Sl->M D}(ho:OpR X (compareOp op) (rM X.kw g))(ha:RE X a ma)(hb:RE X b mb)(hm:behindInMarks op b=false:=by first|exact Qs _|rfl):RE X (.Compare a [op] [b] pos) (mOp g ma mb):=
 RE.wk (Ti ho ha.pe hb.pe hm) λ_ _ _ h=>Mz h
theorem AR{g:D->D->M D}{ma mb:Sl->M D}(ho:IxR X (rM X.kw g))(ha:RE X a ma)(hb:RE X b mb)(hs:OA b:=by exact λ_ _=>rfl):RE X (.Subscript a b pos) (mOp g ma mb):=RE.wk (Xp ho ha.pe hb.pe hs) λ_ _ _ h=>Mz h
noncomputable def asB:D->M Bool
 | .bl b=>ret b
 |_=>BQ
noncomputable def AL(m:Sl->M D):Sl->M Bool:=λB=>bnd (m B) asB
theorem Mx{K:KW}{m:Sl->M D}{O:St}{H:Hp}{Q:Bool->Hp->Prop}(h:tT K (AL m) O H Q):tE K m O H λx H'=>∃k,x=.bl k/\Q k H':=by
 obtain⟨Y,Z,B,b,Z',R,S,e,q⟩:=h;obtain⟨x,w5,e1,e⟩:=AE e;refine⟨Y,Z,B,x,w5,R,S,e1,λx3 H1 E1 R1 v1 i1=>?_⟩;cases x with
 |bl k=>
  cases e;unfold Is at i1;exact⟨b,i1,q x3 H1 E1 R1⟩
 |_=>cases e
theorem AZ{op:CmpOp}{g:D->D->M D}{ma mb:Sl->M D}(ho:OpR X (compareOp op) (rM X.kw g))(ha:RE X a ma)(hb:RE X b mb)(hm:behindInMarks op b=false:=by first|exact Qs _|rfl):RT X (.Compare a [op] [b] pos) (AL (mOp g ma mb)):=
 RT.wk (TU ho ha.pe hb.pe hm) λO H Q h=>Mz (Q:=λx H'=>∃k,x=.bl k/\Q k H') (Mx h)
theorem Ef{m:Sl->M D}(h:RE X e m)(he:∀whole,isTrue e X.env whole=(do let v ←whole;standAt e.pos;holding [v] (truthy v)):=by intro _;rfl):RT X e (AL m):=
 RT.wk (Vh h.pe he) λ_ _ _ q=>Mx q
noncomputable def CO(ma mb:Sl->M Bool):Sl->M Bool:=λB=>bnd (ma B) λx=>if x=true then mb B else ret false
noncomputable def mOr(ma mb:Sl->M Bool):Sl->M Bool:=λB=>bnd (ma B) λx=>if x=true then ret true else mb B
noncomputable def Gq(ma:Sl->M Bool):Sl->M Bool:=λB=>bnd (ma B) λx=>ret (!x)
theorem L8{ma:Sl->M Bool}(ha:RT X a ma):RT X (.UnaryOp .Not a pos) (Gq ma):=RT.wk (Vi ha.pe) λO H Q h=>by
 obtain⟨Y,Z,B,b,Z',R,S,e,q⟩:=h;obtain⟨x,w5,e1,e⟩:=AE e;cases e;exact⟨Y,Z,B,x,_,R,S,e1,q⟩
theorem FA{ma:Sl->M Bool}(ha:RT X a ma):RW X (.BoolOp .And [a] pos) ma:=⟨TQ ha.pe⟩
theorem Px{ma:Sl->M Bool}(ha:RT X a ma):RW X (.BoolOp .Or [a] pos) ma:=⟨Vf ha.pe⟩
theorem EI{rest:List Expr}{ma mb:Sl->M Bool}(ha:RT X a ma)(hb:RW X (.BoolOp .And (b::rest) pos) mb):RW X (.BoolOp .And (a::b::rest) pos) (CO ma mb):=RW.wk (Vg ha.pe hb.pe) λO H Q h=>by
 obtain⟨Y,Z,B,z,Z',R,S,e,q⟩:=h;obtain⟨x,w5,e1,e⟩:=AE e;refine⟨Y,Z,B,x,w5,R,S,e1,λx3 H1 E1 R1=>?_⟩;cases x with
 |true=>exact⟨x3,w5,B,z,Z',R1,S.ext E1,e,λx4 H2 E2 R2=>q x4 H2 (E1.trans E2) R2⟩
 |false=>cases e;exact q x3 H1 E1 R1
theorem Py{rest:List Expr}{ma mb:Sl->M Bool}(ha:RT X a ma)(hb:RW X (.BoolOp .Or (b::rest) pos) mb):RW X (.BoolOp .Or (a::b::rest) pos) (mOr ma mb):=RW.wk (Xh ha.pe hb.pe) λO H Q h=>by
 obtain⟨Y,Z,B,z,Z',R,S,e,q⟩:=h;obtain⟨x,w5,e1,e⟩:=AE e;refine⟨Y,Z,B,x,w5,R,S,e1,λx3 H1 E1 R1=>?_⟩;cases x with
 |true=>cases e;exact q x3 H1 E1 R1
 |false=>exact⟨x3,w5,B,z,Z',R1,S.ext E1,e,λx4 H2 E2 R2=>q x4 H2 (E1.trans E2) R2⟩
theorem RW.rt{m:Sl->M Bool}(h:RW X e m):RT X e m:=⟨h.pe.pt⟩
noncomputable def mIf(mc:Sl->M Bool)(ma mb:Sl->M D):Sl->M D:=λB=>bnd (mc B) λx=>if x=true then ma B else mb B
theorem Ha{mc:Sl->M Bool}{ma mb:Sl->M D}(hc:RT X c mc)(ha:RE X a ma)(hb:RE X b mb):RE X (.IfExp c a b pos) (mIf mc ma mb):=RE.wk (Qa hc.pe ha.pe hb.pe) λO H Q h=>by
 obtain⟨Y,Z,B,z,Z',R,S,e,q⟩:=h;obtain⟨x,w5,e1,e⟩:=AE e;refine⟨Y,Z,B,x,w5,R,S,e1,λx3 H1 E1 R1=>?_⟩;cases x with
 |true=>exact⟨x3,w5,B,z,Z',R1,S.ext E1,e,λx4 H2 E2 R2=>q x4 H2 (E1.trans E2) R2⟩
 |false=>exact⟨x3,w5,B,z,Z',R1,S.ext E1,e,λx4 H2 E2 R2=>q x4 H2 (E1.trans E2) R2⟩
noncomputable def Et(ma mb:Sl->M D):Sl->M D:=λB=>bnd (ma B) λx=>bnd (asB x) λc=>if c=true then mb B else ret (.bl false)
noncomputable def LK(ma:Sl->M D):Sl->M D:=λB=>bnd (ma B) λx=>bnd (asB x) λc=>ret (.bl (!c))
theorem IN{x:D}{Z w5:Mh}{c:Bool}(h:asB x Z=some (c,w5)):x=.bl c/\w5=Z:=by
 cases x with
 |bl k=>cases h;exact⟨rfl,rfl⟩
 |_=>cases h
theorem MB{op}{m:Sl->M D}(h:RE X a m):RE X (.BoolOp op [a] pos) m:=⟨Vu h.pe⟩
theorem Jr{rest:List Expr}{ma mb:Sl->M D}(ha:RE X a ma)(hb:RE X (.BoolOp .And (b::rest) pos) mb):RE X (.BoolOp .And (a::b::rest) pos) (Et ma mb):=RE.wk (V1 ha.pe hb.pe) λO H Q h=>by
 obtain⟨Y,Z,B,z,Z',R,S,e,q⟩:=h;obtain⟨x,w5,e1,e⟩:=AE e;obtain⟨c,w6,e2,e⟩:=AE e;obtain⟨rfl,rfl⟩:=IN e2;refine⟨Y,Z,B,_,w6,R,S,e1,λx3 H1 E1 R1 v1 i1=>⟨c,by unfold Is at i1;exact i1,?_⟩⟩;cases c with
 |true=>exact⟨x3,w6,B,z,Z',R1,S.ext E1,e,λx4 H2 E2 R2=>q x4 H2 (E1.trans E2) R2⟩
 |false=>cases e;exact q x3 H1 E1 R1 _ (by unfold Is;rfl)
theorem Vd{ma:Sl->M D}(ha:RE X a ma):RE X (.UnaryOp .Not a pos) (LK ma):=RE.wk (Vv ha.pe) λO H Q h=>by
 obtain⟨Y,Z,B,z,Z',R,S,e,q⟩:=h;obtain⟨x,w5,e1,e⟩:=AE e;obtain⟨c,w6,e2,e⟩:=AE e;obtain⟨rfl,rfl⟩:=IN e2;cases e;exact⟨Y,Z,B,_,_,R,S,e1,λx3 H1 E1 R1 v1 i1=>⟨c,by unfold Is at i1;exact i1,q x3 H1 E1 R1 _ (by unfold Is;rfl)⟩⟩
noncomputable def Es(g g':D->D->M D)(ma mb mc:Sl->M D):Sl->M D:=λB=>bnd (ma B) λx=>bnd (mb B) λy=>bnd (g x y) λz=>bnd (asB z) λk=>if k=true then bnd (mc B) λw=>g' y w else ret (.bl false)
noncomputable def AK:Sl->M (List D):=λ_=>ret []
noncomputable def AC(m:Sl->M D)(r:Sl->M (List D)):Sl->M (List D):=λB=>bnd (m B) λx=>bnd (r B) λxs=>ret (x::xs)
theorem AJ:RA X [] AK:=RA.wk MF λO H Q h=>by
 obtain⟨Y,Z,B,z,Z',R,S,e,q⟩:=h;cases e;exact q Y H R.ext0 R [] .nil
theorem AD{m:Sl->M D}{r:Sl->M (List D)}(h:RE X e m)(hr:RA X es r)(hs:starEach (e::es) X.env=(false,eval e X.env)::starEach es X.env:=by exact BY rfl):RA X (e::es) (AC m r):=RA.wk (Jy h.pe hr.pe hs) λO H Q h=>by
 obtain⟨Y,Z,B,z,Z',R,S,e,q⟩:=h;obtain⟨x,w5,e1,e⟩:=AE e;obtain⟨xs,w6,e2,e⟩:=AE e;cases e;exact⟨Y,Z,B,x,w5,R,S,e1,λx3 H1 E1 R1 v1 i1=>⟨x3,w5,B,xs,_,R1,S.ext E1,e2,λx4 H2 E2 R2 vs i2=>q x4 H2 (E1.trans E2) R2 _ (.cons (i1.ext E2) i2)⟩⟩
noncomputable def lim(n:Nat):M Unit:=λZ=>if n<=sizeLine then some ((),Z) else none
theorem D1{n:Nat}{Z w5:Mh}{u:Unit}(h:lim n Z=some (u,w5)):n<=sizeLine/\w5=Z:=by
 unfold lim at h;split at h
 ·rename_i hn;cases h;exact⟨hn,rfl⟩
 ·cases h
theorem Q3{n:Nat}(h:n<=sizeLine)(Z:Mh):lim n Z=some ((),Z):=if_pos h
noncomputable def A1(ds:List D):M D:=bnd (lim ds.length) λ_=>ret (.tup ds)
noncomputable def B9(ds:List D):M D:=bnd (lim ds.length) λ_=>ret (.lst ds)
noncomputable def Dz(ds:List D):M D:=bnd (lim ds.length) λ_=>λZ=>some (.ref Z.length,Z++[.lst ds])
noncomputable def AG(f:List D->M D)(m:Sl->M (List D)):Sl->M D:=λB=>bnd (m B) f
theorem NQ{K:KW}{Y:Nat->Addr}{Z Z':Mh}{H:Hp}{ds:List D}{vs:List V}{d:D}{Q:VK}(R:RelH K Y Z H)(i:IsL K Y Z.length H ds vs)(e:A1 ds Z=some (d,Z'))(q:Aft K Y Z H Z' λY' H'=>∀v,Is K Y' Z'.length H' d v->Q v H'):
  vs.length<=sizeLine/\∀p,H p=none->Q (.ref p) (upd H p (.tup vs)):=by
 obtain⟨u,w5,e1,e2⟩:=AE e;clear e;obtain⟨hl,e3⟩:=D1 e1;cases e2;cases e3;refine⟨by rw[i.length];exact hl,λp hp=>?_⟩;obtain⟨E1,R1⟩:=R.laid (.tup vs) hp;exact q Y _ E1 R1 _ (by unfold Is;exact⟨p,vs,rfl,SqT.of Bw,i.ext E1⟩)
theorem G4{K:KW}{Y:Nat->Addr}{Z Z':Mh}{H:Hp}{ds:List D}{vs:List V}{d:D}{Q:VK}(R:RelH K Y Z H)(i:IsL K Y Z.length H ds vs)(e:B9 ds Z=some (d,Z'))(q:Aft K Y Z H Z' λY' H'=>∀v,Is K Y' Z'.length H' d v->Q v H'):
  vs.length<=sizeLine/\∀p,H p=none->Q (.ref p) (upd H p (.lst vs)):=by
 obtain⟨u,w5,e1,e2⟩:=AE e;clear e;obtain⟨hl,e3⟩:=D1 e1;cases e2;cases e3;refine⟨by rw[i.length];exact hl,λp hp=>?_⟩;obtain⟨E1,R1⟩:=R.laid (.lst vs) hp;have ho:∀n,n<Z.length->Y n≠p:=λn hn z=>by
  obtain⟨o,e,_⟩:=R.muts n hn;rw[z,hp] at e;cases e
 exact q Y _ E1 R1 _ (by unfold Is;exact⟨p,vs,rfl,Bw,ho,i.ext E1⟩)
theorem Tx{K:KW}{Y:Nat->Addr}{Z Z':Mh}{H:Hp}{ds:List D}{vs:List V}{d:D}{Q:VK}(R:RelH K Y Z H)(i:IsL K Y Z.length H ds vs)(e:Dz ds Z=some (d,Z'))(q:Aft K Y Z H Z' λY' H'=>∀v,Is K Y' Z'.length H' d v->Q v H'):
  vs.length<=sizeLine/\∀p,H p=none->Q (.ref p) (upd H p (.lst vs)):=by
 obtain⟨u,w5,e1,e2⟩:=AE e;clear e;obtain⟨hl,e3⟩:=D1 e1;cases e2;cases e3;refine⟨by rw[i.length];exact hl,λp hp=>?_⟩;obtain⟨Y',E1,R1,e0⟩:=R.grown (m:=.lst ds) hp ⟨vs,rfl,i⟩;exact q Y' _ E1 R1 _ (by unfold Is;exact⟨by simp,by rw[e0]⟩)
theorem E9{K:KW}{f:List D->M D}{m:Sl->M (List D)}{O:St}{H:Hp}{Q:VK}{R:List V->Hp->Prop}(h:tE K (AG f m) O H Q)
  (hf:∀Y Z Z' H ds vs d,RelH K Y Z H->IsL K Y Z.length H ds vs->f ds Z=some (d,Z')->(Aft K Y Z H Z' λY' H'=>∀v,Is K Y' Z'.length H' d v->Q v H')->R vs H):tL K m O H R:=by
 obtain⟨Y,Z,B,z,Z',S1,S,e,q⟩:=h;obtain⟨ds,w5,e1,e⟩:=AE e;exact⟨Y,Z,B,ds,w5,S1,S,e1,λx3 H1 E1 R1 vs iv=>hf x3 w5 Z' H1 ds vs z R1 iv e λx4 H2 E2 R2=>q x4 H2 (E1.trans E2) R2⟩
theorem A0{x1}{m:Sl->M (List D)}(h:RA X es m):RE X (.Tuple es x1 pos) (AG A1 m):=RE.wk (Vs h.pe) λ_ _ _ q=>E9 q λ_ _ _ _ _ _ _ R i e q=>NQ R i e q
theorem Eh{m:Sl->M (List D)}(h:RA X es m):RE X (.List es pos) (AG B9 m):=RE.wk (QZ h.pe) λ_ _ _ q=>E9 q λ_ _ _ _ _ _ _ R i e q=>G4 R i e q
theorem Dl{m:Sl->M (List D)}(h:RA X es m):RE X (.List es pos) (AG Dz m):=RE.wk (QZ h.pe) λ_ _ _ q=>E9 q λ_ _ _ _ _ _ _ R i e q=>Tx R i e q
theorem A2{id:String}{x:Str}{g:List D->M D}{m:Sl->M (List D)}{p:Pos}(hc:CU X (.builtin id) (rMA X.kw g))(hm:X.mg x=none)(hv:bootBuiltins x=some (.builtin id))(ha:RA X (e::es) m)(hg:Gl X x:=by rfl)(hn:x ≠ "__name__" := by decide)(hdb:(x==("__debug__" : Str))=false:=by decide)
  (he:starEach (e::es) X.env=(false,eval e X.env)::starEach es X.env:=by exact BY rfl) (hpl:(backTo pos (starEach es X.env)).any (·.1)=false:=by exact C2 rfl):RE X (.Call (.Name x p) (e::es) [] pos) (AG g m):=
 RE.wk (Qh hc hg hm hv ha.pe hn hdb he hpl) λ_ _ _ q=>E9 q λY Z Z' H ds vs d R i e q=>⟨Y,Z,ds,d,Z',R,i,e,q⟩
theorem CJ{T:String}{x:Str}{g:List D->M D}{m:Sl->M (List D)}{p:Pos}(hc:CU X (.type T) (rMA X.kw g))(hm:X.mg x=none)(hv:bootBuiltins x=some (.type T))(ha:RA X (e::es) m)(hg:Gl X x:=by rfl)(hn:x ≠ "__name__" := by decide)(hdb:(x==("__debug__" : Str))=false:=by decide)
  (he:starEach (e::es) X.env=(false,eval e X.env)::starEach es X.env:=by exact BY rfl) (hpl:(backTo pos (starEach es X.env)).any (·.1)=false:=by exact C2 rfl):RE X (.Call (.Name x p) (e::es) [] pos) (AG g m):=
 RE.wk (GF hc hg hm hv ha.pe hn hdb he hpl) λ_ _ _ q=>E9 q λY Z Z' H ds vs d R i e q=>⟨Y,Z,ds,d,Z',R,i,e,q⟩
noncomputable def spM(K:KW)(n:Nat)(φ:List D->M D):Sp:=λvs H Q _=>vs.length=n/\rMA K φ vs H Q
theorem TL{n k:Nat}{φ:List D->M D}{f:Addr}{fd:FuncData}{ps:List Str}{x:Str}{m:Sl->M (List D)}{p:Pos}(F:FnOk X.prog X.w X.kw X.mg X.base CX0 k f fd ps (spM X.kw n φ))(hr:Room k X.A)(hm:X.mg x=some (.ref f))(hk:PySem.W.keepIn X.kw (.ref f)=true)(hb:Binds X.kw fd ps [])
  (hφ:∀ds Z r,φ ds Z=some r->ds.length=n) (ha:RA X (e::es) m) (hg:Gl X x:=by rfl) (hdb:(x==("__debug__" : Str))=false:=by decide) (he:starEach (e::es) X.env=(false,eval e X.env)::starEach es X.env:=by exact BY rfl) (hpl:(backTo pos (starEach es X.env)).any (·.1)=false:=by exact C2 rfl) :
  RE X (.Call (.Name x p) (e::es) [] pos) (AG φ m):=
 RE.wk (Tj F hr hg hm hk hb .nil Xu ha.pe hdb he hpl) λ_ _ _ q=>E9 q λY Z Z' H ds vs d R i e q=>by
  rw[AAa];exact⟨by rw[i.length];exact hφ ds Z _ e,Y,Z,ds,d,Z',R,i,e,q⟩
end
section
variable{X:Cx}{e a c tg iter:Expr}{es:List Expr}{pos:Pos}{st:Stmt}{rest body:List Stmt}
noncomputable def Au:Sl->M (Fl×Sl):=λB=>ret (.next,B)
noncomputable def AU(m1 m2:Sl->M (Fl×Sl)):Sl->M (Fl×Sl):=λB=>bnd (m1 B) λr=>match r.1 with
 | .next=>m2 r.2
 |f=>ret (f,r.2)
theorem Ai:RSs X [] Au:=RSs.wk TW λDn O H h=>by
 obtain⟨Y,Z,B,f,x8,Z',R,S,e,q⟩:=h;cases e;exact q Y H R.ext0 R O S
theorem AI(h1:RS X st m1)(h2:RSs X rest m2):RSs X (st::rest) (AU m1 m2):=RSs.wk (QM h1.pe h2.pe) λDn O H h=>by
 obtain⟨Y,Z,B,f,x8,Z',R,S,e,q⟩:=h;obtain⟨⟨f1,w9⟩,w5,e1,e⟩:=AE e;refine⟨Y,Z,B,f1,w9,w5,R,S,e1,λx3 H1 E1 R1 u8 S1=>?_⟩;cases f1 with
 |next=>exact⟨x3,w5,w9,f,x8,Z',R1,S1,e,λx4 H2 E2 R2=>q x4 H2 (E1.trans E2) R2⟩
 |brk=>cases e;exact q x3 H1 E1 R1 u8 S1
 |cont=>cases e;exact q x3 H1 E1 R1 u8 S1
 |rt d=>cases e;exact q x3 H1 E1 R1 u8 S1
 |xc x=>cases e;exact q x3 H1 E1 R1 u8 S1
theorem AN(h:RS X st m):RSs X [st] m:=⟨TV h.pe⟩
noncomputable def BD(m:Sl->M D):Sl->M (Fl×Sl):=λB=>bnd (m B) λ_=>ret (.next,B)
theorem CV(h:RE X e m)(hs:swapsWith e none pos.line X.env=pure false:=by rfl):RS X (.Expr e pos) (BD m):=RS.wk (TZ h.pe hs) λDn O H h=>by
 obtain⟨Y,Z,B,f,x8,Z',R,S,e,q⟩:=h;obtain⟨x,w5,e1,e⟩:=AE e;cases e;exact⟨Y,Z,_,x,_,R,S,e1,λx3 H1 E1 R1 v i1=>q x3 H1 E1 R1 O (S.ext E1)⟩
noncomputable def A5(m:Sl->M D):Sl->M (Fl×Sl):=λB=>bnd (m B) λd=>ret (.rt d,B)
theorem Ae(h:RE X e m):RS X (.Return (some e) pos) (A5 m):=RS.wk (Vk h.pe) λDn O H h=>by
 obtain⟨Y,Z,B,f,x8,Z',R,S,e,q⟩:=h;obtain⟨x,w5,e1,e⟩:=AE e;cases e;exact⟨Y,Z,_,x,_,R,S,e1,λx3 H1 E1 R1 v i1=>q x3 H1 E1 R1 O (S.ext E1) v i1⟩
noncomputable def sIf(mc:Sl->M Bool)(m1 m2:Sl->M (Fl×Sl)):Sl->M (Fl×Sl):=λB=>bnd (mc B) λx=>if x=true then m1 B else m2 B
theorem BJ(hc:RT X c mc)(h1:RSs X body m1)(h2:RSs X rest m2):RS X (.If c body rest pos) (sIf mc m1 m2):=RS.wk (Xl hc.pe h1.pe h2.pe) λDn O H h=>by
 obtain⟨Y,Z,B,f,x8,Z',R,S,e,q⟩:=h;obtain⟨x,w5,e1,e⟩:=AE e;refine⟨Y,Z,B,x,w5,R,S,e1,λx3 H1 E1 R1=>?_⟩;cases x with
 |true=>exact⟨x3,w5,B,f,x8,Z',R1,S.ext E1,e,λx4 H2 E2 R2=>q x4 H2 (E1.trans E2) R2⟩
 |false=>exact⟨x3,w5,B,f,x8,Z',R1,S.ext E1,e,λx4 H2 E2 R2=>q x4 H2 (E1.trans E2) R2⟩
noncomputable def DW:Sl->M (Fl×Sl):=λ_=>BQ
theorem HY:RS X st DW:=RS.wk QP λDn O H h=>by
 obtain⟨Y,Z,B,f,x8,Z',R,S,e,q⟩:=h;cases e
noncomputable def tG(K:KW)(bf:D->Sl->M Sl):TG:=λv O H Q=>∃Y Z B d x8 Z',RelH K Y Z H/\RelS K Y Z.length H B O/\Is K Y Z.length H d v/\bf d B Z=some (x8,Z') /\
 Aft K Y Z H Z' λY' H'=>∀O',RelS K Y' Z'.length H' x8 O'->Q O' H'
structure RG(X:Cx)(tg:Expr)(bf:D->Sl->M Sl):Prop where
 pe:PG X tg (tG X.kw bf)
theorem PG.wk(h:PG X tg t)(w:∀v O H Q,t' v O H Q->t v O H Q):PG X tg t':=λw4 s O H v u Q I r q=>h w4 s O H v u Q I r (w v O H Q q)
theorem RG.wk(h:PG X tg t)(w:∀v O H Q,tG X.kw bf v O H Q->t v O H Q):RG X tg bf:=⟨PG.wk h w⟩
noncomputable def AO(i:Nat):D->Sl->M Sl:=λd B=>ret (B.set i (some d))
theorem Jh(h:tG K (AO i) v O H Q):Gh i v O H Q:=by
 obtain⟨Y,Z,B,d,x8,Z',R,S,i1,e,q⟩:=h;cases e;exact q Y H R.ext0 R _ (S.set i i1)
theorem EK(i:Nat)(hN:X.N.Nodup)(hi:X.N[i]?=some x:=by rfl)(hx:Loc X.env.scope x:=by first|exact Or.inl rfl|exact Or.inr rfl)(hf:X.fn x=true∨X.env.scope.names.lookup x=some .local:=by first|exact .inl rfl|exact .inr rfl|assumption):RG X (.Name x pos) (AO i):=
 RG.wk (BK hN hi hx hf) λ_ _ _ _ h=>Jh h
noncomputable def KY:List Nat->List D->Sl->M Sl
 |[],[],B=>ret B
 |i::is,d::ds,B=>bnd (AO i d B) λw9=>KY is ds w9
 |_,_,_=>BQ
noncomputable def Gs(is:List Nat):D->Sl->M Sl
 | .tup ds,B=>if ds.length=is.length then KY is ds B else BQ
 |_,_=>BQ
noncomputable def MU:List Nat->TGs
 |[]=>YK
 |i::is=>Uz (Gh i) (MU is)
theorem JH:∀{is:List Nat} {ds:List D} {vs:List V} {B x8:Sl} {O:St} {Y:Nat->Addr} {Z Z':Mh} {H:Hp} {Q:St->Hp->Prop},RelH K Y Z H->RelS K Y Z.length H B O->IsL K Y Z.length H ds vs->KY is ds B Z=some (x8,Z')->
  (Z'=Z->∀O',RelS K Y Z.length H x8 O'->Q O' H)->MU is vs O H Q
 |[],[],_,_,_,_,_,_,_,_,_,R,S,i,e,q=>by
  cases e;unfold IsL at i;subst i;exact⟨rfl,q rfl _ S⟩
 |_::is,_::ds,_,B,x8,O,Y,Z,Z',H,Q,R,S,i,e,q=>by
  unfold IsL at i;obtain⟨v,vs',rfl,i1,i2⟩:=i;exact⟨v,vs',rfl,JH (is:=is) (ds:=ds) R (S.set _ i1) i2 e q⟩
 |[],_::_,_,_,_,_,_,_,_,_,_,_,_,_,e,_=>by cases e
 |_::_,[],_,_,_,_,_,_,_,_,_,_,_,_,e,_=>by cases e
theorem Jq(hc:X.calm=true)(h:PGs X es (MU is))(hn:(assignEach es X.env).length=is.length:=by rfl)(hst:(assignEach es X.env).findIdx? (·.1)=none:=by rfl):RG X (.Tuple es k pos) (Gs is):=
 RG.wk (Vp hc h hn hst) λv O H Q h=>by
  obtain⟨Y,Z,B,d,x8,Z',R,S,i1,e,q⟩:=h;cases d with
  |tup ds=>
   unfold Is at i1;obtain⟨p,vs,rfl,h1,h2⟩:=i1;have e':(if ds.length=is.length then KY is ds B else BQ) Z=some (x8,Z'):=e;by_cases hl:ds.length=is.length
   ·rw[if_pos hl] at e';have e:=e';refine⟨p,vs,rfl,h1,by rw[h2.length,hl],JH R S h2 e λz O' S'=>?_⟩;subst z;exact q Y H R.ext0 R O' S'
   ·rw[if_neg hl] at e';cases e'
  |_=>cases e
noncomputable def Ab(m:Sl->M D)(bf:D->Sl->M Sl):Sl->M (Fl×Sl):=λB=>bnd (m B) λd=>bnd (bf d B) λx8=>ret (.next,x8)
theorem My(hg:∀v H Q,tG K bf v O H Q->g v O H Q)(h:tSt K (Ab m bf) Dn O H):S6 (tE K m) g Dn O H:=by
 obtain⟨Y,Z,B,f,x8,Z',R,S,e,q⟩:=h;obtain⟨x,w5,e1,e⟩:=AE e;obtain⟨w9,w6,e2,e⟩:=AE e;cases e;exact⟨Y,Z,B,x,w5,R,S,e1,λx3 H1 E1 R1 v i1=>hg _ _ _ ⟨x3,w5,B,x,_,_,R1,S.ext E1,i1,e2,λx4 H2 E2 R2 O' S'=>q x4 H2 (E1.trans E2) R2 O' S'⟩⟩
theorem Ag(i:Nat)(hN:X.N.Nodup)(he:RE X e m)(hi:X.N[i]?=some x:=by rfl)(hx:Loc X.env.scope x:=by first|exact Or.inl rfl|exact Or.inr rfl)(hs:swapsWith e (some (.Name x pos')) pos.line X.env=pure false:=by rfl)(hf:X.fn x=true∨X.env.scope.names.lookup x=some .local:=by first|exact .inl rfl|exact .inr rfl|assumption):
  RS X (.Assign [.Name x pos'] e pos) (Ab m (AO i)):=RS.wk (Vj hN hi hx he.pe hs hf) λ_ _ _ h=>My (λ_ _ _ q=>Jh q) h
theorem P3(he:RE X e m)(hg:RG X tg bf)(hs:swapsWithSole [tg] e pos.line X.env=pure false:=by rfl)(hw:swappedStores [tg] e X.env=pure none:=by rfl)
  (h1:(assignEach [tg] X.env).map (·.2)=[assign tg X.env]:=by rfl):RS X (.Assign [tg] e pos) (Ab m bf):=RS.wk (Vn he.pe hg.pe hs hw h1) λ_ _ _ h=>My (λ_ _ _ q=>q) h
noncomputable def Go(mc:Sl->M Bool)(mb:Sl->M (Fl×Sl)):Nat->Sl->M (Fl×Sl)
 |0,_=>BQ
 |n+1,B=>bnd (mc B) λx=>if x=true then bnd (mb B) λr=>match r.1 with
   | .next=>Go mc mb n r.2
   | .cont=>Go mc mb n r.2
   | .brk=>ret (.next,r.2)
   | .rt d=>ret (.rt d,r.2)
   | .xc x=>ret (.xc x,r.2)
  else ret (.next,B)
noncomputable def Jp(n:Nat)(mc:Sl->M Bool)(mb:Sl->M (Fl×Sl)):Sl->M (Fl×Sl):=Go mc mb n
theorem Ky(n:Nat)(hp:PassesOwn (model X.prog X.w) X.A X.env X.xe)(hc:RT X c mc)(hb:RSs X body mb):RS X (.While c body [] pos) (Jp n mc mb):=RS.wk (QN hp hc.pe hb.pe) λDn O H h=>by
 refine⟨λn O H=>tSt X.kw (Go mc mb n) Dn O H,⟨n,h⟩,?_⟩;intro n O H h;obtain⟨Y,Z,B,f,x8,Z',R,S,e,q⟩:=h;cases n with
 |zero=>cases e
 |succ n=>
  obtain⟨x,w5,e1,e⟩:=AE e;refine⟨Y,Z,B,x,w5,R,S,e1,λx3 H1 E1 R1=>?_⟩;cases x with
  |false=>cases e;exact q x3 H1 E1 R1 O (S.ext E1)
  |true=>
   obtain⟨⟨f2,x5⟩,w6,e2,e⟩:=AE e;refine⟨λO' H'=>tSt X.kw (Go mc mb n) Dn O' H',λO' H' z=>⟨n,Nat.lt_succ_self n,z⟩,?_⟩;refine⟨x3,w5,B,f2,x5,w6,R1,S.ext E1,e2,λx4 H2 E2 R2 u4 S2=>?_⟩;have E12:=E1.trans E2;cases f2 with
   |next=>exact⟨x4,w6,x5,f,x8,Z',R2,S2,e,λx9 H3 E3 R3=>q x9 H3 (E12.trans E3) R3⟩
   |cont=>exact⟨x4,w6,x5,f,x8,Z',R2,S2,e,λx9 H3 E3 R3=>q x9 H3 (E12.trans E3) R3⟩
   |brk=>cases e;exact q x4 H2 E12 R2 u4 S2
   |rt d=>cases e;exact q x4 H2 E12 R2 u4 S2
   |xc x=>cases e;exact q x4 H2 E12 R2 u4 S2
def ItM(K:KW)(J:It)(ds:List D)(Y:Nat->Addr)(Z:Mh)(H:Hp):Prop:=∀Y' (Z':Mh) H',Ext Y Z.length H Y' Z'.length H'->RelH K Y' Z' H'->
 (∀i,i<ds.length->J.go i H')/\J.stop ds.length H'/\∀(i:Nat) x H2 d,ds[i]?=some d->J.yld i H' x H2->Ext Y' Z'.length H' Y' Z'.length H2/\RelH K Y' Z' H2/\Is K Y' Z'.length H2 d x
theorem ItM.ext(h:ItM K J ds Y Z H)(E:Ext Y Z.length H Y' Z'.length H'):ItM K J ds Y' Z' H':=λx4 w6 H2 E2 R2=>h x4 w6 H2 (E.trans E2) R2
noncomputable def tI(K:KW)(m:Sl->M (List D)):TI:=λO H R=>∃Y Z B ds Z',RelH K Y Z H/\RelS K Y Z.length H B O/\m B Z=some (ds,Z') /\
 Aft K Y Z H Z' λY' H'=>∀J,ItM K J ds Y' Z' H'->R J H'
structure RI(X:Cx)(tg iter:Expr)(m:Sl->M (List D)):Prop where
 pe:PI X tg iter (tI X.kw m)
theorem PI.wk(h:PI X tg iter t)(w:∀O H R,t' O H R->t O H R):PI X tg iter t':=λw4 s O H R I q=>h w4 s O H R I (w O H R q)
theorem RI.wk(h:PI X tg iter t)(w:∀O H R,tI X.kw m O H R->t O H R):RI X tg iter m:=⟨PI.wk h w⟩
theorem PI.or(h:PI X tg iter t)(h':PI X tg iter t'):PI X tg iter (λO H R=>t O H R∨t' O H R):=λw4 s O H R I q=>q.elim (h w4 s O H R I) (h' w4 s O H R I)
noncomputable def N8:D->M (List D)
 | .lst ds=>ret ds
 | .tup ds=>ret ds
 | .scr ns=>ret (ns.map D.int)
 |_=>BQ
noncomputable def Cy(m:Sl->M D):Sl->M (List D):=λB=>bnd (m B) N8
theorem LN(st:∀Y' (Z':Mh) H',Ext Y Z.length H Y' Z'.length H'->RelH K Y' Z' H'->SqL K H' p vs)(i:IsL K Y Z.length H ds vs):ItM K (Itl K p) ds Y Z H:=by
 intro Y' Z' H' E R;have h:=st Y' Z' H' E R;have hl:=i.length;refine⟨λj hj=>⟨vs,vs[j],h,by simp⟩,⟨vs,h,by omega⟩,λj x H2 d hd y=>?_⟩;obtain⟨e,y⟩:=y;subst e;obtain⟨v,ev,iv⟩:=(i.ext E).get hd;have:=y vs h;rw[ev] at this;cases this;exact⟨R.ext0,R,iv⟩
theorem T7{K:KW}{Y:Nat->Addr}{Z:Mh}(h:SqT K H p vs)(i:IsL K Y Z.length H ds vs):ItM K (Itt K p) ds Y Z H:=by
 intro Y' Z' H' E R;have h:=Jj E h;have hl:=i.length;refine⟨λj hj=>⟨vs,vs[j],h,by simp⟩,⟨vs,h,by omega⟩,λj x H2 d hd y=>?_⟩;obtain⟨e,y⟩:=y;subst e;obtain⟨v,ev,iv⟩:=(i.ext E).get hd;have:=y vs h;rw[ev] at this;cases this;exact⟨R.ext0,R,iv⟩
theorem TF(q:tI K (Cy m) O H R):Uy K (tE K m) O H R∨YI K (tE K m) O H R:=by
 obtain⟨Y,Z,B,ds,Z',R0,S,e,q⟩:=q;obtain⟨x,w5,e1,e⟩:=AE e;cases x with
 |lst es=>
  cases e;refine .inl ⟨Y,Z,B,_,_,R0,S,e1,λx3 H1 E1 R1 v i1=>?_⟩;unfold Is at i1;obtain⟨p,vs,rfl,h1,hn,h2⟩:=i1;exact⟨p,rfl,⟨vs,SqL.of h1⟩,q x3 H1 E1 R1 _ (LN (λY' Z' H' E _=>SqL.of (E.keep p _ h1 hn)) h2)⟩
 |tup es=>
  cases e;refine .inr ⟨Y,Z,B,_,_,R0,S,e1,λx3 H1 E1 R1 v i1=>?_⟩;unfold Is at i1;obtain⟨p,vs,rfl,h1,h2⟩:=i1;exact⟨p,rfl,⟨vs,h1⟩,q x3 H1 E1 R1 _ (T7 h1 h2)⟩
 |scr ns=>
  cases e;refine .inl ⟨Y,Z,B,_,_,R0,S,e1,λx3 H1 E1 R1 v i1=>?_⟩;unfold Is at i1;obtain⟨p,rfl,h1⟩:=i1;exact⟨p,rfl,⟨_,h1.sq⟩,q x3 H1 E1 R1 _ (LN (λY' Z' H' E _=>(Jo E h1).sq) (IsL.ofInts ns))⟩
 |non=>cases e
 |bl _=>cases e
 |int _=>cases e
 |str _=>cases e
 |ty _=>cases e
 |ref _=>cases e
theorem Ca(h:RE X e m):RI X tg e (Cy m):=RI.wk (PI.or (Jx h.pe) (Vo h.pe)) λ_ _ _ q=>TF q
noncomputable def L9(lo hi:Int):List D:=(List.range (hi-lo).toNat).map λ(j:Nat)=>D.int (lo+(j:Int))
noncomputable def NE:List D->M (List D)
 |[.int j]=>λZ=>if -(2 ^ 62)<=j/\j<2 ^ 62 then some (L9 0 j,Z) else none
 |_=>BQ
noncomputable def Hg(m:Sl->M (List D)):Sl->M (List D):=λB=>bnd (m B) NE
theorem T8:ItM K (Itr lo (hi-lo).toNat) (L9 lo hi) Y Z H:=by
 intro Y' Z' H' E R;have hl:(L9 lo hi).length=(hi-lo).toNat:=by simp[L9]
 rw[hl];refine⟨λj hj=>hj,AAE _,λj x H2 d hd y=>?_⟩;obtain⟨e,y⟩:=y;subst e;unfold L9 at hd;rw[AAV] at hd;cases q:(List.range (hi-lo).toNat)[j]? with
 |none=>rw[q] at hd;cases hd
 |some z=>
  rw[q] at hd;have hz:z=j:=by
   have:=(AAT.mp q).2;simpa using this.symm
  subst hz;cases hd;exact⟨R.ext0,R,by unfold Is;exact y⟩
theorem Iu(hm:X.mg "range" = none)(ha:RA X [a] m)(hg:Gl X "range" := by rfl)(hs:starEach [a] X.env=[(false,eval a X.env)]:=by rfl):RI X tg (.Call (.Name "range" p) [a] [] pos) (Hg m):=
 RI.wk (OT hg hm ha.pe hs) λO H R q=>by
  obtain⟨Y,Z,B,ds,Z',R0,S,e,q⟩:=q;obtain⟨xs,w5,e1,e⟩:=AE e;refine⟨Y,Z,B,xs,w5,R0,S,e1,λx3 H1 E1 R1 vs i1=>?_⟩;unfold NE at e;split at e
  ·rename_i j;split at e
   ·rename_i hb;cases e;unfold IsL Is at i1;obtain⟨v,vs',rfl,rfl,i2⟩:=i1;unfold IsL at i2;subst i2;refine⟨j,rfl,hb.1,hb.2,q x3 H1 E1 R1 _ ?_⟩;have:=T8 (K:=X.kw) (Y:=x3) (Z:=Z') (H:=H1) (lo:=0) (hi:=j);rw[Int.sub_zero] at this;exact this
   ·cases e
  ·cases e
noncomputable def Cg(bf:D->Sl->M Sl)(mb:Sl->M (Fl×Sl)):List D->Sl->M (Fl×Sl)
 |[],B=>ret (.next,B)
 |x::xs,B=>bnd (bf x B) λw9=>bnd (mb w9) λr=>match r.1 with
  | .next=>Cg bf mb xs r.2
  | .cont=>Cg bf mb xs r.2
  | .brk=>ret (.next,r.2)
  | .rt d=>ret (.rt d,r.2)
  | .xc x=>ret (.xc x,r.2)
noncomputable def FL(src:Sl->M (List D))(bf:D->Sl->M Sl)(mb:Sl->M (Fl×Sl)):Sl->M (Fl×Sl):=λB=>bnd (src B) λds=>Cg bf mb ds B
theorem Du(hp:PassesOwn (model X.prog X.w) X.A X.env X.xe)(hc:X.calm=true)(hi:RI X tg iter src)(hg:RG X tg bf)(hb:RSs X body mb)
  (hs:∀x,foldedSetIterable iter X.env x=pure x:=by intro _;rfl):RS X (.For tg iter body [] pos) (FL src bf mb):=RS.wk (QQ hp hc hi.pe hg.pe hb.pe hs) λDn O H h=>by
 obtain⟨Y,Z,B,f,x8,Z',R,S,e,q⟩:=h;obtain⟨ds,w5,e1,e⟩:=AE e;refine⟨Y,Z,B,ds,w5,R,S,e1,λx3 H1 E1 R1 J it=>?_⟩
 let W:Nat->Nat->St->Hp->Prop:=λi m O H=>m=ds.length-i/\i<=ds.length/\∃Y Z B f x8 Z',RelH X.kw Y Z H/\RelS X.kw Y Z.length H B O/\ItM X.kw J ds Y Z H/\Cg bf mb (ds.drop i) B Z=some ((f,x8),Z') /\
  Aft X.kw Y Z H Z' λY' H'=>∀O',RelS X.kw Y' Z'.length H' x8 O'->FlP X.kw Dn Y' Z'.length H' x8 O' f
 refine⟨W,⟨ds.length,by simp,AAk _,x3,w5,B,f,x8,Z',R1,S.ext E1,it,e,λx4 H2 E2 R2=>q x4 H2 (E1.trans E2) R2⟩,?_⟩;rintro i m O H ⟨hm,hil,Y,Z,B,f,x8,Z',R,S,it,e,q⟩;obtain⟨go,stop,yl⟩:=it Y Z H R.ext0 R;by_cases hlt:i<ds.length
 ·refine .inr ⟨go i hlt,λO' H'=>W (i+1) (ds.length-(i+1)) O' H',λO' H' z=>⟨_,by omega,z⟩,λx H2 y=>?_⟩;have hd:ds[i]?=some ds[i]:=by simp[hlt]
  obtain⟨E2,R2,ix⟩:=yl i x H2 _ hd y;rw[List.drop_eq_getElem_cons hlt] at e;obtain⟨w9,w5,e1,e⟩:=AE e;obtain⟨⟨f2,x5⟩,w6,e2,e⟩:=AE e;refine⟨Y,Z,B,_,w9,w5,R2,S.ext E2,ix,e1,λx9 H3 E3 R3 u6 S3=>?_⟩;refine⟨x9,w5,w9,f2,x5,w6,R3,S3,e2,λu3 H4 E4 R4 v6 S4=>?_⟩;have E14:=(E2.trans E3).trans E4;cases f2 with
  |next=>exact⟨rfl,hlt,u3,w6,x5,f,x8,Z',R4,S4,it.ext E14,e,λu5 H5 E5 R5=>q u5 H5 (E14.trans E5) R5⟩
  |cont=>exact⟨rfl,hlt,u3,w6,x5,f,x8,Z',R4,S4,it.ext E14,e,λu5 H5 E5 R5=>q u5 H5 (E14.trans E5) R5⟩
  |brk=>cases e;exact q u3 H4 E14 R4 v6 S4
  |rt d=>cases e;exact q u3 H4 E14 R4 v6 S4
  |xc x=>cases e;exact q u3 H4 E14 R4 v6 S4
 ·have hi':i=ds.length:=by omega
  subst hi';rw[List.drop_length] at e;cases e;exact .inl ⟨stop,q Y H R.ext0 R O S⟩
end
section
variable{tgs:List Str}{ix:List Nat}
noncomputable def QV(ix:List Nat)(B:Sl):Sl:=ix.map λj=>(B[j]?).getD none
noncomputable def EF(n:Nat)(ix:List Nat)(B:Sl):Sl:=List.replicate n none++QV ix B
noncomputable def EU(bf:D->Sl->M Sl)(mc:Sl->M Bool)(me:Sl->M D)(z9:Sl):List D->List D->M (List D)
 |[],ys=>ret ys
 |x::xs,ys=>bnd (bf x z9) λw9=>bnd (mc w9) λc=>if c=true then bnd (me w9) λy=>EU bf mc me z9 xs (ys++[y]) else EU bf mc me z9 xs ys
noncomputable def B2(n:Nat)(ix:List Nat)(src:Sl->M (List D))(bf:D->Sl->M Sl)(mc:Sl->M Bool)(me:Sl->M D)(fin:List D->M D):Sl->M D:=λB=>bnd (src B) λds=>bnd (lim ds.length) λ_=>bnd (EU bf mc me (EF n ix B) ds []) fin
noncomputable def Dq:Sl->M Bool:=λ_=>ret true
theorem RelS.block(S:RelS K Y k H B O):RelS K Y k H (EF tgs.length ix B) (C1 tgs ix O):=by
 refine⟨by simp[EF,C1,QV,Ix],λi d e=>?_⟩;unfold EF at e;have hk:tgs.length<=i:=by
  rcases Nat.lt_or_ge i tgs.length with z|z
  ·rw[AAS (by simpa using z),List.getElem?_replicate,if_pos z] at e;cases e
  ·exact z
 rw[AAR (by simpa using hk),AAn] at e;unfold QV at e;rw[AAV] at e;cases q:ix[i-tgs.length]? with
 |none=>rw[q] at e;cases e
 |some j=>
  rw[q] at e;have e':(B[j]?).getD none=some d:=Option.some.inj e;cases q2:B[j]? with
  |none=>rw[q2] at e';cases e'
  |some o=>
   rw[q2] at e';have e'':o=some d:=e';subst e'';obtain⟨v,ev,iv⟩:=S.get j d q2;refine⟨v,?_,iv⟩;unfold C1;rw[AAR (by simpa using hk),AAn];unfold Ix;rw[AAV,q,Option.map_some,ev];rfl
mutual
def Cl(k:Nat):D->Prop
 | .tup ds=>ClL k ds
 | .lst ds=>ClL k ds
 | .ref n=>n<k
 |_=>True
def ClL(k:Nat):List D->Prop
 |[]=>True
 |d::ds=>Cl k d/\ClL k ds
end
noncomputable def ClO(k:Nat):MO->Prop
 | .lst ds=>ClL k ds
 | .dK l=>ClL k (l.map (·.2))
 | .dC l=>ClL k (l.map (·.2))
 | .ins _ l=>ClL k (l.map (·.2))
 | .dP l=>ClL k (l.map (·.1))/\ClL k (l.map (·.2))
 | .exc _ _=>True
section
variable{K:KW}{Y:Nat->Addr}{k k':Nat}{H:Hp}
mutual
theorem Is.down(hk:k<=k'):∀{d:D} {v:V},Cl k d->Is K Y k' H d v->Is K Y k H d v
 | .non,_,_,h=>by unfold Is at h ⊢;exact h
 | .bl _,_,_,h=>by unfold Is at h ⊢;exact h
 | .int _,_,_,h=>by unfold Is at h ⊢;exact h
 | .str _,_,_,h=>by unfold Is at h ⊢;exact h
 | .ty _,_,_,h=>by unfold Is at h ⊢;exact h
 | .scr _,_,_,h=>by unfold Is at h ⊢;exact h
 | .tup ds,_,c,h=>by
  unfold Is at h ⊢;obtain⟨p,vs,e,h1,h2⟩:=h;exact⟨p,vs,e,h1,IsL.down hk (by unfold Cl at c;exact c) h2⟩
 | .lst ds,_,c,h=>by
  unfold Is at h ⊢;obtain⟨p,vs,e,h1,hn,h2⟩:=h;exact⟨p,vs,e,h1,λn z=>hn n (AAM z hk),IsL.down hk (by unfold Cl at c;exact c) h2⟩
 | .ref n,_,c,h=>by
  unfold Is at h ⊢;exact⟨by unfold Cl at c;exact c,h.2⟩
theorem IsL.down(hk:k<=k'):∀{ds:List D} {vs:List V},ClL k ds->IsL K Y k' H ds vs->IsL K Y k H ds vs
 |[],_,_,h=>by unfold IsL at h ⊢;exact h
 |_::_,_,c,h=>by
  unfold IsL at h ⊢;unfold ClL at c;obtain⟨v,vs',e,h1,h2⟩:=h;exact⟨v,vs',e,Is.down hk c.1 h1,IsL.down hk c.2 h2⟩
end
mutual
theorem Is.cl:∀{d:D} {v:V},Is K Y k H d v->Cl k d
 | .non,_,_=>by unfold Cl;trivial
 | .bl _,_,_=>by unfold Cl;trivial
 | .int _,_,_=>by unfold Cl;trivial
 | .str _,_,_=>by unfold Cl;trivial
 | .ty _,_,_=>by unfold Cl;trivial
 | .scr _,_,_=>by unfold Cl;trivial
 | .tup ds,_,h=>by
  unfold Is at h;unfold Cl;obtain⟨p,vs,e,h1,h2⟩:=h;exact IsL.cl h2
 | .lst ds,_,h=>by
  unfold Is at h;unfold Cl;obtain⟨p,vs,e,h1,hn,h2⟩:=h;exact IsL.cl h2
 | .ref n,_,h=>by
  unfold Is at h;unfold Cl;exact h.1
theorem IsL.cl:∀{ds:List D} {vs:List V},IsL K Y k H ds vs->ClL k ds
 |[],_,_=>by unfold ClL;trivial
 |_::_,_,h=>by
  unfold IsL at h;unfold ClL;obtain⟨v,vs',e,h1,h2⟩:=h;exact⟨Is.cl h1,IsL.cl h2⟩
end
theorem KVs.cl:∀{l:List (Key×D)} {r:List (Key×V)},KVs K Y k H l r->ClL k (l.map (·.2))
 |[],_,_=>by unfold List.map ClL;trivial
 |(_,_)::_,_,h=>by
  obtain⟨v,r',e,h1,h2⟩:=h;rw[AAW];unfold ClL;exact⟨h1.cl,KVs.cl h2⟩
theorem KVs.down(hk:k<=k'):∀{l:List (Key×D)} {r:List (Key×V)},ClL k (l.map (·.2))->KVs K Y k' H l r->KVs K Y k H l r
 |[],_,_,h=>h
 |(_,_)::_,_,c,h=>by
  rw[AAW] at c;unfold ClL at c;obtain⟨v,r',e,h1,h2⟩:=h;exact⟨v,r',e,h1.down hk c.1,KVs.down hk c.2 h2⟩
theorem N1:∀l:List Int,ClL k (l.map D.int)
 |[]=>by unfold List.map ClL;trivial
 |_::l=>by unfold List.map ClL;exact⟨by unfold Cl;trivial,N1 l⟩
theorem D9(c:Nk.Cs):Cl k (csD c):=by
 unfold csD Cl ClL;refine⟨by unfold Cl;trivial,?_⟩;unfold ClL;refine⟨by unfold Cl;trivial,?_⟩;unfold ClL;exact⟨by unfold Cl;exact N1 _,by unfold ClL;trivial⟩
theorem CVs.cl:∀{l:List (Nk.Cs×D)} {r:List (Nk.Cs×Addr×V)},CVs K Y k H l r->ClL k (l.map (·.2))
 |[],_,_=>by unfold List.map ClL;trivial
 |(_,_)::_,_,h=>by
  obtain⟨a,v,r',rfl,_,h1,h2⟩:=h;rw[AAW];unfold ClL;exact⟨h1.cl,CVs.cl h2⟩
theorem CVs.down(hk:k<=k'):∀{l:List (Nk.Cs×D)} {r:List (Nk.Cs×Addr×V)},ClL k (l.map (·.2))->CVs K Y k' H l r->CVs K Y k H l r
 |[],_,_,h=>h
 |(_,_)::_,_,c,h=>by
  rw[AAW] at c;unfold ClL at c;obtain⟨a,v,r',e,h0,h1,h2⟩:=h;exact⟨a,v,r',e,h0.down hk (D9 _),h1.down hk c.1,CVs.down hk c.2 h2⟩
theorem FVs.cl:∀{l:List (Str×D)} {r:List (Str×V)},FVs K Y k H l r->ClL k (l.map (·.2))
 |[],_,_=>by unfold List.map ClL;trivial
 |(_,_)::_,_,h=>by
  obtain⟨v,r',rfl,h1,h2⟩:=h;rw[AAW];unfold ClL;exact⟨h1.cl,FVs.cl h2⟩
theorem FVs.down(hk:k<=k'):∀{l:List (Str×D)} {r:List (Str×V)},ClL k (l.map (·.2))->FVs K Y k' H l r->FVs K Y k H l r
 |[],_,_,h=>h
 |(_,_)::_,_,c,h=>by
  rw[AAW] at c;unfold ClL at c;obtain⟨v,r',e,h1,h2⟩:=h;exact⟨v,r',e,h1.down hk c.1,FVs.down hk c.2 h2⟩
theorem PVs.cl:∀{l:List (D×D)} {r:List (D×Addr×V)},PVs K Y k H l r->ClL k (l.map (·.1))/\ClL k (l.map (·.2))
 |[],_,_=>by unfold List.map ClL;exact⟨trivial,trivial⟩
 |(_,_)::_,_,h=>by
  obtain⟨a,v,r',_,h1,h2,h3⟩:=h;rw[AAW,AAW];unfold ClL;exact⟨⟨h1.2.2.cl,(PVs.cl h3).1⟩,h2.cl,(PVs.cl h3).2⟩
theorem PVs.down(hk:k<=k'):∀{l:List (D×D)} {r:List (D×Addr×V)},ClL k (l.map (·.1))->ClL k (l.map (·.2))->PVs K Y k' H l r->PVs K Y k H l r
 |[],_,_,_,h=>h
 |(_,_)::_,_,b,c,h=>by
  rw[AAW] at b c;unfold ClL at b c;obtain⟨a,v,r',e,h1,h2,h3⟩:=h;exact⟨a,v,r',e,⟨h1.1,h1.2.1,h1.2.2.down hk b.1⟩,h2.down hk c.1,PVs.down hk b.2 c.2 h3⟩
theorem ObjIs.cl(h:ObjIs K Y k H p o u):ClO k o:=by
 cases o with
 |lst ds=>obtain⟨vs,_,h⟩:=h;exact h.cl
 |dK l=>obtain⟨r,_,h⟩:=h;exact h.cl
 |dC l=>obtain⟨r,_,h⟩:=h;exact h.cl
 |ins c l=>obtain⟨C,dx,r,_,_,_,h⟩:=h;exact h.cl
 |dP l=>obtain⟨r,_,h⟩:=h;exact h.cl
 |exc c n=>exact trivial
theorem ObjIs.down(hk:k<=k')(c:ClO k o)(h:ObjIs K Y k' H p o u):ObjIs K Y k H p o u:=by
 cases o with
 |lst ds=>obtain⟨vs,e,h⟩:=h;exact⟨vs,e,h.down hk c⟩
 |dK l=>obtain⟨r,e,h⟩:=h;exact⟨r,e,h.down hk c⟩
 |dC l=>obtain⟨r,e,h⟩:=h;exact⟨r,e,h.down hk c⟩
 |ins n l=>obtain⟨C,dx,r,e,h0,h1,h⟩:=h;exact⟨C,dx,r,e,h0,h1,h.down hk c⟩
 |dP l=>obtain⟨r,e,h⟩:=h;exact⟨r,e,h.down hk c.1 c.2⟩
 |exc c n=>exact h
end
def ZZ(w6 Z':Mh)(d' d:D):Prop:=(d'=d/\Cl Z'.length d)∨∃n ds,d'=.ref n/\w6[n]?=some (.lst ds)/\Z'.length<=n/\d=.lst ds/\ClL Z'.length ds
structure EC(Z w6 Z':Mh)(d' d:D):Prop where
 grow:∃g,w6=Z'++g
 le:Z.length<=Z'.length
 old:∀(n:Nat) (o:MO),Z'[n]?=some o->Z[n]?=some o∨ClO Z'.length o
 conv:ZZ w6 Z' d' d
noncomputable def Dv:Fl->D
 | .rt d=>d
 |_=>.non
theorem HL(R:RelH K Y Z H)(E:Ext Y Z.length H x4 w6.length H2)(R2:RelH K x4 w6 H2)(t:EC Z w6 Z' d' d):
  Ext Y Z.length H x4 Z'.length H2/\RelH K x4 Z' H2/\∀v,Is K x4 w6.length H2 d' v->Is K x4 Z'.length H2 d v:=by
 obtain⟨⟨g,hg⟩,le,old,conv⟩:=t;have hle:Z'.length<=w6.length:=by rw[hg];simp
 have hget:∀(n:Nat) (o:MO),Z'[n]?=some o->w6[n]?=some o:=λn o e=>by
  rw[hg,AAS (AAT.mp e).1];exact e
 refine⟨⟨le,E.agree,λn h1 h2=>E.fresh n h1 (AAM h2 hle),E.keep,E.was,E.there⟩,⟨λi j hi hj=>R2.inj i j (AAM hi hle) (AAM hj hle),λn o e=>?_⟩,λv iv=>?_⟩
 ·obtain⟨u,q,hq⟩:=R2.obj n o (hget n o e);refine⟨u,q,hq.down hle ?_⟩;rcases old n o e with z|z
  ·obtain⟨u0,_,h0⟩:=R.obj n o z;have c:=h0.cl;cases o with
   |lst ds=>exact clL_mono le c
   |dK l=>exact clL_mono le c
   |dC l=>exact clL_mono le c
   |ins n l=>exact clL_mono le c
   |dP l=>exact⟨clL_mono le c.1,clL_mono le c.2⟩
   |exc c n=>exact trivial
  ·exact z
 ·rcases conv with ⟨rfl,c⟩|⟨n,ds,rfl,hn,hle2,rfl,c⟩
  ·exact iv.down hle c
  ·obtain⟨u,q,vs,rfl,il⟩:=R2.obj n _ hn;have hn2:n<w6.length:=(AAT.mp hn).1;unfold Is at iv ⊢;refine⟨x4 n,vs,iv.2,q,λm hm z=>?_,il.down hle c⟩;have:=R2.inj m n (AAM hm hle) hn2 z;omega
where
 cl_mono {k k':Nat} (h:k<=k'):∀{d:D},Cl k d->Cl k' d
  | .non,_=>by unfold Cl;trivial
  | .bl _,_=>by unfold Cl;trivial
  | .int _,_=>by unfold Cl;trivial
  | .str _,_=>by unfold Cl;trivial
  | .ty _,_=>by unfold Cl;trivial
  | .scr _,_=>by unfold Cl;trivial
  | .tup ds,c=>by unfold Cl at c ⊢;exact clL_mono h c
  | .lst ds,c=>by unfold Cl at c ⊢;exact clL_mono h c
  | .ref n,c=>by unfold Cl at c ⊢;exact AAM c h
 clL_mono {k k':Nat} (h:k<=k'):∀{ds:List D},ClL k ds->ClL k' ds
  |[],_=>by unfold ClL;trivial
  |_::_,c=>by unfold ClL at c ⊢;exact⟨cl_mono h c.1,clL_mono h c.2⟩
noncomputable def Bh(n:Nat)(ds:List D):Sl:=ds.map some++List.replicate (n-ds.length) none
theorem RelS.start(i:IsL K Y k H ds vs):RelS K Y k H (Bh N.length ds) (L2.start N vs):=by
 have hl:=i.length;refine⟨by simp[Bh,L2.start,hl],λj d e=>?_⟩;unfold Bh at e;unfold L2.start;rcases Nat.lt_or_ge j ds.length with z|z
 ·rw[AAS (by simpa using z),AAV] at e;rw[AAS (by simpa[hl] using z),AAV];cases q:ds[j]? with
  |none=>rw[q] at e;cases e
  |some d0=>
   rw[q] at e;cases e;obtain⟨v,ev,iv⟩:=i.get q;exact⟨v,by rw[ev];rfl,iv⟩
 ·rw[AAR (by simpa using z),List.getElem?_replicate] at e;split at e<;>cases e
theorem JK(F:Fun K x qual st f fd)(S:Ac N ps (AQ st))(hn:ps.length=n:=by rfl)
  (body:∀(cdv:Value) (A:Around) (outer:List Env) (s:Shared) (H:Hp) (E:XK),Room k (A.deeper (PyProof.Rows.envOfC qual (AQ st) s.heap.objs.size f cdv))->RSs (GT CX0 P w K mg base N qual (AQ st) f cdv A outer s H E).nox (CM st) mb)
  (run:∀ds Z d Z',φ ds Z=some (d,Z')->∃fl x5 w6,mb (Bh N.length ds) Z=some ((fl,x5),w6)/\(fl=.next∨∃d,fl=.rt d)/\EC Z w6 Z' (Dv fl) d):FnOk P w K mg base CX0 (k+1) f fd ps (spM ⟨K,w⟩ n φ):=by
 refine F.ok S (λvs H Q E h=>by rw[hn];exact h.1) (λcdv A outer s H vs Q E hr h=>⟨_,(body cdv A outer s H E hr).pe,?_⟩);obtain⟨hl,Y,Z,ds,d,Z',R,i,e,q⟩:=h;obtain⟨fl,x5,w6,e2,hfl,t⟩:=run ds Z d Z' e;refine⟨Y,Z,_,fl,x5,w6,R,RelS.start i,e2,λx4 H2 E2 R2 u4 S2=>?_⟩;obtain⟨E3,R3,c⟩:=HL R E2 R2 t;rcases hfl with rfl|⟨d0,rfl⟩
 ·exact q x4 H2 E3 R3 _ (c _ (by unfold Dv Is;rfl))
 ·exact λv iv=>q x4 H2 E3 R3 v (c v iv)
end
noncomputable def CP:D->M (List D)
 | .lst ds=>ret ds
 | .scr ns=>ret (ns.map D.int)
 | .ref n=>λZ=>match Z[n]? with
  |some (.lst ds)=>some (ds,Z)
  |_=>none
 |_=>BQ
section
variable{K:KW}{Y:Nat->Addr}{Z Z':Mh}{H:Hp}{d:D}{v:V}{ds:List D}
theorem DC(R:RelH K Y Z H)(i:Is K Y Z.length H d v)(e:CP d Z=some (ds,Z')):Z'=Z/\∃p vs,v=.ref p/\SqL K H p vs/\IsL K Y Z.length H ds vs:=by
 cases d with
 |lst es=>
  cases e;unfold Is at i;obtain⟨p,vs,rfl,h1,hn,h2⟩:=i;exact⟨rfl,p,vs,rfl,SqL.of h1,h2⟩
 |scr ns=>
  cases e;unfold Is at i;obtain⟨p,rfl,h1⟩:=i;exact⟨rfl,p,_,rfl,h1.sq,IsL.ofInts ns⟩
 |ref n=>
  unfold Is at i;obtain⟨hn,rfl⟩:=i;have e':(match Z[n]? with|some (.lst ds)=>some (ds,Z)|_=>none)=some (ds,Z'):=e;split at e'
  ·rename_i es hq;cases e';obtain⟨u,h1,vs,rfl,h2⟩:=R.obj n _ hq;exact⟨rfl,_,vs,rfl,SqL.of h1,h2⟩
  ·cases e'
 |_=>cases e
theorem CA(h:Is K Y Z.length H (.int i) v):v=.int i:=by unfold Is at h;exact h
theorem EQ(h:Is K Y Z.length H (.str i) v):v=.str i:=by unfold Is at h;exact h
theorem RF(h:Is K Y Z.length H (.bl i) v):v=.bl i:=by unfold Is at h;exact h
theorem MP(h:Is K Y Z.length H .non v):v=.non:=by unfold Is at h;exact h
theorem YH(h:Is K Y Z.length H (.ty n) v):v=.ty n:=by unfold Is at h;exact h
theorem ofI(i:Int):Is K Y k H (.int i) (.int i):=by unfold Is;rfl
theorem ofS(i:Str):Is K Y k H (.str i) (.str i):=by unfold Is;rfl
theorem ofB(i:Bool):Is K Y k H (.bl i) (.bl i):=by unfold Is;rfl
theorem ofN:Is K Y k H .non .non:=by unfold Is;rfl
theorem Ew(h:IsL K Y k H [d] vs):∃v,vs=[v]/\Is K Y k H d v:=by
 unfold IsL at h;obtain⟨v,vs',rfl,h1,h2⟩:=h;unfold IsL at h2;subst h2;exact⟨v,rfl,h1⟩
theorem ZG(h:IsL K Y k H [d,d'] vs):∃v v',vs=[v,v']/\Is K Y k H d v/\Is K Y k H d' v':=by
 unfold IsL at h;obtain⟨v,vs',rfl,h1,h2⟩:=h;obtain⟨v',rfl,h3⟩:=Ew h2;exact⟨v,v',rfl,h1,h3⟩
theorem Wx(h:IsL K Y k H ds vs)(e:atI ds i=some d):∃v,atI vs i=some v/\Is K Y k H d v:=by
 unfold atI at e ⊢;rw[h.length];cases q:ixN ds.length i with
 |none=>rw[q] at e;cases e
 |some j=>
  rw[q] at e;exact h.get e
theorem Rt(h:IsL K Y k H ds vs):IsL K Y k H ((ds.drop (HT.sIx ds.length 0 lo)).take (HT.sIx ds.length ds.length hi-HT.sIx ds.length 0 lo)) (Lb vs lo hi):=by
 unfold Lb;rw[h.length];exact(h.drop _).take _
end
noncomputable def KG(C:Int->Int->Prop)[∀i j,Decidable (C i j)](g:Int->Int->D):D->D->M D
 | .int i,.int j=>λZ=>if C i j then some (g i j,Z) else none
 |_,_=>BQ
noncomputable def Do:D->D->M D:=KG (λ_ _=>True) λi j=>.int (i-j)
noncomputable def BW:D->D->M D:=KG (λ_ j=>0<j/\j<1073741824) λi j=>.int (i / j)
noncomputable def Bi:D->D->M D:=KG (λ_ j=>0<j) λi j=>.int (i % j)
noncomputable def Iw:D->D->M D:=KG (λi j=>0<=j/\j<=1000000/\i.natAbs<2 ^ 64) λi j=>.int (i ^ j.toNat)
noncomputable def Jt:D->D->M D:=KG (λ_ _=>True) λi j=>.bl (decide (i<j))
noncomputable def IW:D->D->M D:=KG (λ_ _=>True) λi j=>.bl (decide (i<=j))
noncomputable def OP:D->D->M D:=KG (λ_ _=>True) λi j=>.bl (decide (j<i))
noncomputable def QG:D->D->M D:=KG (λ_ _=>True) λi j=>.bl (decide (j<=i))
section
variable{X:Cx}
theorem Em[∀i j,Decidable (C i j)](hg:∀i j Y k H,Is X.kw Y k H (g i j) (gv i j))(ho:OpR X f (rI C gv)):OpR X f (rM X.kw (KG C g)):=OpR.wk ho λx y H Q h=>by
 obtain⟨Y,Z,a,b,d,Z',R,ia,ib,e,q⟩:=h;cases a with
 |int i=>
  cases b with
  |int j=>
   have e':(if C i j then some (g i j,Z) else none)=some (d,Z'):=e;split at e'
   ·rename_i hc;cases e';exact⟨i,j,CA ia,CA ib,hc,q Y H R.ext0 R _ (hg i j _ _ _)⟩
   ·cases e'
  |_=>cases e
 |_=>cases e
theorem OpR.ofI0(ho:OpR X f (rI0 gv)):OpR X f (rI (λ_ _=>True) gv):=OpR.wk ho λx y H Q h=>by
 obtain⟨i,j,h1,h2,_,q⟩:=h;exact⟨i,j,h1,h2,q⟩
theorem Hd:OpR X (binaryOp .Sub) (rM X.kw Do):=Em (λ_ _ _ _ _=>ofI _) (OpR.ofI0 V4)
theorem C4:OpR X (binaryOp .FloorDiv) (rM X.kw BW):=Em (λ_ _ _ _ _=>ofI _) Tq
theorem Dp:OpR X (binaryOp .Mod) (rM X.kw Bi):=Em (λ_ _ _ _ _=>ofI _) V9
theorem Um:OpR X (binaryOp .Pow) (rM X.kw Iw):=Em (λ_ _ _ _ _=>ofI _) V6
theorem WE:OpR X (compareOp .Lt) (rM X.kw Jt):=Em (λ_ _ _ _ _=>ofB _) (OpR.ofI0 Xv)
theorem Tu:OpR X (compareOp .LtE) (rM X.kw IW):=Em (λ_ _ _ _ _=>ofB _) (OpR.ofI0 Xw)
theorem X5:OpR X (compareOp .Gt) (rM X.kw OP):=Em (λ_ _ _ _ _=>ofB _) (OpR.ofI0 Xx)
theorem ZA:OpR X (compareOp .GtE) (rM X.kw QG):=Em (λ_ _ _ _ _=>ofB _) (OpR.ofI0 Xy)
noncomputable def Ui:D->M D
 | .int i=>ret (.int (-i))
 |_=>BQ
theorem X2:UnR X (unaryOp .USub) (rM1 X.kw Ui):=λw4 s O H x v Q I r h=>by
 obtain⟨Y,Z,a,d,Z',R,ia,e,q⟩:=h;cases a with
 |int i=>
  cases e;have z:=CA ia;subst z;exact VI w4 s O H _ v Q I r ⟨i,rfl,q Y H R.ext0 R _ (ofI _)⟩
 |_=>cases e
noncomputable def QH:D->D->M D
 | .int i,.int j=>ret (.int (i+j))
 | .str i,.str j=>bnd (lim (i.length+j.length)) λ_=>ret (.str (i++j))
 | .lst a,.lst b=>B9 (a++b)
 | .tup [],.tup b=>BQ
 | .tup (a::as),.tup b=>A1 (a::as++b)
 |_,_=>BQ
theorem X6:OpR X (binaryOp .Add) (rM X.kw QH):=λw4 s O H x y v u Q I rx ry h=>by
 obtain⟨Y,Z,a,b,d,Z',R,ia,ib,e,q⟩:=h;unfold QH at e;split at e
 ·cases e;cases CA ia;cases CA ib;exact WD w4 s O H _ _ v u Q I rx ry ⟨_,_,rfl,rfl,q Y H R.ext0 R _ (ofI _)⟩
 ·obtain⟨_,w5,e1,e2⟩:=AE e;obtain⟨hl,rfl⟩:=D1 e1;cases e2;cases EQ ia;cases EQ ib;exact MG w4 s O H _ _ v u Q I rx ry ⟨_,_,rfl,rfl,hl,q Y H R.ext0 R _ (ofS _)⟩
 ·unfold Is at ia ib;obtain⟨p,vs,rfl,h1,hn,h2⟩:=ia;obtain⟨p',vs',rfl,h1',hn',h2'⟩:=ib;obtain⟨hl,w⟩:=G4 R (h2.append h2') e q;exact WC w4 s O H _ _ v u Q I rx ry ⟨p,p',vs,vs',rfl,rfl,h1,h1',by rw[←AAG];exact hl,w⟩
 ·cases e
 ·rename_i a as bs;unfold Is at ia ib;obtain⟨p,vs,rfl,h1,h2⟩:=ia;obtain⟨p',vs',rfl,h1',h2'⟩:=ib;obtain⟨hl,w⟩:=NQ R (h2.append h2') e q;refine Tr w4 s O H _ _ v u Q I rx ry ⟨p,p',vs,vs',rfl,rfl,h1,h1',λz=>?_,by rw[←AAG];exact hl,λz=>?_,λ_=>w⟩
  ·have:=h2.length;rw[z] at this;cases this
  ·subst z;have hb:bs=[]:=by
    have:=h2'.length;cases bs with
    |nil=>rfl
    |cons _ _=>cases this
   subst hb;obtain⟨_,w5,e1,e2⟩:=AE e;obtain⟨hl,rfl⟩:=D1 e1;cases e2;exact q Y H R.ext0 R _ (by unfold Is;exact⟨p,vs,rfl,h1,by rw[AAa];exact h2⟩)
 ·cases e
noncomputable def Ga:D->D->M D
 | .int i,.int j=>λZ=>if (-(2 ^ 64)<i/\i<2 ^ 64)∨(-(2 ^ 64)<j/\j<2 ^ 64) then some (.int (i * j),Z) else none
 | .lst a,.int j=>λZ=>if -(2 ^ 63)<=j/\j<2 ^ 63/\a.length * j.toNat<=sizeLine then B9 (List.replicate j.toNat a).flatten Z else none
 |_,_=>BQ
theorem IsL.rep(h:IsL K Y k H ds vs):∀n:Nat,IsL K Y k H (List.replicate n ds).flatten (List.replicate n vs).flatten
 |0=>.nil
 |n+1=>by
  rw[AAl,AAl,List.flatten_cons,List.flatten_cons];exact h.append (IsL.rep h n)
theorem LC:OpR X (binaryOp .Mult) (rM X.kw Ga):=λw4 s O H x y v u Q I rx ry h=>by
 obtain⟨Y,Z,a,b,d,Z',R,ia,ib,e,q⟩:=h;unfold Ga at e;split at e
 ·split at e
  ·rename_i hc;cases e;cases CA ia;cases CA ib;exact V8 w4 s O H _ _ v u Q I rx ry ⟨_,_,rfl,rfl,hc,q Y H R.ext0 R _ (ofI _)⟩
  ·cases e
 ·split at e
  ·rename_i hc;cases CA ib;unfold Is at ia;obtain⟨p,vs,rfl,h1,hn,h2⟩:=ia;obtain⟨hl,w⟩:=G4 R (h2.rep _) e q;exact V5 w4 s O H _ _ v u Q I rx ry ⟨p,_,vs,rfl,rfl,h1,hc.1,hc.2.1,by rw[h2.length];exact hc.2.2,w⟩
  ·cases e
 ·cases e
mutual
def toP(Z:Mh):D->Option PyData
 | .non=>some .none
 | .bl b=>some (.bool b)
 | .int i=>some (.int i)
 | .str x=>some (.str x)
 | .ty _=>none
 | .scr ns=>some (.list (ns.map PyData.int))
 | .tup ds=>(FU Z ds).map PyData.tuple
 | .lst ds=>(FU Z ds).map PyData.list
 | .ref _=>none
def FU(Z:Mh):List D->Option (List PyData)
 |[]=>some []
 |d::ds=>(toP Z d).bind λp=>(FU Z ds).map (p::·)
end
noncomputable def L3(Z:Mh):D->Option PyData
 | .ref n=>match Z[n]? with
  |some (.lst ds)=>(FU Z ds).map PyData.list
  |_=>none
 |d=>toP Z d
section
variable{K:KW}{Y:Nat->Addr}{Z:Mh}{H:Hp}{k:Nat}
theorem Nw:∀(ns:List Int),DatVs K H (ns.map V.int) (ns.map PyData.int)
 |[]=>.nil
 |n::r=>.cons (.int n) (Nw r)
mutual
theorem Is.dat:∀{d:D} {v:V} {p:PyData},Is K Y k H d v->toP Z d=some p->DatV K H v p
 | .non,_,_,h,e=>by unfold Is at h;unfold toP at e;cases e;subst h;exact .non
 | .bl b,_,_,h,e=>by unfold Is at h;unfold toP at e;cases e;subst h;exact .bl b
 | .int b,_,_,h,e=>by unfold Is at h;unfold toP at e;cases e;subst h;exact .int b
 | .str b,_,_,h,e=>by unfold Is at h;unfold toP at e;cases e;subst h;exact .str b
 | .ty b,_,_,h,e=>by unfold toP at e;cases e
 | .scr ns,_,_,h,e=>by
  unfold Is at h;unfold toP at e;cases e;obtain⟨p,rfl,h⟩:=h;exact .lst h.sq (Nw ns)
 | .tup ds,_,_,h,e=>by
  unfold Is at h;unfold toP at e;obtain⟨p,vs,rfl,h1,h2⟩:=h;cases q:FU Z ds with
  |none=>rw[q] at e;cases e
  |some ps=>rw[q] at e;cases e;exact .tup h1 (IsL.dat h2 q)
 | .lst ds,_,_,h,e=>by
  unfold Is at h;unfold toP at e;obtain⟨p,vs,rfl,h1,_,h2⟩:=h;cases q:FU Z ds with
  |none=>rw[q] at e;cases e
  |some ps=>rw[q] at e;cases e;exact .lst (SqL.of h1) (IsL.dat h2 q)
 | .ref n,_,_,h,e=>by unfold toP at e;cases e
theorem IsL.dat:∀{ds:List D} {vs:List V} {ps:List PyData},IsL K Y k H ds vs->FU Z ds=some ps->DatVs K H vs ps
 |[],_,_,h,e=>by unfold IsL at h;unfold FU at e;cases e;subst h;exact .nil
 |d::ds,_,_,h,e=>by
  unfold IsL at h;unfold FU at e;obtain⟨v,vs',rfl,h1,h2⟩:=h;cases q:toP Z d with
  |none=>rw[q] at e;cases e
  |some p=>
   rw[q] at e;cases q2:FU Z ds with
   |none=>rw[q2] at e;cases e
   |some ps=>rw[q2] at e;cases e;exact .cons (Is.dat h1 q) (IsL.dat h2 q2)
end
theorem UH(R:RelH K Y Z H)(h:Is K Y Z.length H d v)(e:L3 Z d=some p):DatV K H v p:=by
 cases d with
 |ref n=>
  unfold Is at h;obtain⟨_,rfl⟩:=h;have e':(match Z[n]? with|some (.lst ds)=>(FU Z ds).map PyData.list|_=>none)=some p:=e;split at e'
  ·rename_i ds hq;obtain⟨u,h1,vs,rfl,h2⟩:=R.obj n _ hq;cases q:FU Z ds with
   |none=>rw[q] at e';cases e'
   |some ps=>rw[q] at e';cases e';exact .lst (SqL.of h1) (IsL.dat h2 q)
  ·cases e'
 |_=>exact Is.dat (Z:=Z) h e
end
noncomputable def Gb(neg:Bool)(a b:D):M D:=λZ=>match L3 Z a,L3 Z b with
 |some p,some q=>if SeqAt.shaped p=true/\SeqAt.shaped q=true then some (.bl (if neg then !PyData.eqv p q else PyData.eqv p q),Z) else none
 |_,_=>none
noncomputable def AW:D->D->M D:=Gb false
noncomputable def EM:D->D->M D:=Gb true
theorem Hb(e:Gb neg a b Z=some (d,Z')):∃p q,L3 Z a=some p/\L3 Z b=some q/\SeqAt.shaped p=true/\SeqAt.shaped q=true/\d=.bl (if neg then !PyData.eqv p q else PyData.eqv p q)/\Z'=Z:=by
 unfold Gb at e;split at e
 ·rename_i p q e1 e2;split at e
  ·rename_i h;cases e;exact⟨p,q,e1,e2,h.1,h.2,rfl,rfl⟩
  ·cases e
 ·cases e
theorem CD(hr:Room k X.A):OpR X (compareOp .Eq) (rM X.kw AW):=OpR.wk (WB (P4 hr)) λx y H Q h=>by
 obtain⟨Y,Z,a,b,d,Z',R,ia,ib,e,q⟩:=h;obtain⟨p,p',e1,e2,s1,s2,rfl,rfl⟩:=Hb e;exact⟨p,p',UH R ia e1,UH R ib e2,s1,s2,q Y H R.ext0 R _ (ofB _)⟩
theorem Qn(hr:Room k X.A):OpR X (compareOp .NotEq) (rM X.kw EM):=OpR.wk (V7 (P4 hr)) λx y H Q h=>by
 obtain⟨Y,Z,a,b,d,Z',R,ia,ib,e,q⟩:=h;obtain⟨p,p',e1,e2,s1,s2,rfl,rfl⟩:=Hb e;exact⟨p,p',UH R ia e1,UH R ib e2,s1,s2,q Y H R.ext0 R _ (ofB _)⟩
noncomputable def isN:D->Bool
 | .non=>true
 |_=>false
noncomputable def Ej(neg:Bool):D->D->M D
 |a,.non=>ret (.bl (if neg then !isN a else isN a))
 |_,_=>BQ
theorem Ni(h:Is K Y k H a x):decide (x=V.non)=isN a:=by
 cases a with
 |non=>unfold Is at h;subst h;rfl
 |bl b=>unfold Is at h;subst h;rfl
 |int b=>unfold Is at h;subst h;rfl
 |str b=>unfold Is at h;subst h;rfl
 |ty b=>unfold Is at h;subst h;rfl
 |scr ns=>unfold Is at h;obtain⟨p,rfl,_⟩:=h;rfl
 |tup ns=>unfold Is at h;obtain⟨p,o,rfl,_⟩:=h;rfl
 |lst ns=>unfold Is at h;obtain⟨p,o,rfl,_⟩:=h;rfl
 |ref ns=>unfold Is at h;obtain⟨_,rfl⟩:=h;rfl
theorem X3:OpR X (compareOp .Is) (rM X.kw (Ej false)):=OpR.wk WA λx y H Q h=>by
 obtain⟨Y,Z,a,b,d,Z',R,ia,ib,e,q⟩:=h;cases b with
 |non=>cases e;exact⟨MP ib,by rw[Ni ia];exact q Y H R.ext0 R _ (ofB _)⟩
 |_=>cases e
theorem G3:OpR X (compareOp .IsNot) (rM X.kw (Ej true)):=OpR.wk Tp λx y H Q h=>by
 obtain⟨Y,Z,a,b,d,Z',R,ia,ib,e,q⟩:=h;cases b with
 |non=>cases e;exact⟨MP ib,by rw[Ni ia];exact q Y H R.ext0 R _ (ofB _)⟩
 |_=>cases e
noncomputable def Fy:D->Option V
 | .non=>some .non
 | .bl b=>some (.bl b)
 | .int i=>some (.int i)
 | .str x=>some (.str x)
 |_=>none
noncomputable def Dc:List D->Option (List V)
 |[]=>some []
 |d::ds=>(Fy d).bind λv=>(Dc ds).map (v::·)
section
variable{K:KW}{Y:Nat->Addr}{H:Hp}{k:Nat}
theorem Fx(h:Is K Y k H d x)(e:Fy d=some v):x=v/\DH v=true:=by
 cases d with
 |non=>cases e;unfold Is at h;exact⟨h,rfl⟩
 |bl b=>cases e;unfold Is at h;exact⟨h,rfl⟩
 |int b=>cases e;unfold Is at h;exact⟨h,rfl⟩
 |str b=>cases e;unfold Is at h;exact⟨h,rfl⟩
 |_=>cases e
theorem FF:∀{ds:List D} {vs xs:List V},IsL K Y k H ds xs->Dc ds=some vs->xs=vs/\vs.all DH=true
 |[],_,_,h,e=>by cases e;unfold IsL at h;exact⟨h,rfl⟩
 |d::ds,_,_,h,e=>by
  unfold IsL at h;obtain⟨v,vs',rfl,h1,h2⟩:=h;unfold Dc at e;cases q:Fy d with
  |none=>rw[q] at e;cases e
  |some w=>
   rw[q] at e;cases q2:Dc ds with
   |none=>rw[q2] at e;cases e
   |some ws=>
    rw[q2] at e;cases e;obtain⟨rfl,f1⟩:=Fx h1 q;obtain⟨rfl,f2⟩:=FF h2 q2;exact⟨rfl,by rw[List.all_cons,f1,f2];rfl⟩
end
noncomputable def BT:D->M (List D)
 | .tup ds=>ret ds
 |d=>CP d
theorem DU(R:RelH K Y Z H)(i:Is K Y Z.length H d v)(e:BT d Z=some (ds,Z')):Z'=Z/\∃p vs,v=.ref p/\(SqL K H p vs∨SqT K H p vs)/\IsL K Y Z.length H ds vs:=by
 cases d with
 |tup es=>
  cases e;unfold Is at i;obtain⟨p,vs,rfl,h1,h2⟩:=i;exact⟨rfl,p,vs,rfl,.inr h1,h2⟩
 |lst es=>obtain⟨h,p,vs,a,b,c⟩:=DC R i e;exact⟨h,p,vs,a,.inl b,c⟩
 |scr es=>obtain⟨h,p,vs,a,b,c⟩:=DC R i e;exact⟨h,p,vs,a,.inl b,c⟩
 |ref es=>obtain⟨h,p,vs,a,b,c⟩:=DC R i e;exact⟨h,p,vs,a,.inl b,c⟩
 |_=>cases e
noncomputable def Hv(neg:Bool)(a b:D):M D:=bnd (BT b) λds=>λZ=>match Fy a,Dc ds with
 |some x,some xs=>some (.bl (if neg then !inV x xs else inV x xs),Z)
 |_,_=>none
noncomputable def EN(neg:Bool):D->D->M D
 | .str i,.str j=>ret (.bl (if neg then !(!(Builtin.Str.occurrences j i 0 j.length 1).isEmpty) else !(Builtin.Str.occurrences j i 0 j.length 1).isEmpty))
 |a,b=>Hv neg a b
theorem QF(R:RelH K Y Z H)(ia:Is K Y Z.length H a x)(ib:Is K Y Z.length H b y)(e:Hv neg a b Z=some (d,Z'))(q:Aft K Y Z H Z' λY' H'=>∀v,Is K Y' Z'.length H' d v->Q v H'):rIn K neg x y H Q:=by
 obtain⟨ds,w5,e1,e2⟩:=AE e;obtain⟨hm,p,vs,rfl,h1,h2⟩:=DU R ib e1;subst hm;split at e2
 ·rename_i w ws q1 q2;cases e2;obtain⟨rfl,f1⟩:=Fx ia q1;obtain⟨rfl,f2⟩:=FF h2 q2;exact⟨p,_,rfl,h1,f1,f2,q Y H R.ext0 R _ (ofB _)⟩
 ·cases e2
theorem X4:OpR X (compareOp .In) (rM X.kw (EN false)):=λw4 s O H x y v u Q I rx ry h=>by
 obtain⟨Y,Z,a,b,d,Z',R,ia,ib,e,q⟩:=h;unfold EN at e;split at e
 ·cases e;cases EQ ia;cases EQ ib;exact OV w4 s O H _ _ v u Q I rx ry ⟨_,_,rfl,rfl,q Y H R.ext0 R _ (ofB _)⟩
 ·exact OW w4 s O H _ _ v u Q I rx ry (QF R ia ib e q)
theorem J3:OpR X (compareOp .NotIn) (rM X.kw (EN true)):=λw4 s O H x y v u Q I rx ry h=>by
 obtain⟨Y,Z,a,b,d,Z',R,ia,ib,e,q⟩:=h;unfold EN at e;split at e
 ·cases e;cases EQ ia;cases EQ ib;exact Jz w4 s O H _ _ v u Q I rx ry ⟨_,_,rfl,rfl,q Y H R.ext0 R _ (ofB _)⟩
 ·exact J2 w4 s O H _ _ v u Q I rx ry (QF R ia ib e q)
noncomputable def ixD(ds:List D)(i:Int):M D:=λZ=>(atI ds i).map λd=>(d,Z)
noncomputable def AH:D->D->M D
 | .str z,.int i=>λZ=>if z.length<=sizeLine then (atI z.cps.toList i).map λc=>(.str ⟨#[c]⟩,Z) else none
 |a,.int i=>bnd (BT a) λds=>ixD ds i
 |_,_=>BQ
theorem AX:IxR X (rM X.kw AH):=λva sl w4 s O H x y v u Q I rx ry h hsl=>by
 obtain⟨Y,Z,a,b,d,Z',R,ia,ib,e,q⟩:=h;unfold AH at e;split at e
 ·split at e
  ·rename_i z i hl;cases EQ ia;cases CA ib;cases qq:atI z.cps.toList i with
   |none=>rw[qq] at e;cases e
   |some c=>
    rw[qq] at e;cases e;exact MN va sl w4 s O H _ _ v u Q I rx ry (.inr (.inr ⟨z,i,c,rfl,rfl,hl,qq,q Y H R.ext0 R _ (ofS _)⟩)) hsl
  ·cases e
 ·cases CA ib;obtain⟨ds,w5,e1,e2⟩:=AE e;obtain⟨hm,p,vs,rfl,h1,h2⟩:=DU R ia e1;subst hm;rename_i i _;unfold ixD at e2;cases qq:atI ds i with
  |none=>rw[qq] at e2;cases e2
  |some c=>
   rw[qq] at e2;cases e2;obtain⟨w,ew,iw⟩:=Wx h2 qq;rcases h1 with h1|h1
   ·exact MN va sl w4 s O H _ _ v u Q I rx ry (.inl ⟨p,vs,i,w,rfl,rfl,h1,ew,q Y H R.ext0 R _ iw⟩) hsl
   ·exact MN va sl w4 s O H _ _ v u Q I rx ry (.inr (.inl ⟨p,vs,i,w,rfl,rfl,h1,ew,q Y H R.ext0 R _ iw⟩)) hsl
 ·cases e
noncomputable def BX:List D->M D
 |[.str z]=>λZ=>if z.length<=sizeLine then some (.int z.length,Z) else none
 |[.ref n]=>λZ=>match Z[n]? with
  |some (.lst ds)=>some (.int ds.length,Z)
  |_=>none
 |[d]=>bnd (BT d) λds=>ret (.int ds.length)
 |_=>BQ
theorem Dg:CU X (.builtin "len") (rMA X.kw BX):=λw4 s O H xs us Q I r h=>by
 obtain⟨Y,Z,as,d,Z',R,ia,e,q⟩:=h;refine R6 w4 s O H xs us Q I r ?_;unfold BX at e;split at e
 ·rename_i z;obtain⟨v,rfl,i1⟩:=Ew ia;split at e
  ·rename_i hl;cases e;cases EQ i1;exact⟨_,_,rfl,⟨hl,rfl⟩,q Y H R.ext0 R _ (ofI _)⟩
  ·cases e
 ·rename_i n;obtain⟨v,rfl,i1⟩:=Ew ia;unfold Is at i1;obtain⟨_,rfl⟩:=i1;split at e
  ·rename_i ds hq;cases e;obtain⟨u,h1,vs,rfl,h2⟩:=R.obj n _ hq;exact⟨_,_,rfl,.inl ⟨vs,SqL.of h1,rfl⟩,by rw[h2.length];exact q Y H R.ext0 R _ (ofI _)⟩
  ·cases e
 ·obtain⟨v,rfl,i1⟩:=Ew ia;obtain⟨ds,w5,e1,e2⟩:=AE e;obtain⟨hm,p,vs,rfl,h1,h2⟩:=DU R i1 e1;subst hm;cases e2;rw[←h2.length] at q;rcases h1 with h1|h1
  ·exact⟨_,_,rfl,.inl ⟨vs,h1,rfl⟩,q Y H R.ext0 R _ (ofI _)⟩
  ·exact⟨_,_,rfl,.inr ⟨vs,h1,rfl⟩,q Y H R.ext0 R _ (ofI _)⟩
 ·cases e
noncomputable def DJ(ds:List D)(lo hi:Option Int):List D:=(ds.drop (HT.sIx ds.length 0 lo)).take (HT.sIx ds.length ds.length hi-HT.sIx ds.length 0 lo)
noncomputable def Xg(lo hi:Option Int):D->M D
 | .tup ds=>if HT.sIx ds.length 0 lo=0/\HT.sIx ds.length ds.length hi=ds.length then BQ else ret (.tup (DJ ds lo hi))
 |d=>bnd (CP d) λds=>ret (.lst (DJ ds lo hi))
noncomputable def rMS(K:KW):V->Option Int->Option Int->Hp->VK->Prop:=λx lo hi H Q=>∃Y Z a d Z',RelH K Y Z H/\Is K Y Z.length H a x/\Xg lo hi a Z=some (d,Z') /\
 Aft K Y Z H Z' λY' H'=>∀v,Is K Y' Z'.length H' d v->Q v H'
theorem Na{K:KW}{Y:Nat->Addr}{Z:Mh}{vs:List V}{Q:VK}(R:RelH K Y Z H)(i:IsL K Y Z.length H ds vs)(q:Aft K Y Z H Z λY' H'=>∀v,Is K Y' Z.length H' (.lst ds) v->Q v H')(p:Addr)(hp:H p=none):Q (.ref p) (upd H p (.lst vs)):=by
 obtain⟨E1,R1⟩:=R.laid (.lst vs) hp;have ho:∀n,n<Z.length->Y n≠p:=λn hn z=>by
  obtain⟨o,e,_⟩:=R.muts n hn;rw[z,hp] at e;cases e
 exact q Y _ E1 R1 _ (by unfold Is;exact⟨p,vs,rfl,Bw,ho,i.ext E1⟩)
theorem Q6{K:KW}{Y:Nat->Addr}{Z:Mh}{vs:List V}{Q:VK}(R:RelH K Y Z H)(i:IsL K Y Z.length H ds vs)(q:Aft K Y Z H Z λY' H'=>∀v,Is K Y' Z.length H' (.tup ds) v->Q v H')(p:Addr)(hp:H p=none):Q (.ref p) (upd H p (.tup vs)):=by
 obtain⟨E1,R1⟩:=R.laid (.tup vs) hp;exact q Y _ E1 R1 _ (by unfold Is;exact⟨p,vs,rfl,SqT.of Bw,i.ext E1⟩)
theorem Y9:SlR X (rMS X.kw):=λw4 s O H x v vl vu lo hi sl Q I rx hs pl pu h=>by
 obtain⟨Y,Z,a,d,Z',R,ia,e,q⟩:=h;refine(SlR.or TB VX) w4 s O H x v vl vu lo hi sl Q I rx hs pl pu ?_;unfold Xg at e;split at e
 ·rename_i ds;unfold Is at ia;obtain⟨p,vs,rfl,h1,h2⟩:=ia;split at e
  ·cases e
  ·rename_i hc;cases e;exact .inr ⟨p,vs,rfl,h1,by rw[h2.length];exact hc,λp hp=>Q6 R (Rt h2) q p hp⟩
 ·obtain⟨ds,w5,e1,e2⟩:=AE e;obtain⟨hm,p,vs,rfl,h1,h2⟩:=DC R ia e1;subst hm;cases e2;exact .inl ⟨p,vs,rfl,h1,λp hp=>Na R (Rt h2) q p hp⟩
noncomputable def C6:Sl->M (Option Int):=λ_=>ret none
noncomputable def asI:D->M (Option Int)
 | .int i=>ret (some i)
 |_=>BQ
noncomputable def C0(m:Sl->M D):Sl->M (Option Int):=λB=>bnd (m B) asI
noncomputable def tPt(K:KW)(m:Sl->M (Option Int)):TO:=λO H Q=>∃Y Z B b Z',RelH K Y Z H/\RelS K Y Z.length H B O/\m B Z=some (b,Z')/\Aft K Y Z H Z' λ_ H'=>Q b H'
structure RO(X:Cx)(e:Option Expr)(m:Sl->M (Option Int)):Prop where
 pe:PO X e (tPt X.kw m)
theorem PO.wk(h:PO X e t)(w:∀O H Q,t' O H Q->t O H Q):PO X e t':=λw4 s O H Q I q=>h w4 s O H Q I (w O H Q q)
theorem RO.wk(h:PO X e t)(w:∀O H Q,tPt X.kw m O H Q->t O H Q):RO X e m:=⟨PO.wk h w⟩
theorem EJ:RO X none C6:=RO.wk Te λO H Q h=>by
 obtain⟨Y,Z,B,b,Z',R,S,e,q⟩:=h;cases e;exact q Y H R.ext0 R
theorem DO(h:RE X e m):RO X (some e) (C0 m):=RO.wk (Td h.pe) λO H Q h=>by
 obtain⟨Y,Z,B,b,Z',R,S,e,q⟩:=h;obtain⟨x,w5,e1,e⟩:=AE e;refine⟨Y,Z,B,x,w5,R,S,e1,λx3 H1 E1 R1 v i1=>?_⟩;cases x with
 |int i=>cases e;exact⟨i,CA i1,q x3 H1 E1 R1⟩
 |_=>cases e
noncomputable def tyD(Z:Mh):D->Option String
 | .non=>some "NoneType"
 | .bl _=>some "bool"
 | .int _=>some "int"
 | .str _=>some "str"
 | .tup _=>some "tuple"
 | .lst _=>some "list"
 | .scr _=>none
 | .ref n=>match Z[n]? with
  |some (.lst _)=>some "list"
  |some (.dK _)=>some "dict"
  |some (.dC _)=>none
  |some (.ins _ _)=>none
  |some (.dP _)=>none
  |some (.exc _ _)=>none
  |none=>none
 | .ty _=>none
noncomputable def EX(t T:String):Option Bool:=
 if t∈["NoneType", "bool", "int", "str", "tuple", "list", "dict"]/\T∈["bool", "int", "str", "tuple", "list", "dict"] then some (t==T||(t == "bool" && T == "int")) else none
theorem T6(h:EX t T=some b):PySem.W.kitOne K (.type t) (.type T)=some b:=by
 unfold EX at h;split at h
 ·rename_i hm;obtain⟨h1,h2⟩:=hm;simp only[AAI,List.not_mem_nil,or_false] at h1 h2;rcases h1 with rfl|rfl|rfl|rfl|rfl|rfl|rfl<;>rcases h2 with rfl|rfl|rfl|rfl|rfl|rfl<;>(cases h;kernel_rfl)
 ·cases h
noncomputable def D2:List D->M D
 |[a,.ty T]=>λZ=>match tyD Z a with
  |some t=>(EX t T).map λb=>(.bl b,Z)
  |none=>none
 |_=>BQ
theorem KR:CU X (.builtin "isinstance") (rMA X.kw D2):=λw4 s O H xs us Q I r h=>by
 obtain⟨Y,Z,as,d,Z',R,ia,e,q⟩:=h;unfold D2 at e;split at e
 ·rename_i a T;obtain⟨v,v',rfl,i1,i2⟩:=ZG ia;cases YH i2;split at e
  ·rename_i t ht;cases hk:EX t T with
   |none=>rw[hk] at e;cases e
   |some b=>
    rw[hk] at e;cases e;have kit:=T6 (K:=X.kw) hk;have fin:=q Y H R.ext0 R _ (ofB b);have byTy:F7 X.kw H v (.type t)->wpAny (model X.prog X.w) X.A (call (.builtin "isinstance") us) (EP X w4 O Q) X.xe s:=λty=>
     Lg w4 s O H _ us Q I r ⟨v,T,_,b,rfl,ty,kit,fin⟩
    cases a with
    |non=>cases ht;cases MP i1;exact byTy .non
    |bl x=>cases ht;cases RF i1;exact byTy (.bl x)
    |int x=>cases ht;cases CA i1;exact byTy (.int x)
    |str x=>cases ht;cases EQ i1;exact byTy (.str x)
    |ty n=>cases ht
    |lst ds=>cases ht;unfold Is at i1;obtain⟨p,vs,rfl,h1,_⟩:=i1;exact byTy (.lst h1)
    |scr ns=>cases ht
    |ref n=>
     unfold Is at i1;obtain⟨_,rfl⟩:=i1;have ht:(match Z[n]? with|some (.lst _)=>some "list" |some (.dK _)=>some "dict" |some (.dC _)=>none|some (.ins _ _)=>none|some (.dP _)=>none|some (.exc _ _)=>none|none=>none)=some t:=ht;split at ht
     ·rename_i ds hq;cases ht;obtain⟨u,h1,vs,rfl,h2⟩:=R.obj n _ hq;exact byTy (.lst h1)
     ·rename_i ds hq;cases ht;obtain⟨u,h1,vs,rfl,h2⟩:=R.obj n _ hq;exact byTy (.dK h1)
     ·cases ht
     ·cases ht
     ·cases ht
     ·cases ht
     ·cases ht
    |tup ds=>
     cases ht;unfold Is at i1;obtain⟨p,vs,rfl,h1,h2⟩:=i1;obtain⟨its,_,⟨o,g1,g2,_⟩,_⟩:=I.tuple h1;obtain⟨u1,u2,rfl,r1,r2⟩:=Vals.two r;cases r1;cases r2;exact PySem.W.kia_one PySem.W.kitx_tuple I.kIn ⟨o,g1,g2⟩ kit (λz=>nomatch z) λtk=>⟨.bl b,H,I.tok _,rfl,fin⟩
  ·cases e
 ·cases e
noncomputable def KF:List D->M D
 |[.int i]=>ret (.int i)
 |[.bl b]=>ret (.int (if b then 1 else 0))
 |_=>BQ
theorem R9:CU X (.type "int") (rMA X.kw KF):=λw4 s O H xs us Q I r h=>by
 obtain⟨Y,Z,as,d,Z',R,ia,e,q⟩:=h;refine Oz w4 s O H xs us Q I r ?_;unfold KF at e;split at e
 ·obtain⟨v,rfl,i1⟩:=Ew ia;cases e;cases CA i1;exact .inl ⟨_,rfl,q Y H R.ext0 R _ (ofI _)⟩
 ·obtain⟨v,rfl,i1⟩:=Ew ia;cases e;cases RF i1;exact .inr ⟨_,rfl,q Y H R.ext0 R _ (ofI _)⟩
 ·cases e
noncomputable def FT:List D->M D
 |[.tup ds]=>ret (.tup ds)
 |[d]=>bnd (CP d) λds=>ret (.tup ds)
 |_=>BQ
theorem HE:CU X (.type "tuple") (rMA X.kw FT):=λw4 s O H xs us Q I r h=>by
 obtain⟨Y,Z,as,d,Z',R,ia,e,q⟩:=h;unfold FT at e;split at e
 ·obtain⟨v,rfl,i1⟩:=Ew ia;cases e;have i2:=i1;unfold Is at i1;obtain⟨p,vs,rfl,h1,h2⟩:=i1;exact Le w4 s O H _ us Q I r ⟨p,vs,rfl,h1,q Y H R.ext0 R _ i2⟩
 ·obtain⟨v,rfl,i1⟩:=Ew ia;obtain⟨ds,w5,e1,e2⟩:=AE e;obtain⟨hm,p,vs,rfl,h1,h2⟩:=DC R i1 e1;subst hm;cases e2;obtain⟨u,rfl,ru⟩:=Vals.one r;cases ru;obtain⟨its,rv,pl,hz⟩:=I.list h1;refine PySem.call_tuple_list pl.isList (λh' hk=>?_) (by rw[List.size_toArray,←rv.length];exact hz);have I1:Inv X w4 O H { s with heap:=h' }:=I.kept (t':=s.toks) hk;have I2:Inv X w4 O (upd H h'.objs.size (.tup vs)) { s with heap:=h'.push { cls:=.type "tuple",data:=.seq its.toArray } }:=I1.laid (t':=s.toks) (o:=.tup vs) (λb ob q=>AAC _ q) (AAE _) ⟨hz,its,rv,PyProof.Rows.IsTup.new _ _⟩;exact⟨.ref h'.objs.size,_,I2,rfl,Q6 R h2 q _ (I1.hok.fresh (AAE _))⟩
 ·cases e
end
section
variable{X:Cx}{e a b c o i f:Expr}{es:List Expr}{pos apos cpos:Pos}
theorem Pn(h:tE K (Es g g' ma mb mc) O H Q):Pp (rM K g) (rM K g') (tE K ma) (tE K mb) (tE K mc) O H Q:=by
 obtain⟨Y,Z,B,d,Z',R,S,e,q⟩:=h;obtain⟨x,w5,e1,ee1⟩:=AE e;obtain⟨y,w6,e2,ee2⟩:=AE ee1;obtain⟨z,x6,e3,ee3⟩:=AE ee2;obtain⟨k,y9,e4,ee4⟩:=AE ee3;obtain⟨hz,hm⟩:=IN e4;subst hm;subst hz;refine⟨Y,Z,B,x,w5,R,S,e1,λx3 H1 E1 R1 v1 i1=>⟨x3,w5,B,y,w6,R1,S.ext E1,e2,λx4 H2 E2 R2 v2 i2=>?_⟩⟩;refine⟨x4,w6,x,y,_,_,R2,i1.ext E2,i2,e3,λx9 H3 E3 R3 v3 i3=>⟨k,RF i3,?_⟩⟩;have E13:=(E1.trans E2).trans E3;cases k with
 |false=>cases ee4;exact q x9 H3 E13 R3 _ (ofB _)
 |true=>
  obtain⟨w,v7,e5,ee5⟩:=AE ee4;exact⟨x9,_,B,w,v7,R3,S.ext E13,e5,λu3 H4 E4 R4 v4 i4=>⟨u3,v7,y,w,d,Z',R4,i2.ext (E3.trans E4),i4,ee5,λu5 H5 E5 R5=>q u5 H5 ((E13.trans E4).trans E5) R5⟩⟩
theorem K6(ho:OpR X (compareOp op) (rM X.kw g))(ho':OpR X (compareOp op') (rM X.kw g'))(ha:RE X a ma)(hb:RE X b mb)(hc:RE X c mc)(hm:lastMarks [op,op'] [b,c]=false:=by with_unfolding_all rfl):
  RE X (.Compare a [op,op'] [b,c] pos) (Es g g' ma mb mc):=RE.wk (Qg ho ho' ha.pe hb.pe hc.pe hm) λ_ _ _ h=>Pn h
theorem Gy(hm:X.mg x=none)(hv:bootBuiltins x=some (.type n))(hg:Gl X x:=by rfl)(hn:x ≠ "__name__" := by decide)(hdb:(x==("__debug__" : Str))=false:=by decide):RE X (.Name x pos) (mC (.ty n)):=
 ON (t:=λ_ _ _=>True) (Tl (v:=.ty n) hg hm hv rfl hn hdb) λ_ _ _=>by unfold Is;rfl
noncomputable def ES(d:D):M Unit:=bnd (CP d) λ_=>ret ()
noncomputable def Ak(g:D->List D->M D)(mo:Sl->M D)(ma:Sl->M (List D)):Sl->M D:=λB=>bnd (mo B) λx=>bnd (ES x) λ_=>bnd (ma B) λxs=>g x xs
noncomputable def rMM(K:KW)(g:D->List D->M D):V->List V->Hp->VK->Prop:=λx xs H Q=>∃Y Z a as d Z',RelH K Y Z H/\Is K Y Z.length H a x/\IsL K Y Z.length H as xs/\g a as Z=some (d,Z') /\
 Aft K Y Z H Z' λY' H'=>∀v,Is K Y' Z'.length H' d v->Q v H'
theorem Gg(R:RelH K Y Z H)(i:Is K Y Z.length H d v)(e:ES d Z=some (u,Z')):Z'=Z/\tyV K "list" v H:=by
 obtain⟨ds,w5,e1,ee1⟩:=AE e;cases ee1;obtain⟨hm,p,vs,rfl,h1,h2⟩:=DC R i e1;exact⟨hm,.inl ⟨rfl,vs,h1⟩⟩
theorem GM(e:ES d Z=some (u,Z')):Z'=Z:=by
 obtain⟨ds,w5,e1,ee1⟩:=AE e;cases ee1;cases d with
 |lst _=>cases e1;rfl
 |scr _=>cases e1;rfl
 |ref n=>
  have e1:(match Z[n]? with|some (.lst ds)=>some (ds,Z)|_=>none)=some (ds,Z'):=e1;split at e1
  ·cases e1;rfl
  ·cases e1
 |_=>cases e1
theorem Pm(h:tE K (Ak g mo ma) O H Q):tBM K "list" (rMM K g) (tE K mo) (tL K ma) O H Q:=by
 obtain⟨Y,Z,B,d,Z',R,S,e,q⟩:=h;obtain⟨x,w5,e1,ee1⟩:=AE e;obtain⟨u,w6,e2,ee2⟩:=AE ee1;obtain⟨as,x6,e3,ee3⟩:=AE ee2;have hm:=GM e2;subst hm;refine⟨Y,Z,B,x,_,R,S,e1,λx3 H1 E1 R1 v1 i1=>⟨(Gg R1 i1 e2).2,?_⟩⟩;refine⟨x3,_,B,as,x6,R1,S.ext E1,e3,λx4 H2 E2 R2 vs i2=>?_⟩;exact⟨x4,x6,x,as,d,Z',R2,i1.ext E2,i2,ee3,λx9 H3 E3 R3=>q x9 H3 ((E1.trans E2).trans E3) R3⟩
theorem By{name:Str}{id:String}(slot:Slot "list" name id)(hty:typeOf (.builtin id)=pure (.type "method_descriptor"))(hm:MtR X id (rMM X.kw g))(ho:RE X o mo)(ha:RA X (e::es) ma)
  (hbase:attributeBase o name X.env (eval o X.env)=eval o X.env:=by rfl)
  (hfew:((backTo cpos (starEach (e::es) X.env)).all (λx=>!x.1)&&(backToKw cpos (keywordEach [] X.env)).all (λx=>x.1.isSome)
   && decide ((e::es).length+([]:List Keyword).length+(if ([]:List Keyword).isEmpty then 0 else 1)<30))=true:=by rfl)
  (hline:(apos.endLine==cpos.line)=true:=by rfl) (hs:starEach (e::es) X.env=(false,eval e X.env)::starEach es X.env:=by exact BY rfl) (hplain:(backTo cpos (starEach es X.env)).any (·.1)=false:=by exact C2 rfl) :
  RE X (.Call (.Attribute o name apos) (e::es) [] cpos) (Ak g mo ma):=RE.wk (Xq PySem.F.plainAttrs_list slot hty hm ho.pe ha.pe hbase hfew hline hs hplain) λ_ _ _ h=>Pm h
noncomputable def HH(n:Nat)(k:List D->Option (D×List D)):M D:=λZ=>match Z[n]? with
 |some (.lst ds)=>(k ds).map λr=>(r.1,Z.set n (.lst r.2))
 |_=>none
theorem GD(e:HH n k Z=some (d,Z')):∃ds es,Z[n]?=some (.lst ds)/\k ds=some (d,es)/\Z'=Z.set n (.lst es):=by
 unfold HH at e;split at e
 ·rename_i ds hq;cases hk:k ds with
  |none=>rw[hk] at e;cases e
  |some r=>rw[hk] at e;cases e;exact⟨ds,r.2,hq,hk,rfl⟩
 ·cases e
theorem Jc{K:KW}{Y:Nat->Addr}{Z:Mh}{H:Hp}{n:Nat}{d:D}{es:List D}{ws:List V}{v:V}{Q:VK}{ds:List D}(R:RelH K Y Z H)(hn:Z[n]?=some (.lst ds))(iw:IsL K Y Z.length H es ws)(iv:Is K Y Z.length H d v)
  (q:Aft K Y Z H (Z.set n (.lst es)) λY' H'=>∀v,Is K Y' (Z.set n (.lst es)).length H' d v->Q v H'):Q v (upd H (Y n) (.lst ws)):=by
 have hlt:n<Z.length:=(AAT.mp hn).1;obtain⟨E1,R1⟩:=R.changed (m:=.lst es) (o:=.lst ws) hlt ⟨ws,rfl,iw⟩;exact q Y _ E1 R1 v (iv.ext E1)
noncomputable def CT:D->List D->M D
 | .ref n,[d]=>HH n λds=>if ds.length<sizeLine then some (.non,ds++[d]) else none
 |_,_=>BQ
theorem CQ:MtR X "list.append" (rMM X.kw CT):=λw4 s O H x xs v us Q I rx rs h=>by
 obtain⟨Y,Z,a,as,d,Z',R,ia,ib,e,q⟩:=h;unfold CT at e;split at e
 ·rename_i n y;obtain⟨ds,es,h1,h2,rfl⟩:=GD e;split at h2
  ·rename_i hl;cases h2;obtain⟨w,rfl,iw⟩:=Ew ib;unfold Is at ia;obtain⟨_,rfl⟩:=ia;obtain⟨u,g1,vs,rfl,g2⟩:=R.obj n _ h1;exact Oa w4 s O H _ _ v us Q I rx rs ⟨_,vs,w,rfl,rfl,g1,by rw[g2.length];exact hl,Jc R h1 (g2.append (.one iw)) ofN q⟩
  ·cases h2
 ·cases e
noncomputable def Pv:D->D->D->M Unit
 | .ref n,.int k,d=>λZ=>match Z[n]? with
  |some (.lst ds)=>(ixN ds.length k).map λj=>((),Z.set n (.lst (ds.set j d)))
  |_=>none
 |_,_,_=>BQ
noncomputable def Lh(mo mi:Sl->M D):D->Sl->M Sl:=λd B=>bnd (mo B) λx=>bnd (mi B) λy=>bnd (Pv x y d) λ_=>ret B
theorem OJ(e:Pv x y d Z=some (u,Z')):∃n k ds j,x=.ref n/\y=.int k/\Z[n]?=some (.lst ds)/\ixN ds.length k=some j/\Z'=Z.set n (.lst (ds.set j d)):=by
 unfold Pv at e;split at e
 ·rename_i n k;split at e
  ·rename_i ds hq;cases hk:ixN ds.length k with
   |none=>rw[hk] at e;cases e
   |some j=>rw[hk] at e;cases e;exact⟨n,k,ds,j,rfl,rfl,hq,hk,rfl⟩
  ·cases e
 ·cases e
theorem P6(ho:RE X o mo)(hi:RE X i mi)
  (ha:∀v,assign (.Subscript o i pos) X.env v=(do
   let ov ←holding [v] (eval o X.env)
   let iv ←holding [v,ov] (eval i X.env)
   standAt pos
   holding [v,ov,iv] (setItem ov iv v)
   release [v,ov,iv] []):=by intro _;rfl):RG X (.Subscript o i pos) (Lh mo mi):=RG.wk (Vq ho.pe hi.pe Ps ha) λv O H Q h=>by
 obtain⟨Y,Z,B,d,x8,Z',R,S,i1,e,q⟩:=h;obtain⟨x,w5,e1,ee1⟩:=AE e;obtain⟨y,w6,e2,ee2⟩:=AE ee1;obtain⟨u,x6,e3,ee3⟩:=AE ee2;cases ee3;refine⟨Y,Z,_,x,w5,R,S,e1,λx3 H1 E1 R1 v1 j1=>⟨x3,w5,_,y,w6,R1,S.ext E1,e2,λx4 H2 E2 R2 v2 j2=>?_⟩⟩;obtain⟨n,k,ds,j,rfl,rfl,g1,g2,rfl⟩:=OJ e3;have E12:=E1.trans E2;have j1':=j1.ext E2;unfold Is at j1';obtain⟨hlt,rfl⟩:=j1';cases CA j2;obtain⟨w,k1,vs,rfl,k2⟩:=R2.obj n _ g1;obtain⟨E3,R3⟩:=R2.changed (m:=.lst (ds.set j d)) (o:=.lst (vs.set j v)) hlt ⟨_,rfl,k2.set (i1.ext E12) j⟩;exact⟨_,vs,k,j,rfl,rfl,k1,by rw[k2.length];exact g2,q x4 _ (E12.trans E3) R3 O (S.ext (E12.trans E3))⟩
noncomputable def KC:D->Option Key
 | .int i=>some (.inl i)
 | .str x=>some (.inr x)
 |_=>none
noncomputable def EV:D->M (Nat×List (Key×D))
 | .ref n=>λZ=>match Z[n]? with
  |some (.dK l)=>some ((n,l),Z)
  |_=>none
 |_=>BQ
def Ch(l:List (Key×D))(k:Key):Option D:=(l.find? λkv=>decide (kv.1=k)).map (·.2)
noncomputable def Cw(l:List (Key×D))(k:Key)(d:D):List (Key×D):=
 if (l.any λkv=>decide (kv.1=k))=true then l.map (λkv=>if kv.1=k then (kv.1,d) else kv) else l++[(k,d)]
noncomputable def Tw:Sl->M D:=λ_ Z=>some (.ref Z.length,Z++[.dK []])
theorem NG:RE X (.Dict [] [] pos) Tw:=RE.wk Qd λO H Q h=>by
 obtain⟨Y,Z,B,d,Z',R,S,e,q⟩:=h;cases e;intro p hp;obtain⟨Y',E1,R1,e0⟩:=R.grown (m:=.dK []) (o:=.dK []) hp ⟨[],rfl,rfl⟩;exact q Y' _ E1 R1 _ (by unfold Is;exact⟨by simp,by rw[e0]⟩)
section
variable{K:KW}{Y:Nat->Addr}{k:Nat}{H:Hp}
theorem KVs.val:∀{l:List (Key×D)} {r:List (Key×V)} (y:Key),KVs K Y k H l r->(Ch l y=none/\EY r y=none)∨∃d v,Ch l y=some d/\EY r y=some v/\Is K Y k H d v
 |[],_,y,h=>by cases h;exact .inl ⟨rfl,rfl⟩
 |(z,d)::l,_,y,h=>by
  obtain⟨v,r',rfl,h1,h2⟩:=h;by_cases hz:z=y
  ·subst hz;exact .inr ⟨d,v,by simp[Ch],by simp[EY],h1⟩
  ·have:=KVs.val y h2;simpa[Ch,EY,List.find?_cons,hz] using this
theorem KVs.any:∀{l:List (Key×D)} {r:List (Key×V)} (y:Key),KVs K Y k H l r->(l.any λkv=>decide (kv.1=y))=(r.any λkv=>decide (kv.1=y))
 |[],_,y,h=>by cases h;rfl
 |(z,d)::l,_,y,h=>by
  obtain⟨v,r',rfl,h1,h2⟩:=h;rw[List.any_cons,List.any_cons,KVs.any y h2]
theorem KVs.length:∀{l:List (Key×D)} {r:List (Key×V)},KVs K Y k H l r->r.length=l.length
 |[],_,h=>by cases h;rfl
 |(z,d)::l,_,h=>by
  obtain⟨v,r',rfl,h1,h2⟩:=h;rw[AAH,AAH,KVs.length h2]
theorem KVs.app:∀{l:List (Key×D)} {r:List (Key×V)} {y:Key} {d:D} {v:V},KVs K Y k H l r->Is K Y k H d v->KVs K Y k H (l++[(y,d)]) (r++[(y,v)])
 |[],_,y,d,v,h,h1=>by cases h;exact⟨v,[],rfl,h1,rfl⟩
 |(z,e)::l,_,y,d,v,h,h1=>by
  obtain⟨w,r',rfl,h2,h3⟩:=h;exact⟨w,_,rfl,h2,KVs.app h3 h1⟩
theorem KVs.mapPut:∀{l:List (Key×D)} {r:List (Key×V)} {y:Key} {d:D} {v:V},KVs K Y k H l r->Is K Y k H d v->KVs K Y k H (l.map λkv=>if kv.1=y then (kv.1,d) else kv) (r.map λkv=>if kv.1=y then (kv.1,v) else kv)
 |[],_,y,d,v,h,h1=>by cases h;rfl
 |(z,e)::l,_,y,d,v,h,h1=>by
  obtain⟨w,r',rfl,h2,h3⟩:=h;rw[AAW,AAW];by_cases hz:z=y
  ·subst hz;simp only[if_true];exact⟨v,_,rfl,h1,KVs.mapPut h3 h1⟩
  ·simp only[hz,if_false];exact⟨w,_,rfl,h2,KVs.mapPut h3 h1⟩
theorem KVs.put(h:KVs K Y k H l r)(h1:Is K Y k H d v):KVs K Y k H (Cw l y d) (Fq r y v):=by
 unfold Cw Fq;rw[h.any y];split
 ·exact h.mapPut h1
 ·exact h.app h1
theorem G7(h:Is K Y k H d v)(e:KC d=some y):v=kV y:=by
 cases d with
 |int i=>cases e;unfold Is at h;exact h
 |str i=>cases e;unfold Is at h;exact h
 |_=>cases e
theorem DK(R:RelH K Y Z H)(i:Is K Y Z.length H d v)(e:EV d Z=some (r,Z')):Z'=Z/\d=.ref r.1/\Z[r.1]?=some (.dK r.2)/\v=.ref (Y r.1)/\∃kvs,H (Y r.1)=some (.dK kvs)/\KVs K Y Z.length H r.2 kvs:=by
 cases d with
 |ref n=>
  have e:(match Z[n]? with|some (.dK l)=>some ((n,l),Z)|_=>none)=some (r,Z'):=e;split at e
  ·rename_i l hq;cases e;unfold Is at i;obtain⟨u,h1,kvs,rfl,h2⟩:=R.obj n _ hq;exact⟨rfl,rfl,hq,i.2,kvs,h1,h2⟩
  ·cases e
 |_=>cases e
end
noncomputable def D7(d y:D):M D:=bnd (EV d) λr=>λZ=>((KC y).bind (Ch r.2)).map λv=>(v,Z)
theorem NH(hr:Room k X.A)(ho:RE X o mo)(hi:RE X i mi)(hs:UR i:=by exact λ_ _=>rfl):RE X (.Subscript o i pos) (mOp D7 mo mi):=RE.wk (Th (RL hr) ho.pe hi.pe hs) λO H Q h=>by
 obtain⟨Y,Z,B,d,Z',R,S,e,q⟩:=h;obtain⟨x,w5,e1,ee1⟩:=AE e;obtain⟨y,w6,e2,ee2⟩:=AE ee1;obtain⟨r,x6,e3,ee3⟩:=AE ee2;refine⟨Y,Z,B,x,w5,R,S,e1,λx3 H1 E1 R1 v1 i1=>⟨x3,w5,B,y,w6,R1,S.ext E1,e2,λx4 H2 E2 R2 v2 i2=>?_⟩⟩;obtain⟨hm,_,g1,rfl,kvs,g2,g3⟩:=DK R2 (i1.ext E2) e3;subst hm;cases hk:KC y with
 |none=>rw[hk] at ee3;cases ee3
 |some ky=>
  rw[hk] at ee3;cases G7 i2 hk;rcases g3.val ky with ⟨z1,_⟩|⟨dd,vv,z1,z2,z3⟩
  ·rw[Option.bind_some,z1] at ee3;cases ee3
  ·rw[Option.bind_some,z1] at ee3;cases ee3;exact⟨_,vv,rfl,by rw[←z2];exact DGet.k g2,q x4 H2 (E1.trans E2) R2 vv z3⟩
noncomputable def KJ(d:D):M Unit:=bnd (EV d) λ_=>ret ()
theorem On(e:KJ d Z=some (u,Z')):Z'=Z/\∃r,EV d Z=some (r,Z):=by
 obtain⟨r,w5,e1,ee1⟩:=AE e;cases ee1;cases d with
 |ref n=>
  have e2:(match Z[n]? with|some (.dK l)=>some ((n,l),Z)|_=>none)=some (r,Z'):=e1;split at e2
  ·cases e2;exact⟨rfl,_,e1⟩
  ·cases e2
 |_=>cases e1
noncomputable def LY(neg:Bool)(y d:D):M D:=bnd (EV d) λr=>λZ=>(KC y).map λk=>(.bl (if neg then !(Ch r.2 k).isSome else (Ch r.2 k).isSome),Z)
theorem VS(h:tE K (mOp (LY false) mi mo) O H Q):XN (tE K mi) (tE K mo) O H Q:=by
 obtain⟨Y,Z,B,d,Z',R,S,e,q⟩:=h;obtain⟨y,w5,e1,ee1⟩:=AE e;obtain⟨x,w6,e2,ee2⟩:=AE ee1;obtain⟨r,x6,e3,ee3⟩:=AE ee2;refine⟨Y,Z,B,y,w5,R,S,e1,λx3 H1 E1 R1 v1 i1=>⟨x3,w5,B,x,w6,R1,S.ext E1,e2,λx4 H2 E2 R2 v2 i2=>?_⟩⟩;obtain⟨hm,_,g1,rfl,kvs,g2,g3⟩:=DK R2 i2 e3;subst hm;cases hk:KC y with
 |none=>rw[hk] at ee3;cases ee3
 |some ky=>
  rw[hk] at ee3;cases ee3;cases G7 (i1.ext E2) hk;refine⟨_,EY kvs ky,rfl,DGet.k g2,?_⟩;rcases g3.val ky with ⟨z1,z2⟩|⟨dd,vv,z1,z2,z3⟩
  ·rw[z2];rw[z1] at q;exact q x4 H2 (E1.trans E2) R2 _ (ofB _)
  ·rw[z2];rw[z1] at q;exact q x4 H2 (E1.trans E2) R2 _ (ofB _)
theorem Ve(hr:Room k X.A)(hi:RE X i mi)(ho:RE X o mo)(h1:behindInMarks .In o=false:=by first|exact nobehind _ (by decide) (by decide)|rfl):RE X (.Compare i [.In] [o] pos) (mOp (LY false) mi mo):=RE.wk (Vy (V2 (RL hr) hi.pe ho.pe) h1) λ_ _ _ h=>VS h
noncomputable def FQ(mo mi mv:Sl->M D):Sl->M (Fl×Sl):=λB=>bnd (mv B) λv=>bnd (mo B) λx=>bnd (mi B) λy=>bnd (EV x) λr=>λZ=>match KC y with
 |some k=>if r.2.length<sizeLine then some ((.next,B),Z.set r.1 (.dK (Cw r.2 k v))) else none
 |none=>none
theorem NA(hr:Room k X.A)(ho:RE X o mo)(hi:RE X i mi)(hv:RE X value mv)(hs:swapsWith value (some (.Subscript o i pos')) pos.line X.env=pure false:=by rfl):RS X (.Assign [.Subscript o i pos'] value pos) (FQ mo mi mv):=RS.wk (Ta (RL hr) ho.pe hi.pe hv.pe hs) λDn O H h=>by
 obtain⟨Y,Z,B,f,x8,Z',R,S,e,q⟩:=h;obtain⟨v,w5,e1,ee1⟩:=AE e;obtain⟨x,w6,e2,ee2⟩:=AE ee1;obtain⟨y,x6,e3,ee3⟩:=AE ee2;obtain⟨r,y9,e4,ee4⟩:=AE ee3;refine⟨Y,Z,B,v,w5,R,S,e1,λx3 H1 E1 R1 v1 i1=>⟨x3,w5,B,x,w6,R1,S.ext E1,e2,λx4 H2 E2 R2 v2 i2=>⟨x4,w6,B,y,x6,R2,S.ext (E1.trans E2),e3,λx9 H3 E3 R3 v3 i3=>?_⟩⟩⟩;obtain⟨hm,hx,g1,hv2,kvs,g2,g3⟩:=DK R3 (i2.ext E3) e4;subst hm;have E13:=(E1.trans E2).trans E3;cases hk:KC y with
 |none=>rw[hk] at ee4;cases ee4
 |some ky=>
  rw[hk] at ee4;have ee4:(if r.2.length<sizeLine then some ((Fl.next,B),List.set y9 r.1 (MO.dK (Cw r.2 ky v))) else none)=some ((f,x8),Z'):=ee4;split at ee4
  ·rename_i hl;cases ee4;cases G7 i3 hk;have hlt:r.1<List.length y9:=(AAT.mp g1).1;obtain⟨E4,R4⟩:=R3.changed (m:=.dK (Cw r.2 ky v)) (o:=.dK (Fq kvs ky v1)) hlt ⟨_,rfl,g3.put (i1.ext (E2.trans E3))⟩;exact⟨_,_,hv2,DPut.k g2 (by rw[g3.length];exact hl),q x9 _ (E13.trans E4) R4 O (S.ext (E13.trans E4))⟩
  ·cases ee4
noncomputable def Ct:Nat->List D->List D
 |_,[]=>[]
 |k,d::ds=>.tup [.int k,d]::Ct (k+1) ds
theorem JM:∀(k:Nat) (ds:List D),(Ct k ds).length=ds.length
 |_,[]=>rfl
 |k,_::ds=>by unfold Ct;simp[JM (k+1) ds]
theorem JN:∀(k:Nat) (ds:List D) (j:Nat),(Ct k ds)[j]?=(ds[j]?).map λd=>.tup [.int ((k+j:Nat):Int),d]
 |_,[],j=>by simp[Ct]
 |k,d::ds,0=>by simp[Ct]
 |k,d::ds,j+1=>by
  unfold Ct;rw[List.getElem?_cons_succ,List.getElem?_cons_succ,JN (k+1) ds j];have:k+1+j=k+(j+1):=by omega
  rw[this]
noncomputable def Nm:List D->M (List D)
 |[.lst ds]=>ret ds
 |[.scr ns]=>ret (ns.map D.int)
 |_=>BQ
noncomputable def NW(m:Sl->M (List D)):Sl->M (List D):=λB=>bnd (m B) λas=>bnd (Nm as) λds=>ret (Ct 0 ds)
theorem Hn(st:∀Y' (Z':Mh) H',Ext Y Z.length H Y' Z'.length H'->RelH K Y' Z' H'->Cond K H')(i:IsL K Y Z.length H ds vs):
  ItM K (ItP K vs.length (Ey vs) Cond) (Ct 0 ds) Y Z H:=by
 intro Y' Z' H' E R;have h:=st Y' Z' H' E R;rw[JM,←i.length];refine⟨λj hj=>⟨hj,h⟩,⟨rfl,h⟩,λj x H2 d hd y=>?_⟩;obtain⟨T,hT,rfl,rfl⟩:=y;obtain⟨E2,R2⟩:=R.laid (.tup (Ey vs j)) hT;refine⟨E2,R2,?_⟩;rw[JN] at hd;cases q:ds[j]? with
 |none=>rw[q] at hd;cases hd
 |some d0=>
  rw[q] at hd;cases hd;obtain⟨w,ew,iw⟩:=(i.ext E).get q;have e0:vs.getD j V.non=w:=by simp[List.getD,ew]
  have es:Ey vs j=[.int j,w]:=by unfold Ey;rw[e0]
  have key:IsL K Y' (List.length Z') (upd H' T (.tup (Ey vs j))) [.int ((0+j:Nat):Int),d0] [.int j,w]:=.cons (by unfold Is;simp) (.one (iw.ext E2));unfold Is;exact⟨T,_,rfl,SqT.of Bw,(congrArg (IsL K Y' (List.length Z') (upd H' T (.tup (Ey vs j))) [.int ((0+j:Nat):Int),d0]) es).mpr key⟩
theorem K5(hm:X.mg "enumerate" = none)(ha:RA X [a] m)(hg:Gl X "enumerate" := by rfl)(hs:starEach [a] X.env=[(false,eval a X.env)]:=by rfl):RI X (.Tuple es k0 tpos) (.Call (.Name "enumerate" p) [a] [] pos) (NW m):=
 RI.wk (QX hg hm ha.pe hs) λO H R q=>by
  obtain⟨Y,Z,B,ds,Z',R0,S,e,q⟩:=q;obtain⟨xs,w5,e1,ee1⟩:=AE e;obtain⟨zs,w6,e2,ee2⟩:=AE ee1;cases ee2;refine⟨Y,Z,B,xs,w5,R0,S,e1,λx3 H1 E1 R1 vs i1=>?_⟩;unfold Nm at e2;split at e2
  ·cases e2;obtain⟨v,rfl,i2⟩:=Ew i1;unfold Is at i2;obtain⟨p,ws,rfl,h1,hn,h2⟩:=i2;exact⟨p,ws,rfl,SqL.of h1,q x3 H1 E1 R1 _ (Hn (λY' Z' H' E _=>SqL.of (E.keep p _ h1 hn)) h2)⟩
  ·cases e2;obtain⟨v,rfl,i2⟩:=Ew i1;unfold Is at i2;obtain⟨p,rfl,h1⟩:=i2;exact⟨p,_,rfl,h1.sq,q x3 H1 E1 R1 _ (Hn (λY' Z' H' E _=>(Jo E h1).sq) (IsL.ofInts _))⟩
  ·cases e2
end
theorem BS:bootBuiltins "len" = some (.builtin "len"):=by decide +kernel
theorem CZ:bootBuiltins "isinstance" = some (.builtin "isinstance"):=by decide +kernel
theorem F5:bootBuiltins "int" = some (.type "int"):=by decide +kernel
theorem O0:bootBuiltins "bool" = some (.type "bool"):=by decide +kernel
theorem Dh:bootBuiltins "tuple" = some (.type "tuple"):=by decide +kernel
theorem FI:bootBuiltins "list" = some (.type "list"):=by decide +kernel
noncomputable def Fa:Nat:=1048576
structure Fn(P:Program)(w:World)(K:PySem.W.Frag)(mg:Str->Option Value)(base:Heap)(x:Str)(ps:List Str)(k:Nat)(φ:List D->M D):Prop where
 len:∀ds Z r,φ ds Z=some r->ds.length=ps.length
 ex:∃f fd,FnOk P w K mg base CX0 k f fd ps (spM ⟨K,w⟩ ps.length φ)/\mg x=some (.ref f)/\PySem.W.keepIn K (.ref f)=true/\Binds K fd ps []
def Glo(K:PySem.W.Frag)(mg:Str->Option Value)(x:Str)(d:D):Prop:=∃u v,mg x=some u/\RelV v u/\∀w Y k H,Is ⟨K,w⟩ Y k H d v
section
variable{X:Cx}{e:Expr}{es:List Expr}{pos p:Pos}
theorem A9(F:Fn X.prog X.w X.kw X.mg X.base x ps k φ)(hr:Room j X.A)(ha:RA X (e::es) m)(hkj:k<=j:=by decide)(hg:Gl X x:=by rfl)(hdb:(x==("__debug__" : Str))=false:=by decide)
  (he:starEach (e::es) X.env=(false,eval e X.env)::starEach es X.env:=by exact BY rfl) (hpl:(backTo pos (starEach es X.env)).any (·.1)=false:=by exact C2 rfl):RE X (.Call (.Name x p) (e::es) [] pos) (AG φ m):=by
 obtain⟨len,f,fd,F,hm,hk,hb⟩:=F;exact TL F (hr.mono hkj) hm hk hb len ha hg hdb he hpl
theorem Dm(h:Glo X.kw X.mg x d)(hg:Gl X x:=by rfl)(hdb:(x==("__debug__" : Str))=false:=by decide):RE X (.Name x pos) (mC d):=by
 obtain⟨u,v,hm,r,hd⟩:=h;exact TJ hm r (hd _) hg hdb
end
theorem Wh(F:Fun K x qual st f fd)(S:Ac N ps (AQ st))(hm:mg x=some (.ref f))(hb:Binds K fd ps [])
  (body:∀(cdv:Value) (A:Around) (outer:List Env) (s:Shared) (H:Hp) (E:XK),Room k (A.deeper (PyProof.Rows.envOfC qual (AQ st) s.heap.objs.size f cdv))->RSs (GT CX0 P w K mg base N qual (AQ st) f cdv A outer s H E).nox (CM st) mb)
  (len:∀ds Z r,φ ds Z=some r->ds.length=ps.length)
  (run:∀ds Z d Z',φ ds Z=some (d,Z')->∃fl x5 w6,mb (Bh N.length ds) Z=some ((fl,x5),w6)/\(fl=.next∨∃d,fl=.rt d)/\EC Z w6 Z' (Dv fl) d):Fn P w K mg base x ps (k+1) φ:=
 ⟨len,f,fd,JK F S rfl body run,hm,F.kp,hb⟩
theorem HM(h:Cl Z.length d):EC Z (Z++g) Z d d:=⟨⟨g,rfl⟩,AAE _,λ_ _ e=>.inl e,.inl ⟨rfl,h⟩⟩
end Mi
namespace L2
open PySem PySem.Spec PyProof.Rows Sem
section
variable{prog:Program}{w:World}{A:Around}{E:Value->Shared->Prop}{s:Shared}
theorem FS[Decidable c](h:¬c)(hb:wpAny M A b Q E s):wpAny M A (if c then a else b) Q E s:=by
 rw[if_neg h];exact hb
theorem Kk(hh:A.handled=none)(hit:s.heap.IsTupleIter it t i)(ht:s.heap.IsTuple t items)
  (more:∀x h',items[i]?=some x->h'.IsTupleIter it t (i+1)->Heap.SameBut it s.heap h'->Q x { s with heap:=h' })
  (over:items[i]?=none->∀h' e,Heap.ExtBut it s.heap h'->(∃o,h'.get? e=some o/\o.cls=.type "StopIteration")->E (.ref e) { s with heap:=h' }) :
  wpAny (model prog w) A (Builtin.SmallTypes.nextOf (.ref it)) Q E s:=by
 have ty:=hit.typeIs;obtain⟨o,at_it,hc,hd⟩:=hit;obtain⟨ot,at_t,_,n,hdt⟩:=ht;have put:∀(k:Nat) (v:Value),(s.heap.update it (Obj.mapFields (λfs=>fs.set! k v))).get? it=some (Obj.mapFields (λfs=>fs.set! k v) o):=λk v=>Heap.get?_update_self _ at_it (Obj.isFreed_of_fields (Obj.data_mapFields hd _));unfold Builtin.SmallTypes.nextOf;refine AAA (wpAny_callSpecial?_slot ty F.slot_tuple_iterator_next (AAd F.slot_tuple_iterator_next ty F.entry_tuple_iterator_next ?_ (F.args_tuple_iterator_next_1 _)));have notNone:¬(Value.ref t==Value.none)=true:=AAh;refine AAA (m:=field (.ref it) 0) (wpAny_field at_it hd (x:=.ref t) rfl ?_);refine FS notNone ?_;refine AAA (m:=field (.ref it) 1) (wpAny_field at_it hd (x:=.int i 0) rfl (AAA (m:=seqItems? (.ref t)) (wpAny_seqItems at_t hdt ?_)));have ei:((i:Int)).toNat=i:=Int.toNat_natCast i;cases hx:items[i]? with
 |some x=>
  dsimp only;rw[ei,hx];refine AAA (wpAny_setField at_it hd (by simp) (AAB ⟨x,rfl,AAB (more x _ hx ⟨_,put _ _,?_,?_⟩ (Heap.SameBut.update ..))⟩))
  ·exact(Obj.cls_mapFields ..).trans hc
  ·rw[Obj.data_mapFields hd];rfl
 |none=>
  dsimp only;rw[ei,hx];refine AAA (wpAny_rule (AAA (wpAny_setField at_it hd (by simp) ?_)));have first:firstArgMember (.type "StopIteration") []=pure Value.none:=by first|rfl|(unfold firstArgMember;rfl)
  unfold Builtin.SmallTypes.stopIteration newExc newTuple;refine AAA (AAA (AAq (AAA (wpAny_of_eq first (AAq (wpAny_raiseNew_none hh ?_) (by size_fits)))) (by size_fits)));exact over hx _ _ (((Heap.SameBut.update ..).extBut.push _).push _) ⟨_,AAD _ rfl,rfl⟩
theorem Ou(hh:A.handled=none)(it t:Addr)(hne:t≠it)(items:Array Value):
  Draws prog w A it [it,t] items.size (λi v=>items[i]?=some v) (λi h=>h.IsTupleIter it t i/\h.IsTuple t items):=by
 refine⟨λi h st=>?_,λi h h' st k=>⟨?_,?_⟩,λi s Q E hi st q=>?_,λs Q E st q=>?_⟩
 ·obtain⟨⟨o,e,_⟩,_⟩:=st;exact⟨o,e⟩
 ·obtain⟨⟨o,e,r⟩,_⟩:=st;exact⟨o,k it (by simp) o e,r⟩
 ·obtain⟨_,⟨o,e,r⟩⟩:=st;exact⟨o,k t (by simp) o e,r⟩
 ·exact Kk hh st.1 st.2 (λx h' hx st' sb=>q x h' s.toks hx ⟨st',st.2.extBut sb.extBut hne⟩ sb) λno=>absurd no (by simp[hi])
 ·exact Kk hh st.1 st.2 (λx h' hx=>absurd hx (by simp)) λ_ h' e eb so=>q h' e eb so
noncomputable abbrev F0(it:Addr):Obj:={ cls:=.type "enumerate",data:=.fields #[.none,.bool false,.ref it,rawInt 0,.none,.none] }
theorem Rh(v:Value)(ob:Obj)(good:Heap->Prop)(hv:∀(prog:Program) (w:World) (A:Around) (E:Value->Shared->Prop) (s:Shared) (Q:Value->Shared->Prop),good s.heap->Q (.ref s.heap.objs.size) { s with heap:=s.heap.push ob }->wpAny (model prog w) A (pyIter v) Q E s):
  Meets (Builtin.«enumerate.__new__» ⟨[.type "enumerate",v],[]⟩) (λ_ R s=>good s.heap/\R (.ok (.ret (.ref (s.heap.push ob).objs.size))) { s with heap:=(s.heap.push ob).push (F0 s.heap.objs.size) }):=by
 refine .of_wp λprog w A R s ⟨g,q⟩=>?_;have own:=sub_enumerate;have walk:∀(A:Around) (E:Value->Shared->Prop) (Q:Value->Shared->Prop),Q (.ref s.heap.objs.size) { s with heap:=s.heap.push ob }->wpAny (model prog w) A (pyIter v) Q E s:=λA E Q z=>hv prog w A E s Q g z;obtain⟨hp,gs,dr,tk,os⟩:=s
 wp_walk
 refine wpAny_stack_any λst=>AAB ?_;split
 ·rename_i c _ _ _ _ _;cases (c==Value.type "enumerate")<;>(wp_walk using walk;exact⟨_,rfl,q⟩)
 ·wp_walk using walk
  exact⟨_,rfl,q⟩
end
end L2
namespace L2
open PySem PySem.Spec PyProof.Rows
theorem Lz{P:Program}{w:World}{K:PySem.W.Frag}(a e it:Addr)(xs:List V)(hei:e≠it)(hea:e≠a)(hai:a≠it):
  Lp P w K (.Tuple es k0 pos) (ItP K xs.length (Ey xs) λK H=>SqT K H a xs) [e,it] e (λi h=>(∃old,IsEnum h e it i old)/\h.IsTupleIter it a i):=by
 refine HI (Y:=List Value) (fp:=[e,it,a]) (Mid:=λits i T h=>(∃x,IsEnumOut h e it ((i:Int)+1) x T)/\(h.IsTupleIter it a (i+1)/\h.IsTuple a its.toArray)/\T≠e/\T≠it) (good:=λits=>Vals xs its) (Pt:=λits i vals=>∃t x,its.toArray[i]?=some x/\vals=#[.int i t,x]) (Sw:=λits i h=>(∃old,IsEnum h e it i old)/\h.IsTupleIter it a i/\h.IsTuple a its.toArray)
  (λA hA its r=>?walk) AAP (λits i vals r h=>IE r h) (λi=>(by show 2<=sizeLine;decide)) (λi h st=>?obj) (λi h h' st k=>?keep) (λX w4 O H s i hP hw hK I hc st=>?into) (λz i h st=>⟨st.1,st.2.1⟩) (λA i s Q E st h=>?self)
 case walk=>
  have hl:xs.length=its.toArray.size:=by rw[List.size_toArray];exact r.length
  have D:=Ou (prog:=P) (w:=w) (A:=A.in1) hA it a hai its.toArray;rw[hl];exact WalksT.enumerateD D e hei (by simp[hei,hea]) (by simp)
 case obj=>
  obtain⟨o,ho,_,hd⟩:=st.2;exact Ri st.1 ho ⟨_,hd⟩
 case keep=>
  obtain⟨⟨old,q⟩,o,ho,r⟩:=st;exact⟨⟨old,k e (by simp) _ q⟩,o,k it (by simp) o ho,r⟩
 case into=>
  subst hK;obtain⟨its,r,p,_⟩:=I.tuple hc;exact⟨its,r,st.1,st.2,p⟩
 case self=>exact Nv (f:=λi h=>h.IsTupleIter it a i) A i s Q E st h
section
variable{X:Cx}{es:List Expr}{k0:Nat}{tpos:Pos}
noncomputable def Wa(K:PySem.W.Frag)(ta:TA):TI:=λO H R=>ta O H λvs H1=>∃a xs,vs=[.ref a]/\SqT K H1 a xs/\R (ItP K xs.length (Ey xs) λK H=>SqT K H a xs) H1
theorem QW(hg:Gl X "enumerate")(hm:X.mg "enumerate" = none)(ha:PA X [a] ta)(hs:starEach [a] X.env=[(false,eval a X.env)]:=by rfl):PI X (.Tuple es k0 tpos) (.Call (.Name "enumerate" p) [a] [] pos) (Wa X.kw ta):=by
 intro w4 s O H R I h;refine Call_ (GI I hg hm JS (PyProof.Rows.callWith_type1 (thn (ha pos w4 s O H _ I h) λus s1 ⟨vs,H1,I1,r1,q1⟩=>?_) hs rfl));obtain⟨l,xs,ev,hq,q⟩:=q1;subst ev;obtain⟨u,eu,ru⟩:=Eb r1;subst eu;cases ru;obtain⟨its,rv,pl,hz⟩:=I1.tuple hq;have lt:l<s1.heap.objs.size:=by obtain⟨o,e,_⟩:=pl;exact Heap.lt_size e
 have new:=Rh (.ref l) { cls:=.type "tuple_iterator",data:=.fields #[.ref l,.int 0 0] } (λh=>h.IsTuple l its.toArray) (λ_ _ _ _ _ _ g z=>wpAny_pyIter_tuple g z);refine callType_new F.called_enumerate (by decide) (F.typeCall_enumerate_1 _) (F.newCall_enumerate_1 _) (λobj=>F.args_object_init_2 obj _) F.entry_enumerate_new new ⟨pl,?_⟩;generalize hG:s1.heap.push { cls:=.type "tuple_iterator",data:=.fields #[.ref l,.int 0 0] }=G;have hsz:G.objs.size=s1.heap.objs.size+1:=by rw[←hG];exact Heap.size_push ..
 have at_e:(G.push (F0 s1.heap.objs.size)).get? (s1.heap.objs.size+1)=some (F0 s1.heap.objs.size):=by rw[←hsz];exact AAD _ rfl
 have he:IsEnum (G.push (F0 s1.heap.objs.size)) (s1.heap.objs.size+1) s1.heap.objs.size 0 .none:=at_e;have at_i:(G.push (F0 s1.heap.objs.size)).IsTupleIter s1.heap.objs.size l 0:=⟨_,AAC _ (hG ▸ AAD _ rfl),rfl,rfl⟩;show _/\_;rw[hsz];refine⟨⟨_,at_e,rfl⟩,wpAny_pyIter_enum he ?_⟩;refine⟨s1.heap.objs.size+1,[s1.heap.objs.size+1,s1.heap.objs.size],λi h=>(∃old,IsEnum h (s1.heap.objs.size+1) s1.heap.objs.size i old)/\h.IsTupleIter s1.heap.objs.size l i,_,H1,rfl,I1.kept (t':=s1.toks) λb o x=>AAC _ (hG ▸ AAC _ x),?_,⟨⟨_,he⟩,at_i⟩,Pf I1,q⟩;exact Lz l _ _ xs (Nat.succ_ne_self _) (Nat.ne_of_gt (AAi lt)) (AAe lt)
end
end L2
namespace Mi
open PySem L2
section
variable{X:Cx}{a:Expr}{es:List Expr}{pos:Pos}
noncomputable def Pg:List D->M (List D)
 |[.tup ds]=>ret ds
 |_=>BQ
noncomputable def Q1(m:Sl->M (List D)):Sl->M (List D):=λB=>bnd (m B) λas=>bnd (Pg as) λds=>ret (Ct 0 ds)
theorem P5(hm:X.mg "enumerate" = none)(ha:RA X [a] m)(hg:Gl X "enumerate" := by rfl)(hs:starEach [a] X.env=[(false,eval a X.env)]:=by exact BY rfl):RI X (.Tuple es k0 tpos) (.Call (.Name "enumerate" p) [a] [] pos) (Q1 m):=
 RI.wk (QW hg hm ha.pe hs) λO H R q=>by
  obtain⟨Y,Z,B,ds,Z',R0,S,e,q⟩:=q;obtain⟨xs,w5,e1,e2⟩:=AE e;obtain⟨zs,w6,e3,e4⟩:=AE e2;cases e4;refine⟨Y,Z,B,xs,w5,R0,S,e1,λx3 H1 E1 R1 vs i1=>?_⟩;unfold Pg at e3;split at e3
  ·cases e3;obtain⟨v,rfl,i2⟩:=Ew i1;unfold Is at i2;obtain⟨p,ws,rfl,h1,h2⟩:=i2;exact⟨p,ws,rfl,h1,q x3 H1 E1 R1 _ (Hn (λY' Z' H' E _=>Jj E h1) h2)⟩
  ·cases e3
end
end Mi
namespace L2
open PySem PySem.Spec PyProof.Rows Sem
end L2
namespace L2
open PySem PySem.Spec PyProof.Rows
namespace Sk
end Sk
end L2
namespace Mi
open PySem L2
end Mi
namespace L2
open PySem PySem.Spec PyProof.Rows Sem
end L2
namespace Mi
open PySem L2
inductive How where
 |all|drop|frz
noncomputable def Qj(w6:Mh):How->D->D
 | .frz,.ref n=>match w6[n]? with
  |some (.lst ds)=>.lst ds
  |_=>.ref n
 |_,d=>d
noncomputable def OU(Z w6:Mh):How->Mh
 | .all=>w6
 |_=>w6.take Z.length
open Classical in
noncomputable def A3(hw:How)(n ps:Nat)(mb:Sl->M (Fl×Sl)):List D->M D:=λds Z=>match mb (Bh n ds) Z with
 |some ((fl,_),w6)=>if ds.length=ps/\(fl=.next∨∃d,fl=.rt d)/\EC Z w6 (OU Z w6 hw) (Dv fl) (Qj w6 hw (Dv fl)) then some (Qj w6 hw (Dv fl),OU Z w6 hw) else none
 |none=>none
theorem Fc(h:A3 hw n ps mb ds Z=some (d,Z')):
  ds.length=ps/\∃fl x5 w6,mb (Bh n ds) Z=some ((fl,x5),w6)/\(fl=.next∨∃d,fl=.rt d)/\EC Z w6 Z' (Dv fl) d:=by
 unfold A3 at h;split at h
 ·rename_i fl x5 w6 e;split at h
  ·rename_i c;cases h;exact⟨c.1,fl,x5,w6,e,c.2.1,c.2.2⟩
  ·cases h
 ·cases h
theorem IK(e:mb (Bh n ds) Z=some ((fl,x5),w6))(hl:ds.length=ps)(hf:fl=.next∨∃d,fl=.rt d)(t:EC Z w6 (OU Z w6 hw) (Dv fl) (Qj w6 hw (Dv fl))):
  A3 hw n ps mb ds Z=some (Qj w6 hw (Dv fl),OU Z w6 hw):=by
 unfold A3;rw[e];exact if_pos ⟨hl,hf,t⟩
theorem An(e:mb (Bh n ds) Z=some ((.rt d,x5),Z++g))(hl:ds.length=ps)(c:Cl Z.length d):A3 .drop n ps mb ds Z=some (d,Z):=by
 have t:OU Z (Z++g) .drop=Z:=by show (Z++g).take Z.length=Z;rw[List.take_left]
 have h:=IK (hw:=.drop) e hl (.inr ⟨d,rfl⟩) (by rw[t];exact HM c);rw[t] at h;exact h
theorem JR(e:mb (Bh n ds) Z=some ((.rt (.ref k),x5),Z++g))(hl:ds.length=ps)(hk:Z.length<=k)(hg:(Z++g)[k]?=some (.lst es))(c:ClL Z.length es):A3 .frz n ps mb ds Z=some (.lst es,Z):=by
 have t:OU Z (Z++g) .frz=Z:=by show (Z++g).take Z.length=Z;rw[List.take_left]
 have o:Qj (Z++g) .frz (Dv (.rt (.ref k)))=.lst es:=by
  show (match (Z++g)[k]? with|some (.lst ds)=>D.lst ds|_=>.ref k)=_;rw[hg]
 have h:=IK (hw:=.frz) e hl (.inr ⟨_,rfl⟩) (by rw[t,o];exact⟨⟨g,rfl⟩,AAE _,λ_ _ z=>.inl z,.inr ⟨k,es,rfl,hg,hk,rfl,c⟩⟩);rw[t,o] at h;exact h
theorem A4(hw:How)(F:Fun K x qual st f fd)(S:Ac N ps (AQ st))(hm:mg x=some (.ref f))(hb:Binds K fd ps [])
  (body:∀(cdv:Value) (A:Around) (outer:List Env) (s:Shared) (H:Hp) (E:XK),Room k (A.deeper (PyProof.Rows.envOfC qual (AQ st) s.heap.objs.size f cdv))->RSs (GT CX0 P w K mg base N qual (AQ st) f cdv A outer s H E).nox (CM st) mb) :
  Fn P w K mg base x ps (k+1) (A3 hw N.length ps.length mb):=
 Wh F S hm hb body (λds Z r h=>(Fc (d:=r.1) (Z':=r.2) h).1) (λds Z d Z' h=>(Fc h).2)
theorem Fn.mono(F:Fn P w K mg base x ps j φ)(h:j<=k):Fn P w K mg base x ps k φ:=by
 obtain⟨len,f,fd,F,hm,hk,hb⟩:=F;exact⟨len,f,fd,F.mono h,hm,hk,hb⟩
theorem LR(F:Fun K x qual st f fd)(hm:mg x=some (.ref f))(hb:Binds K fd ps []):Fn P w K mg base x ps k (λ_=>BQ):=by
 refine⟨(λds Z r h=>absurd (show (none:Option (D×Mh))=some r from h) (by simp)),⟨f,fd,⟨λvs H Q E h=>?_,λA outer s H args us vs Q E _ _ _ _ h=>?_⟩,hm,F.kp,hb⟩⟩
 ·obtain⟨_,Y,Z,as,d,Z',_,_,e,_⟩:=h;cases e
 ·obtain⟨_,Y,Z,as,d,Z',_,_,e,_⟩:=h;cases e
section
variable{P:Program}{w:World}{K:PySem.W.Frag}{mg:Str->Option Value}{base h:Heap}{x:Str}
theorem G9(X:K.In h)(G:h.Ns mainGlobals mg)(a:PySem.W.nsIn K mainGlobals x=some (some (.int i t))):Glo K mg x (.int i):=
 ⟨_,.int i,PySem.W.mg_of X G a,⟨t,rfl⟩,λ_ _ _ _=>by unfold Is;rfl⟩
structure Df(K:PySem.W.Frag)(x:Str)(st:Stmt)(f:Addr)(fd:FuncData):Prop where
 a:PySem.W.nsIn K mainGlobals x=some (some (.ref f))
 F:Fun K x x st f fd
theorem YQ{st:Stmt}{f:Addr}{oc:Value}{osl:Array (Option Value)}{kV doc pm cdv ct:Value}(a:PySem.W.nsIn K mainGlobals x=some (some (.ref f)))(l:K.lookup f=some ⟨oc,od,.func (PySem.W.fnOf x x (F1 st) (CM st) (AQ st) .none kV doc pm an cdv ct),osl⟩)
  (c:PySem.W.codeIn K cdv x=true) (k:PySem.W.keepIn K (.ref f)=true):∃f fd,Df K x st f fd:=⟨f,_,a,Wf l c k⟩
theorem RP(hw:How)(F:Fun K x qual st f fd)(S:Ac N ps (AQ st))
  (body:∀(cdv:Value) (A:Around) (outer:List Env) (s:Shared) (H:Hp) (E:XK),Room k (A.deeper (PyProof.Rows.envOfC qual (AQ st) s.heap.objs.size f cdv))->RSs (GT CX0 P w K mg base N qual (AQ st) f cdv A outer s H E).nox (CM st) mb) :
  FnOk P w K mg base CX0 (k+1) f fd ps (spM ⟨K,w⟩ ps.length (A3 hw N.length ps.length mb)):=
 JK F S rfl body (λds Z d Z' h=>(Fc h).2)
noncomputable def M5(K:PySem.W.Frag):Sp:=λvs H Q _=>∃(a:Addr) (ns:List Int),vs=[.ref a]/\ScrAt K H a (ns.map V.int)/\ns.length<=63/\∀H',Q (.bl true) H'
theorem VM(F:FnOk P w K mg base CX0 k f fd ["_law_script"] (spM ⟨K,w⟩ 1 φ))(hφ:∀ns:List Int,ns.length<=63->∃Z',φ [.scr ns] []=some (.bl true,Z')):FnOk P w K mg base CX0 k f fd ["_law_script"] (M5 K):=
 F.imp λvs H Q E q=>by
  obtain⟨a,ns,rfl,s,hl,q⟩:=q;obtain⟨Z',e⟩:=hφ ns hl;refine⟨rfl,λ_=>a,[],[.scr ns],.bl true,Z',⟨λi j h=>absurd h (Nat.not_lt_zero _),λn o e=>by simp at e⟩,.one (by unfold Is;exact⟨a,rfl,s⟩),e,λx4 H2 E2 R2 v i=>?_⟩;unfold Is at i;rw[i];exact q H2
theorem Kq(o:UQ H)(s:SqL K H a xs):ScrAt K H a xs:=by
 rcases s with z|z
 ·rcases z with z|⟨p,z⟩
  ·rcases o a with q|⟨p,ys,q⟩
   ·rw[q] at z;cases z
   ·rw[q] at z;cases z
  ·exact .inl ⟨p,z⟩
 ·exact .inr z
end
theorem W6{l:PySem.W.OpenLaw}{q:Program}{loose:List Str}{XP:(Str->Option Value)->Heap->Prop}{K:Params->PySem.W.Frag}{k:Nat}(hn:l.most=some 63)(hdf:d.params.defaults=[])(hk:k<=60)
  (hY:∀(w:World) (h:Heap),YP w h->(K w.params).In h)
  (F:∀(w:World) (mg:Str->Option Value) (fa:Addr) (h:Heap),(K w.params).In h->h.Ns mainGlobals mg->mg d.name=some (.ref fa)->
   ∃fd:FuncData,(∀(s:Shared) (u:Value),BindsTo s fd ⟨[u],[]⟩ [("_law_script",u)])/\∀base:Heap,(K w.params).In base->base.Ns mainGlobals mg->FnOk l.prog w (K w.params) mg base CX0 k fa fd ["_law_script"] (M5 (K w.params))) :
  PySem.W.WalkO q loose XP YP l.row.toRowW d [] (λf vs=>PySem.call f vs):=
 L2.Sn (n:=63) (k:=k) (x := "_law_script") (CX:=λ_=>CX0) (sp:=λw=>M5 (K w.params)) hn (by decide) hdf (Room.mono (j:=k) (k:=60) ⟨rfl,by decide,by decide⟩ hk) hY F (λ_ _ a ns hl o hS=>⟨a,ns,rfl,Kq o hS,hl,λ_=>rfl⟩) λ_ _ _ _ _ z=>z
def Pu{α:Type}(m:Sl->M α):Prop:=∀B Z a Z',m B Z=some (a,Z')->Z'=Z
def Pu2(g:D->D->M D):Prop:=∀x y Z a Z',g x y Z=some (a,Z')->Z'=Z
theorem NN:Pu (AA i):=λB Z a Z' e=>by
 unfold AA at e;split at e
 ·cases e;rfl
 ·cases e
theorem Xk:Pu (mC d):=λB Z a Z' e=>by cases e;rfl
theorem Uk(hg:Pu2 g)(ha:Pu ma)(hb:Pu mb):Pu (mOp g ma mb):=λB Z a Z' e=>by
 obtain⟨x,w5,e1,e2⟩:=AE e;obtain⟨y,w6,e3,e4⟩:=AE e2;rw[hg _ _ _ _ _ e4,hb _ _ _ _ e3,ha _ _ _ _ e1]
theorem NM(h:Pu m):Pu (AL m):=λB Z a Z' e=>by
 obtain⟨x,w5,e1,e2⟩:=AE e;have z:=h _ _ _ _ e1;cases x with
 |bl b=>cases e2;exact z
 |_=>cases e2
theorem QJ:Pu2 (Gb n):=λx y Z a Z' e=>by
 unfold Gb at e;split at e
 ·split at e
  ·cases e;rfl
  ·cases e
 ·cases e
theorem O2(e:CP d Z=some (ds,Z')):Z'=Z:=by
 cases d with
 |lst _=>cases e;rfl
 |scr _=>cases e;rfl
 |ref n=>
  have e:(match Z[n]? with|some (.lst ds)=>some (ds,Z)|_=>none)=some (ds,Z'):=e;split at e
  ·cases e;rfl
  ·cases e
 |_=>cases e
theorem O1(e:BT d Z=some (ds,Z')):Z'=Z:=by
 cases d with
 |tup _=>cases e;rfl
 |_=>exact O2 (by unfold BT at e;exact e)
theorem Ul:Pu2 AH:=λx y Z a Z' e=>by
 unfold AH at e;split at e
 ·split at e
  ·rename_i z i hl;cases q:atI z.cps.toList i with
   |none=>rw[q] at e;cases e
   |some c=>rw[q] at e;cases e;rfl
  ·cases e
 ·obtain⟨ds,w5,e1,e2⟩:=AE e;have z:=O1 e1;unfold ixD at e2;rename_i i _;cases q:atI ds i with
  |none=>rw[q] at e2;cases e2
  |some c=>rw[q] at e2;cases e2;exact z
 ·cases e
section
variable{X:Cx}{e tg iter:Expr}
noncomputable def Yg:D->M (List D)
 | .ref n=>λZ=>match Z[n]? with
  |some (.lst ds)=>some (ds,Z)
  |_=>none
 |_=>BQ
noncomputable def NV(m:Sl->M D):Sl->M (List D):=λB=>bnd (m B) Yg
noncomputable def ItP(K:KW)(J:It)(ds:List D)(Y:Nat->Addr)(Z:Mh)(H:Hp):Prop:=∀Y' H',Ext Y Z.length H Y' Z.length H'->RelH K Y' Z H'->
 (∀i,i<ds.length->J.go i H')/\J.stop ds.length H'/\∀(i:Nat) x H2 d,ds[i]?=some d->J.yld i H' x H2->Ext Y' Z.length H' Y' Z.length H2/\RelH K Y' Z H2/\Is K Y' Z.length H2 d x
noncomputable def tIP(K:KW)(m:Sl->M (List D)):TI:=λO H R=>∃Y Z B ds Z',RelH K Y Z H/\RelS K Y Z.length H B O/\m B Z=some (ds,Z') /\
 Aft K Y Z H Z' λY' H'=>∀J,ItP K J ds Y' Z' H'->R J H'
structure RIP(X:Cx)(tg iter:Expr)(m:Sl->M (List D)):Prop where
 pe:PI X tg iter (tIP X.kw m)
theorem Vb(h:RE X e m):RIP X tg e (NV m):=⟨PI.wk (Jx h.pe) λO H Q q=>by
 obtain⟨Y,Z,B,ds,Z',R0,S,e,q⟩:=q;obtain⟨x,w5,e1,e⟩:=AE e;cases x with
 |ref n=>
  have e:(match w5[n]? with|some (.lst ds)=>some (ds,w5)|_=>none)=some (ds,Z'):=e;split at e
  ·rename_i es hn;cases e;refine⟨Y,Z,B,_,_,R0,S,e1,λx3 H1 E1 R1 v i1=>?_⟩;unfold Is at i1;obtain⟨hk,rfl⟩:=i1;obtain⟨u,hu,o⟩:=R1.obj n _ hn;obtain⟨vs,rfl,iv⟩:=o;refine⟨_,rfl,⟨vs,SqL.of hu⟩,q x3 H1 E1 R1 _ ?_⟩;intro x4 H2 E2 R2;obtain⟨u2,hu2,o2⟩:=R2.obj n _ hn;obtain⟨vs2,rfl,iv2⟩:=o2;rw[E2.agree n hk] at hu2;have hl:=iv2.length;refine⟨λj hj=>⟨vs2,vs2[j],SqL.of hu2,by simp⟩,⟨vs2,SqL.of hu2,by omega⟩,λj x H3 d hd y=>?_⟩;obtain⟨z,y⟩:=y;subst z;obtain⟨v,ev,iv3⟩:=iv2.get hd;have:=y vs2 (SqL.of hu2);rw[ev] at this;cases this;exact⟨R2.ext0,R2,iv3⟩
  ·cases e
 |_=>cases e⟩
end
end Mi
namespace Mi
open PySem L2 PyProof.Rows
section
variable{X:Cx}{e a b c:Expr}{pos:Pos}
theorem Qk:OpR X (binaryOp .Add) (λx y H Q=>∃a b ys,x=.ref a/\y=.ref b/\SqT X.kw H a []/\SqT X.kw H b ys/\Q (.ref b) H):=by
 intro w4 s O H x y v u Q I rx ry h;obtain⟨a,b,ys,rfl,rfl,ha,hb,q⟩:=h;cases rx;cases ry;obtain⟨its,r1,p1,_⟩:=I.tuple ha;obtain⟨its2,r2,p2,_⟩:=I.tuple hb;cases r1;obtain⟨⟨cls,dd,data,sl⟩,ho,hc,n,hd⟩:=p1;obtain⟨⟨cls2,dd2,data2,sl2⟩,ho2,hc2,n2,hd2⟩:=p2;simp only at hc hd hc2 hd2;subst hc hd hc2 hd2;exact concat_meets ⟨_,ho,rfl⟩ ⟨_,ho2,rfl⟩ noFill_tuple_add seq_tuple_add PySem.F.slot_tuple_add PySem.F.entry_tuple_add (PySem.F.args_tuple_add_2 _ _) (tuple_addW0 a b _ _ n n2 dd dd2 sl sl2 rfl) ⟨ho,ho2,⟨.ref b,H,I,rfl,q⟩⟩
noncomputable def Ap(a b:D):M D:=match a,b with
 | .tup [],.tup ds=>ret (.tup ds)
 |a,b=>QH a b
theorem Bk:OpR X (binaryOp .Add) (rM X.kw Ap):=λw4 s O H x y v u Q I rx ry h=>by
 obtain⟨Y,Z,a,b,d,Z',R,ia,ib,e,q⟩:=h;unfold Ap at e;split at e
 ·rename_i ds;cases e;unfold Is at ia;obtain⟨p,vs,rfl,h1,h2⟩:=ia;unfold IsL at h2;subst h2;have ib2:=ib;unfold Is at ib;obtain⟨p',vs',rfl,h1',h2'⟩:=ib;exact Qk w4 s O H _ _ v u Q I rx ry ⟨p,p',vs',rfl,rfl,h1,h1',q Y H R.ext0 R _ ib2⟩
 ·exact X6 w4 s O H x y v u Q I rx ry ⟨Y,Z,_,_,d,Z',R,ia,ib,e,q⟩
theorem Ib{prog:Program}{w:World}{A:Around}{E:Value->Shared->Prop}{s:Shared}{vl vu:Value}{lo hi:Option Int}{Q:Value->Shared->Prop}(ht:IsTup s.heap t items)(hs:s.heap.IsSliceOf sl vl vu .none)(pl:IsPart vl lo)(pu:IsPart vu hi)
  (h1:HT.sIx items.size 0 lo=0) (h2:HT.sIx items.size items.size hi=items.size) (h:Q (.ref t) s):wpAny (model prog w) A (getItem (.ref t) (.ref sl)) Q E s:=by
 obtain⟨os,hos,hcs,hds⟩:=id hs;have hTs:s.TypeIs (.ref sl) "slice" := ⟨os,hos,hcs⟩;unfold getItem
 try with_reducible refine AAp ?_
 first|refine AAA (AAB ?_)|skip
 refine AAA (wpAny_sequenceKey ht.typeIs (by decide) ?_);refine AAA (wpAny_callSpecial?_slot (name:=Str.ofString "__getitem__") ht.typeIs PyProof.Rows.slot_tuple_getitem
  (AAd PyProof.Rows.slot_tuple_getitem ht.typeIs entry_tuple_getitem ?_ (args_tuple_getitem _ _)))
 show wpAny _ _ (Builtin.Tuple.tupleItemsOf (.ref t) >>= _) _ _ s;refine AAA (tupleItemsOf_ ht ?_);refine AAA (wpAny_typeOf hTs ?_);rw[if_pos (by decide)];refine AAA (HT.Dy hs pl pu ?_);have hyes:((((HT.sIx items.size 0 lo:Nat):Int)==0&&(1:Int)==1&&(HT.sIx items.size items.size hi-HT.sIx items.size 0 lo)==items.size)=true):=by rw[h1,h2];simp
 show wpAny _ _ (if (((HT.sIx items.size 0 lo:Nat):Int)==0&&(1:Int)==1&&(HT.sIx items.size items.size hi-HT.sIx items.size 0 lo)==items.size)=true then _ else _) _ _ s;rw[if_pos hyes];refine AAA (m:=Builtin.Tuple.tupleIsExact (.ref t)) ?_;unfold Builtin.Tuple.tupleIsExact;refine AAA (wpAny_typeOf ht.typeIs (AAB ?_));rw[if_pos (by decide)];refine AAA (wpAny_rule ?_);exact AAB ⟨_,rfl,AAB h⟩
theorem S9:SlR X (λx lo hi H Q=>∃a xs,x=.ref a/\SqT X.kw H a xs/\HT.sIx xs.length 0 lo=0/\HT.sIx xs.length xs.length hi=xs.length/\Q (.ref a) H):=by
 intro w4 s O H x v vl vu lo hi sl Q I rx hs pl pu h;obtain⟨a,xs,rfl,hx,h1,h2,q⟩:=h;cases rx;obtain⟨its,r,ht,hz⟩:=I.tuple hx;have hlen:its.toArray.size=xs.length:=by rw[List.size_toArray];exact r.length.symm
 refine⟨"tuple",_,PyProof.Rows.slot_tuple_getitem.lookup,ht.typeIs,?_⟩;exact Ib ht hs pl pu (by rw[hlen];exact h1) (by rw[hlen];exact h2) ⟨.ref a,H,I,rfl,q⟩
theorem Rw{ds:List D}{lo hi:Option Int}(h1:HT.sIx ds.length 0 lo=0)(h2:HT.sIx ds.length ds.length hi=ds.length):DJ ds lo hi=ds:=by
 unfold DJ;rw[h1,h2];simp
noncomputable def NL(lo hi:Option Int):D->M D
 | .tup ds=>ret (.tup (DJ ds lo hi))
 |d=>bnd (CP d) λds=>ret (.lst (DJ ds lo hi))
noncomputable def Y4(K:KW):V->Option Int->Option Int->Hp->VK->Prop:=λx lo hi H Q=>∃Y Z a d Z',RelH K Y Z H/\Is K Y Z.length H a x/\NL lo hi a Z=some (d,Z') /\
 Aft K Y Z H Z' λY' H'=>∀v,Is K Y' Z'.length H' d v->Q v H'
theorem X0:SlR X (Y4 X.kw):=λw4 s O H x v vl vu lo hi sl Q I rx hs pl pu h=>by
 obtain⟨Y,Z,a,d,Z',R,ia,e,q⟩:=h;by_cases c:∃ds,a=.tup ds/\HT.sIx ds.length 0 lo=0/\HT.sIx ds.length ds.length hi=ds.length
 ·obtain⟨ds,rfl,h1,h2⟩:=c;have e:some (D.tup (DJ ds lo hi),Z)=some (d,Z'):=e;rw[Rw h1 h2] at e;cases e;have ia2:=ia;unfold Is at ia;obtain⟨p,vs,rfl,g1,g2⟩:=ia;exact S9 w4 s O H _ v vl vu lo hi sl Q I rx hs pl pu ⟨p,vs,rfl,g1,by rw[g2.length];exact h1,by rw[g2.length];exact h2,q Y H R.ext0 R _ ia2⟩
 ·refine Y9 w4 s O H x v vl vu lo hi sl Q I rx hs pl pu ⟨Y,Z,a,d,Z',R,ia,?_,q⟩;cases a with
  |tup ds=>
   show (if HT.sIx ds.length 0 lo=0/\HT.sIx ds.length ds.length hi=ds.length then (BQ:M D) else ret (D.tup (DJ ds lo hi))) Z=_;rw[if_neg (λz=>c ⟨ds,rfl,z.1,z.2⟩)];exact e
  |_=>exact e
noncomputable def Er(me:Sl->M D)(ml mh:Sl->M (Option Int)):Sl->M D:=λB=>bnd (me B) λx=>bnd (ml B) λl=>bnd (mh B) λh=>NL l h x
theorem Eg{e:Expr}{lo hi:Option Expr}(he:RE X e me)(hl:RO X lo ml)(hh:RO X hi mh):RE X (.Subscript e (.Slice lo hi none p2) pos) (Er me ml mh):=RE.wk (QY X0 he.pe hl.pe hh.pe) λO H Q h=>by
 obtain⟨Y,Z,B,z,Z',R,S,e,q⟩:=h;obtain⟨x,w5,e1,e⟩:=AE e;obtain⟨l,w6,e2,e⟩:=AE e;obtain⟨u,x6,e3,e⟩:=AE e;refine⟨Y,Z,B,x,w5,R,S,e1,λx3 H1 E1 R1 v i1=>⟨x3,w5,B,l,w6,R1,S.ext E1,e2,λx4 H2 E2 R2=>⟨x4,w6,B,u,x6,R2,S.ext (E1.trans E2),e3,λx9 H3 E3 R3=>?_⟩⟩⟩;have E23:=E2.trans E3;exact⟨x9,x6,x,z,Z',R3,i1.ext E23,e,λu3 H4 E4 R4=>q u3 H4 ((E1.trans E23).trans E4) R4⟩
end
end Mi
namespace Mi
open PySem L2
open PyProof.Rows hiding St
section
variable{X:Cx}{e o:Expr}{apos cpos:Pos}
noncomputable def Ft(g:D->List D->M D)(mo:Sl->M D):Sl->M D:=λB=>bnd (mo B) λx=>bnd (ES x) λ_=>g x []
theorem OG{K:KW}{g:D->List D->M D}{mo:Sl->M D}{O:St}{H:Hp}{Q:VK}(h:tE K (Ft g mo) O H Q):XT K "list" (rMM K g) (tE K mo) O H Q:=by
 obtain⟨Y,Z,B,d,Z',R,S,e,q⟩:=h;obtain⟨x,w5,e1,ee1⟩:=AE e;obtain⟨u,w6,e2,ee2⟩:=AE ee1;have hm:=GM e2;subst hm;refine⟨Y,Z,B,x,_,R,S,e1,λx3 H1 E1 R1 v1 i1=>⟨(Gg R1 i1 e2).2,?_⟩⟩;exact⟨x3,_,x,[],d,Z',R1,i1,IsL.nil,ee2,λx9 H3 E3 R3=>q x9 H3 (E1.trans E3) R3⟩
theorem OM{name:Str}{id:String}{g:D->List D->M D}{mo:Sl->M D}(slot:Slot "list" name id)(hty:typeOf (.builtin id)=pure (.type "method_descriptor"))(hm:MtR X id (rMM X.kw g))(ho:RE X o mo)
  (hbase:attributeBase o name X.env (eval o X.env)=eval o X.env:=by rfl) (hline:(apos.endLine==cpos.line)=true:=by rfl) :
  RE X (.Call (.Attribute o name apos) [] [] cpos) (Ft g mo):=RE.wk (Vz PySem.F.plainAttrs_list slot hty hm ho.pe hbase hline) λ_ _ _ h=>OG h
end
section
variable{X:Cx}{e a o:Expr}
noncomputable def ZC:List Int->Int
 |[]=>0
 |i::r=>r.foldl max i
noncomputable def Ux:List D->Option (List Int)
 |[]=>some []
 | .int i::ds=>(Ux ds).map (i::·)
 |_=>none
noncomputable def Zc:List D->M D
 |[d]=>bnd (CP d) λds=>λZ=>match Ux ds with
  |some (i::r)=>some (.int (ZC (i::r)),Z)
  |_=>none
 |_=>BQ
theorem IB:∀{ys:List V} {us:List Value} {j:Nat},Vals ys us->ys.all DH=true->ys.findIdx? (λz=>eqV z y)=some j->∃hj:j<us.length,eqU y us[j]=true/\∀m (hm:m<us.length),m<j->eqU y us[m]=false
 |_,_,j,.nil,_,e=>by simp at e
 |z::ys,u::us,j,.cons r t,f,e=>by
  rw[List.all_cons,Bool.and_eq_true] at f;rw[List.findIdx?_cons] at e;cases hz:eqV z y with
  |true=>
   rw[hz] at e;simp at e;subst e;exact⟨by simp,by show eqU y u=true;rw[KN r f.1,hz],λm hm h=>by omega⟩
  |false=>
   rw[hz] at e;cases q:ys.findIdx? (λz=>eqV z y) with
   |none=>rw[q] at e;simp at e
   |some k=>
    rw[q] at e;simp at e;subst e;obtain⟨hk,h1,h2⟩:=IB t f.2 q;refine⟨by simp;omega,by simpa using h1,λm hm h=>?_⟩;cases m with
    |zero=>show eqU y u=false;rw[KN r f.1,hz]
    |succ m=>simpa using h2 m (by simpa using hm) (by omega)
noncomputable abbrev Y5(Sq:Hp->Addr->List V->Prop):V->List V->Hp->VK->Prop:=λx xs H Q=>∃p ys y j,x=.ref p/\xs=[y]/\Sq H p ys/\DH y=true/\ys.all DH=true/\ys.findIdx? (λz=>eqV z y)=some j/\Q (.int j) H
theorem IY:MtR X "list.index" (Y5 λH p ys=>SqL X.kw H p ys):=by
 intro w4 s O H x xs v us Q I rx rs h;obtain⟨p,ys,y,j,rfl,rfl,hp,fy,fys,hj,q⟩:=h;cases rx;obtain⟨u,rfl,ru⟩:=Eb rs;obtain⟨its,rv,pl,hz⟩:=I.list hp;have hl:=rv.length;obtain⟨⟨cls,dd,data,sl⟩,ho,hc,n,hd⟩:=pl.isList;simp only at hc hd;subst hc hd;obtain⟨hj2,e1,e2⟩:=IB rv fys hj;have hn:=FZ;refine call_meets PySem.F.slot_list_index ⟨_,ho,rfl⟩ PySem.F.entry_list_index (PySem.F.args_list_index_2 _ _) (SeqAt.list_indexAt _ its.toArray n dd sl u (eqU y) j (by rw[List.size_toArray];exact hj2) (by omega) (by simpa using e1) (λm hm h=>by simpa using e2 m (by simpa using hm) h)) ⟨ho,λw hw=>DY ru fy rv fys w (by simpa using hw),?_⟩;exact⟨.int j,H,I.tok _,⟨_,rfl⟩,q⟩
noncomputable def WZ:D->List D->M D
 |d,[y]=>bnd (BT d) λds=>λZ=>match Fy y,Dc ds with
  |some y,some xs=>(xs.findIdx? λz=>eqV z y).map λ(j:Nat)=>(D.int (j:Int),Z)
  |_,_=>none
 |_,_=>BQ
theorem Oj{d r:D}{Z Z':Mh}{K:KW}{Y:Nat->Addr}(R:RelH K Y Z H)(ia:Is K Y Z.length H d x)(ib:IsL K Y Z.length H as xs)(e:WZ d as Z=some (r,Z')):
  ∃p ys y j,x=.ref p/\xs=[y]/\(SqL K H p ys∨SqT K H p ys)/\DH y=true/\ys.all DH=true/\ys.findIdx? (λz=>eqV z y)=some j/\r=.int j/\Z'=Z:=by
 unfold WZ at e;split at e
 ·rename_i y0;obtain⟨ds,w5,e1,e2⟩:=AE e;obtain⟨hm,p,vs,rfl,h1,h2⟩:=DU R ia e1;subst hm;obtain⟨v,rfl,i1⟩:=Ew ib;split at e2
  ·rename_i w ws q1 q2;obtain⟨rfl,f1⟩:=Fx i1 q1;obtain⟨rfl,f2⟩:=FF h2 q2;cases hj:vs.findIdx? (λz=>eqV z v) with
   |none=>rw[hj] at e2;cases e2
   |some j=>rw[hj] at e2;cases e2;exact⟨p,vs,v,j,rfl,rfl,h1,f1,f2,hj,rfl,rfl⟩
  ·cases e2
 ·cases e
noncomputable def Hw(d:D)(as:List D):M D:=bnd (ES d) λ_=>WZ d as
theorem Qz:MtR X "list.index" (rMM X.kw Hw):=λw4 s O H x xs v us Q I rx rs h=>by
 obtain⟨Y,Z,a,as,d,Z',R,ia,ib,e,q⟩:=h;obtain⟨u,w5,e1,e2⟩:=AE e;have hm:=GM e1;subst hm;obtain⟨ds,w6,g1,g2⟩:=AE e1;obtain⟨_,p0,vs0,hx,hq,_⟩:=DC R ia g1;obtain⟨p,ys,y,j,rfl,rfl,h1,f1,f2,hj,rfl,rfl⟩:=Oj R ia ib e2;cases hx;have hs:SqL X.kw H p0 ys:=by
  rcases h1 with z|z
  ·exact z
  ·obtain⟨its,_,pl,_⟩:=I.list hq;obtain⟨its2,_,pt,_⟩:=I.tuple z;obtain⟨o,e1,c1,_⟩:=pl.isList;obtain⟨o2,e2,c2,_⟩:=pt;rw[e1] at e2;cases e2;rw[c1] at c2;exact absurd c2 (by decide)
 exact IY w4 s O H _ _ v us Q I rx rs ⟨p0,ys,y,j,rfl,rfl,hs,f1,f2,hj,q Y H R.ext0 R _ (ofI _)⟩
end
end Mi
namespace Mi
open PySem L2
theorem Uj{a b:Sl->M Bool}(ha:Pu a)(hb:Pu b):Pu (mOr a b):=λB Z r Z' e=>by
 obtain⟨x,w5,e1,e2⟩:=AE e;have z:=ha _ _ _ _ e1;split at e2
 ·cases e2;exact z
 ·rw[hb _ _ _ _ e2,z]
end Mi
local macro_rules | `(tactic| wtm_at "n")=>`(tactic| repeat first|exact Mi.NN|exact Mi.Xk|exact Mi.pu_true|exact Mi.Ul|exact Mi.QJ|exact Mi.pu_nil|exact Mi.pu_inst|exact Mi.pu_len|apply Mi.NM|apply Mi.Uk|apply Mi.pu_cons|apply Mi.pu_disp|apply Mi.Uj|apply Mi.pu_and|apply Mi.pu_not)
namespace Ht
open PySem PySem.SetTable
end Ht
namespace Ht
open PySem PySem.SetTable
open PyProof.Rows
end Ht
namespace Ht
open PySem PySem.Spec PyProof.Rows Sem L2
end Ht
namespace Ht
open PySem PySem.Spec PyProof.Rows Sem L2 PySem.SetTable
section
variable{prog:Program}{w:World}{A:Around}{E:Value->Shared->Prop}{s:Shared}
theorem MD{α:Type}{Q:α->Shared->Prop}(hh:A.handled=none)(h:∀a h',(∀b o,s.heap.get? b=some o->h'.get? b=some o)->Shared.TypeIs { s with heap:=h' } (.ref a) "StopIteration" -> E (.ref a) { s with heap:=h' }):
  wpAny (model prog w) A (newExc (.type "StopIteration") [] >>= λe=>(raiseNew e:Sem α)) Q E s:=by
 unfold newExc newTuple;refine AAA (AAA (AAq ?_ (by size_fits)));refine AAA (m:=firstArgMember _ _) (wpAny_of_eq (a:=Value.none) (by kernel_rfl) ?_);refine AAq ?_ (by size_fits);unfold raiseNew;refine AAA (wpAny_handled ?_);rw[hh];refine AAA (AAB (wpAny_throw (h _ _ (λb o e=>AAC _ (AAC _ e)) ⟨_,AAD _ rfl,rfl⟩)))
end
end Ht
namespace Ht
end Ht
namespace L2
open PySem PySem.Spec PyProof.Rows Sem Ht
end L2
namespace Mi
open PySem L2 Ht
theorem LO{K:KW}{Y:Nat->Addr}{k:Nat}{H:Hp}:∀ns:List Int,IsL K Y k H (ns.map D.int) (ns.map V.int)
 |[]=>IsL.nil
 |n::r=>by
  rw[AAW,AAW];unfold IsL;exact⟨_,_,rfl,ofI _,LO r⟩
end Mi
namespace L2
open PySem PySem.Spec PyProof.Rows Sem Ht
section
theorem Pr{n:Nat}:Builtin.Range.rangeSize 0 n 1=(n:Int):=by rw[rangeSize_one];split<;>omega
theorem OI{n:Nat}(h:n<=1000):Builtin.Range.small 0 n 1=true:=small_one (by omega) (by omega) (by omega) (by omega)
end
section
variable{X:Cx}
theorem Oy:CU X (.type "range") (λxs H Q=>∃n:Nat,xs=[.int n]/\∀p,H p=none->Q (.ref p) (upd H p (.rng 0 n))):=by
 intro w4 s O H xs us Q I r h;obtain⟨n,rfl,q⟩:=h;obtain⟨u,rfl,t,rfl⟩:=Vals.one r;refine call_range_1 ⟨.ref s.heap.objs.size,_,I.laid (o:=.rng 0 n) (λb o e=>AAC _ e) (AAE _) ⟨_,_,_,AAD _ rfl⟩,rfl,q _ (I.hok.fresh (AAE _))⟩
noncomputable abbrev NR(n:Nat):List V:=((List.range n).map Int.ofNat).map V.int
theorem OZ(n:Nat):(NR n).length=n:=by simp
theorem KQ(hc:X.calm=true):CU X (.type "list") (λxs H Q=>∃p n,xs=[.ref p]/\H p=some (.rng 0 (n:Nat))/\n<=1000/\∀l,H l=none->Q (.ref l) (upd H l (.lst (NR n)))):=by
 intro w4 s O H xs us Q I r h;obtain⟨p,n,rfl,hp,hn,q⟩:=h;obtain⟨u,rfl,ru⟩:=Vals.one r;cases ru;obtain⟨t,u,v,e⟩:=I.hok p _ hp;refine call_list_range (I.ok.hd hc) e (OI hn) Pr (by omega) λh' tk acc c k e it=>?_;have im:=intsAre_map acc.toList λv hv=>by
  obtain⟨i,hi,rfl⟩:=List.getElem_of_mem hv;obtain⟨t,e⟩:=it.2 i _ (Array.getElem?_eq_getElem (by simpa using hi));exact⟨_,t,by simpa using e⟩
 have en:acc.toList.map numOf=(List.range n).map Int.ofNat:=by
  refine List.ext_getElem? λi=>?_;rw[AAV,AAV];by_cases hi:i<n
  ·have hi':i<acc.size:=by rw[it.1];exact hi
   obtain⟨t,e⟩:=it.2 i _ (Array.getElem?_eq_getElem hi');rw[Array.getElem?_toList,Array.getElem?_eq_getElem hi',e,List.getElem?_range hi];simp[numOf]
  ·rw[List.getElem?_eq_none (by rw[Array.length_toList,it.1];omega),List.getElem?_eq_none (by simp;omega)];rfl
 rw[en] at im;exact⟨.ref s.heap.objs.size,_,I.laid (t':=tk) (o:=.lst (NR n)) k (AAE _) ⟨by rw[OZ,sizeLine_eq];omega,acc.toList,c,GB im,e⟩,rfl,q _ (I.hok.fresh (AAE _))⟩
end
end L2
namespace Mi
open PySem L2 Ht
noncomputable def NS(n:Nat):List D:=((List.range n).map Int.ofNat).map D.int
noncomputable def ND(how:List D->D)(d:D):M D:=match d with
 | .int j=>λZ=>if 0<=j/\j<=1000 then some (how (NS j.toNat),Z) else none
 |_=>BQ
section
variable{X:Cx}{e:Expr}{pos p p2 pos2:Pos}
theorem TH{T:String}{f:List D->D}{how:List V->HO}{m:Sl->M D}(call:X.calm=true->CU X (.type T) (λxs H Q=>∃p n,xs=[.ref p]/\H p=some (.rng 0 (n:Nat))/\n<=1000/\∀l,H l=none->Q (.ref l) (upd H l (how (NR n)))))
  (fin:∀{Y:Nat->Addr} {Z:Mh} {H:Hp} {Q:VK} {ds:List D} {vs:List V},RelH X.kw Y Z H->IsL X.kw Y Z.length H ds vs->(Aft X.kw Y Z H Z λY' H'=>∀v,Is X.kw Y' Z.length H' (f ds) v->Q v H')->∀l,H l=none->Q (.ref l) (upd H l (how vs)))
  (yl:X.mg T=none) (ys:X.mg "range" = none) (bt:bootBuiltins T=some (.type T)) (he:RE X e m) (hc:X.calm=true:=by rfl) (hgl:Gl X T:=by rfl) (hgs:Gl X "range" := by rfl) (hst:Hq e=false:=by rfl) (n1:(T:Str) ≠ "__name__" := by decide) (n2:((T:Str)==("__debug__" : Str))=false:=by decide) :
  RE X (.Call (.Name T p) [.Call (.Name "range" p2) [e] [] pos2] [] pos) (mUn (ND f) m):=by
 have hs:PE X (.Call (.Name "range" p2) [e] [] pos2) _:=GF Oy hgs ys PyProof.Rows.boot_range (Jy he.pe MF (BY hst)) (by decide) (by decide) (BY hst) rfl;refine RE.wk (GF (call hc) hgl yl bt (Jy hs MF (BY rfl)) n1 n2 (BY rfl) rfl) λO H Q h=>?_;obtain⟨Y,Z,B,d,Z',R,S,ev,q⟩:=h;obtain⟨x,w5,e1,e2⟩:=AE ev;refine⟨Y,Z,B,x,w5,R,S,e1,λx3 H1 E1 R1 v1 i1=>?_⟩;cases x with
 |int j=>
  have e3:(if 0<=j/\j<=1000 then some (f (NS j.toNat),w5) else none)=some (d,Z'):=e2;split at e3
  ·rename_i hj;cases e3;have z:=CA i1;subst z;have ej:j=((j.toNat:Nat):Int):=by omega
   refine⟨j.toNat,by rw[←ej],λp hp=>?_⟩;obtain⟨E2,R2⟩:=R1.laid (.rng 0 (j.toNat:Nat)) hp;exact⟨p,j.toNat,rfl,Bw,by omega,λl hl=>fin R2 (LO _) (λY' H' E' R'=>q Y' H' ((E1.trans E2).trans E') R') l hl⟩
  ·cases e3
 |_=>cases e2
theorem MC(yl:X.mg "list" = none)(ys:X.mg "range" = none)(he:RE X e m)(hc:X.calm=true:=by rfl)(hgl:Gl X "list" := by rfl)(hgs:Gl X "range" := by rfl)(hst:Hq e=false:=by rfl):
  RE X (.Call (.Name "list" p) [.Call (.Name "range" p2) [e] [] pos2] [] pos) (mUn (ND D.lst) m):=TH (T := "list") (how:=HO.lst) KQ Na yl ys Mi.FI he hc hgl hgs hst
noncomputable def J8:List D->M D
 |[d]=>bnd (BT d) λds=>ret (.lst ds)
 |_=>BQ
theorem UL:CU X (.type "list") (rMA X.kw J8):=λw4 s O H xs us Q I r h=>by
 obtain⟨Y,Z,as,d,Z',R,ia,e,q⟩:=h;unfold J8 at e;split at e
 ·rename_i y;obtain⟨ds,w5,e1,e2⟩:=AE e;obtain⟨v,rfl,i1⟩:=Ew ia;obtain⟨hm,p,vs,rfl,h1,h2⟩:=DU R i1 e1;subst hm;cases e2;exact KP w4 s O H _ us Q I r ⟨p,vs,rfl,h1,Na R h2 q⟩
 ·cases e
noncomputable def D5(l:List (Key×D))(k:Key):List (Key×D):=l.filter λkv=>decide (kv.1≠k)
theorem KVs.drop:∀{l:List (Key×D)} {r:List (Key×V)} (y:Key),KVs K Y k H l r->KVs K Y k H (D5 l y) (Gi r y)
 |[],_,y,h=>by cases h;rfl
 |(z,d)::l,_,y,h=>by
  obtain⟨v,r',rfl,h1,h2⟩:=h;have ih:=KVs.drop y h2;unfold D5 Gi at ih ⊢;by_cases hz:z=y
  ·rw[List.filter_cons_of_neg (by simp[hz]),List.filter_cons_of_neg (by simp[hz])];exact ih
  ·rw[List.filter_cons_of_pos (by simp[hz]),List.filter_cons_of_pos (by simp[hz])];exact⟨v,_,rfl,h1,ih⟩
noncomputable def U2(d y:D):M D:=bnd (EV d) λr=>λZ=>(KC y).bind λk=>(Ch r.2 k).map λv=>(v,Z.set r.1 (.dK (D5 r.2 k)))
noncomputable def Iz(mo mi:Sl->M D):Sl->M D:=λB=>bnd (mo B) λx=>bnd (KJ x) λ_=>bnd (mi B) λy=>U2 x y
theorem TK(ho:RE X o mo)(hi:RE X e mi)(m:M1 X o "pop" apos e cpos:=by exact⟨rfl,rfl,rfl,rfl⟩):RE X (.Call (.Attribute o "pop" apos) [e] [] cpos) (Iz mo mi):=RE.wk (Qb ho.pe hi.pe m) λO H Q h=>by
 obtain⟨Y,Z,B,d,Z',R,S,e,q⟩:=h;obtain⟨x,w5,e1,ee1⟩:=AE e;obtain⟨u,y9,e4,ee2⟩:=AE ee1;obtain⟨y,w6,e2,ee3⟩:=AE ee2;obtain⟨r,x6,e3,ee4⟩:=AE ee3;obtain⟨hm,r0,e5⟩:=On e4;subst hm;refine⟨Y,Z,B,x,_,R,S,e1,λx3 H1 E1 R1 v1 i1=>?_⟩;obtain⟨_,_,_,rfl,kvs0,g0,_⟩:=DK R1 i1 e5;refine⟨_,rfl,.inl ⟨kvs0,.inl g0⟩,x3,_,B,y,w6,R1,S.ext E1,e2,λx4 H2 E2 R2 v2 i2=>?_⟩;obtain⟨hm,hx,g1,hv,kvs,g2,g3⟩:=DK R2 (i1.ext E2) e3;subst hm;cases hk:KC y with
 |none=>rw[hk] at ee4;cases ee4
 |some ky=>
  rw[hk] at ee4;cases G7 i2 hk;have hv':x3 r0.1=x4 r.1:=V.ref.inj hv;rw[hv'];rcases g3.val ky with ⟨z1,z2⟩|⟨dd,vv,z1,z2,z3⟩
  ·have ee5:(Ch r.2 ky).map (λv=>(v,x6.set r.1 (MO.dK (D5 r.2 ky))))=some (d,Z'):=ee4;rw[z1] at ee5;cases ee5
  ·have ee5:(Ch r.2 ky).map (λv=>(v,x6.set r.1 (MO.dK (D5 r.2 ky))))=some (d,Z'):=ee4;rw[z1] at ee5;cases ee5;have hlt:r.1<List.length x6:=(AAT.mp g1).1;obtain⟨E4,R4⟩:=R2.changed (m:=.dK (D5 r.2 ky)) (o:=.dK (Gi kvs ky)) hlt ⟨_,rfl,g3.drop ky⟩;exact⟨kvs,ky,vv,g2,rfl,z2,q x4 _ ((E1.trans E2).trans E4) R4 vv (z3.ext E4)⟩
theorem Hh:MtR X "list.remove" (λx xs H Q=>∃p ys y j,x=.ref p/\xs=[y]/\H p=some (.lst ys)/\DH y=true/\ys.all DH=true/\ys.findIdx? (λz=>eqV z y)=some j/\Q .non (upd H p (.lst (ys.eraseIdx j)))):=by
 intro w4 s O H x xs v us Q I rx rs h;obtain⟨p,ys,y,j,rfl,rfl,hp,fy,fys,hj,q⟩:=h;cases rx;obtain⟨u,rfl,ru⟩:=Eb rs;obtain⟨z,its,n,r,hl,e⟩:=I.lstM hp;obtain⟨hj2,e1,e2⟩:=IB r fys hj;refine call_meets PySem.F.slot_list_remove ⟨_,e,rfl⟩ PySem.F.entry_list_remove (PySem.F.args_list_remove_2 _ _) (MeetsSeq.list_remove p its.toArray n u (eqU y) (λw hw prog w' A E s Q hq=>DY (A:=A) (s:=s) ru fy r fys w (by simpa using hw) prog w' E Q hq) j (by rw[List.size_toArray];exact hj2) (by simpa using e1) (λm hm h=>by simpa using e2 m (by simpa using hm) h) (by rw[List.size_toArray];omega)) ⟨e,?_⟩;refine⟨.non,_,I.lset (its':=its.eraseIdx j) (ys:=ys.eraseIdx j) hp e ?_ (r.eraseIdx j) ?_,rfl,q⟩
 ·show its.toArray.eraseIdxIfInBounds j=(its.eraseIdx j).toArray;rw[List.eraseIdxIfInBounds_toArray]
 ·have:=JA ys j;omega
theorem IsL.erase:∀{ds:List D} {vs:List V} (j:Nat),IsL K Y k H ds vs->IsL K Y k H (ds.eraseIdx j) (vs.eraseIdx j)
 |[],_,j,h=>by unfold IsL at h;subst h;simpa using IsL.nil
 |d::ds,_,j,h=>by
  unfold IsL at h;obtain⟨v,vs',rfl,h1,h2⟩:=h;cases j with
  |zero=>exact h2
  |succ j=>
   rw[List.eraseIdx_cons_succ,List.eraseIdx_cons_succ];unfold IsL;exact⟨v,_,rfl,h1,IsL.erase j h2⟩
noncomputable def MA:D->List D->M D
 | .ref n,[y]=>HH n λds=>match Fy y,Dc ds with
  |some y,some xs=>(xs.findIdx? λz=>eqV z y).map λj=>(.non,ds.eraseIdx j)
  |_,_=>none
 |_,_=>BQ
theorem Qy:MtR X "list.remove" (rMM X.kw MA):=λw4 s O H x xs v us Q I rx rs h=>by
 obtain⟨Y,Z,a,as,d,Z',R,ia,ib,e,q⟩:=h;unfold MA at e;split at e
 ·rename_i n y;obtain⟨ds,es,h1,h2,rfl⟩:=GD e;obtain⟨w,rfl,iw⟩:=Ew ib;unfold Is at ia;obtain⟨_,rfl⟩:=ia;obtain⟨u,g1,vs,rfl,g2⟩:=R.obj n _ h1;split at h2
  ·rename_i y' xs' q1 q2;obtain⟨rfl,f1⟩:=Fx iw q1;obtain⟨rfl,f2⟩:=FF g2 q2;cases hj:vs.findIdx? (λz=>eqV z w) with
   |none=>rw[hj] at h2;cases h2
   |some j=>
    rw[hj] at h2;cases h2;exact Hh w4 s O H _ _ v us Q I rx rs ⟨_,vs,w,j,rfl,rfl,g1,f1,f2,hj,Jc R h1 (g2.erase j) ofN q⟩
  ·cases h2
 ·cases e
end
end Mi
namespace L2
open PySem PySem.Spec PyProof.Rows Sem Ht
theorem Sz:fillsNumberSlot (.type "tuple") "mul" = Pure.pure false:=PySem.fillsNumberSlot_seq (id := "tuple.__mul__") (r:=some (.builtin "tuple.__rmul__")) PySem.F.slot_tuple_mul.lookup (by decide +kernel) PySem.F.slot_tuple_rmul.lookup (by decide +kernel)
theorem VN:seqRepeat? (.type "tuple")=Pure.pure (some (.builtin "tuple.__mul__")):=by
 unfold seqRepeat?;rw[PySem.seqSlot_of (T := "tuple") (name := "__mul__") PySem.F.slot_tuple_mul.lookup (by decide +kernel),PySem.seqSlot_of (T := "tuple") (name := "__rmul__") PySem.F.slot_tuple_rmul.lookup (by decide +kernel)];rfl
section
variable{w:World}{A:Around}{s:Shared}
theorem VP(a:Int)(t:Tok)(l:Addr)(items:Array Value):Meets (Builtin.«int.__rmul__» ⟨[.int a t,.ref l],[]⟩) (λ_ R s=>IsTup s.heap l items/\R (.ok (.ret Value.notImplemented)) s):=
 .of_wp λprog w A R s h=>by
  obtain⟨⟨o,ho,hc,n,hd⟩,h⟩:=h;have hT:s.TypeIs (.ref l) "tuple" := ⟨o,ho,hc⟩;have z:=PySem.F.sub_tuple_int
  wp_walk
  rw[hd]
  wp_walk
  exact⟨_,rfl,h⟩
theorem VO(l:Addr)(items:Array Value)(k:Int)(t:Tok)(h0:items.isEmpty=false)(h1:1<=k)(h2:k<=1000)(h3:items.size<=1000):
  Meets (Builtin.«tuple.__mul__» ⟨[.ref l,.int k t],[]⟩) (λ_ R s=>IsTup s.heap l items/\(k=1->R (.ok (.ret (.ref l))) s)/\(k≠1->R (.ok (.ret (.ref s.heap.objs.size))) { s with heap:=s.heap.push { cls:=.type "tuple",data:=.seq ((List.replicate k.toNat items).foldl (·++·) #[]) } })):=
 .of_wp λprog w A R s h=>by
  obtain⟨⟨o,ho,hc,n,hd⟩,q1,q2⟩:=h;have hT:s.TypeIs (.ref l) "tuple" := ⟨o,ho,hc⟩;have b1:(items.size:Int) * k<=1000000:=by
   have:=Int.mul_le_mul (show (items.size:Int)<=1000 by omega) h2 (by omega) (by omega);omega
  have c1:(decide (k < -2 ^ 63)||decide (k ≥ 2 ^ 63))=false:=by simp;omega
  have c3:(decide (k<=0)||items.isEmpty)=false:=by rw[h0];simp;omega
  have c5:Builtin.Tuple.tupleTooMany ((items.size:Int) * k)=false:=by
   unfold Builtin.Tuple.tupleTooMany;simp[sizeLine_eq];omega
  unfold Builtin.«tuple.__mul__»
  wp_walk
  rw[c1,if_neg AAh];refine AAA ?_;unfold Builtin.Tuple.tupleItemsOf;refine AAA (wpAny_seqItems ho hd (AAB ?_));rw[h0];by_cases hk:k=1
  ·have c2:(false||k==1)=true:=by simp[hk]
   rw[c2];simp only[↓reduceIte]
   wp_walk
   exact⟨_,rfl,q1 hk⟩
  ·have c2:(false||k==1)=false:=by simp[hk]
   rw[c2];simp only[Bool.false_eq_true,↓reduceIte];rw[Bool.or_false,AAN (show ¬k<=0 by omega)];simp only[Bool.false_eq_true,↓reduceIte];rw[if_neg (show ¬(items.size:Int) * k > (2 ^ 63-1) / 8 by omega),c5];simp only[Bool.false_eq_true,↓reduceIte];unfold Builtin.Tuple.tupleExact;refine AAA (AAq (AAB ⟨_,rfl,q2 hk⟩) ?_);show ((List.replicate k.toNat items).foldl (·++·) #[]).size<=sizeLine;have sz:∀(m:Nat) (z:Array Value),((List.replicate m items).foldl (·++·) z).size=z.size+m * items.size:=by
    intro m
    induction m with
    |zero=>intro z;simp
    |succ m ih=>intro z;rw[AAl,List.foldl_cons,ih,Array.size_append,Nat.succ_mul];omega
   rw[sz,sizeLine_eq];have:((k.toNat * items.size:Nat):Int)=(items.size:Int) * k:=by
    rw[Int.natCast_mul,Int.toNat_of_nonneg (by omega),Int.mul_comm]
   simp;omega
end
theorem Hz(its:List Value):∀(m:Nat) (z:List Value),(List.replicate m its.toArray).foldl (·++·) z.toArray=(z++(List.replicate m its).flatten).toArray
 |0,z=>by simp
 |m+1,z=>by
  rw[AAl,List.foldl_cons,List.append_toArray,Hz its m,AAl,List.flatten_cons,AAm]
theorem Vals.reps(r:Vals vs us):∀m:Nat,Vals (List.replicate m vs).flatten (List.replicate m us).flatten
 |0=>.nil
 |m+1=>by
  rw[AAl,List.flatten_cons,AAl,List.flatten_cons];exact r.append (Vals.reps r m)
section
variable{X:Cx}
theorem To:OpR X (binaryOp .Mult) (λx y H Q=>∃l k xs,x=.ref l/\y=.int k/\SqT X.kw H l xs/\xs≠[]/\xs.length<=1000/\1<=k/\k<=1000/\(k=1->Q (.ref l) H)/\(k≠1->∀p,H p=none->Q (.ref p) (upd H p (.tup (List.replicate k.toNat xs).flatten)))):=by
 intro w4 s O H x y v u Q I rx ry h;obtain⟨l,k,xs,rfl,rfl,ha,hx,hz,k1,k2,q1,q2⟩:=h;cases rx;obtain⟨t,rfl⟩:=ry;obtain⟨its,r,p,_⟩:=I.tuple ha;have hlen:=r.length;have hT:s.TypeIs (.ref l) "tuple" := by obtain⟨o,e,c,_⟩:=p;exact⟨o,e,c⟩
 have he:its.toArray.isEmpty=false:=by
  cases its with
  |nil=>exact absurd (List.length_eq_zero_iff.mp (by simpa using hlen)) hx
  |cons a b=>rfl
 refine wpAny_binaryOp_repeat_ref (T := "tuple") (U := "int") (by decide) hT (λs'=>typeIs_int s' k t) Sz PySem.F.fills_int_mul PySem.F.slot_int_rmul VN PySem.F.slot_int_index.lookup ?_;refine call_meets PySem.F.slot_int_rmul (typeIs_int s k t) PySem.F.entry_int_rmul (PySem.F.args_int_rmul_2 _ _) (VP k t l its.toArray) ⟨p,rfl,hT,?_⟩;refine call_meets PySem.F.slot_tuple_mul hT PySem.F.entry_tuple_mul (PySem.F.args_tuple_mul_2 _ _) (VO l its.toArray k t he k1 k2 (by rw[List.size_toArray];omega)) ⟨p,λz=>⟨.ref l,H,I,rfl,q1 z⟩,λz=>?_⟩;have ef:=Hz its k.toNat [];rw[List.nil_append] at ef;rw[ef];refine⟨.ref s.heap.objs.size,_,I.laid (t':=s.toks) (o:=.tup (List.replicate k.toNat xs).flatten) (λb ob q=>AAC _ q) (AAE _) ⟨?_,_,r.reps _,IsTup.new _ _⟩,rfl,q2 z _ (I.hok.fresh (AAE _))⟩;rw[NX,sizeLine_eq];have:k.toNat * xs.length<=1000 * 1000:=Nat.mul_le_mul (by omega) hz;omega
end
end L2
namespace Mi
open PySem L2 Ht
noncomputable def GE(a b:D):M D:=match a,b with
 | .tup ds,.int k=>λZ=>if ds≠[]/\ds.length<=1000/\1<=k/\k<=1000 then some (.tup (List.replicate k.toNat ds).flatten,Z) else none
 |a,b=>Ga a b
section
variable{X:Cx}
theorem Qo:OpR X (binaryOp .Mult) (rM X.kw GE):=λw4 s O H x y v u Q I rx ry h=>by
 obtain⟨Y,Z,a,b,d,Z',R,ia,ib,e,q⟩:=h;unfold GE at e;split at e
 ·rename_i ds k;split at e
  ·rename_i hc;obtain⟨c1,c2,c3,c4⟩:=hc;cases e;have zb:=CA ib;subst zb;unfold Is at ia;obtain⟨p,vs,rfl,h1,h2⟩:=ia;have hl:=h2.length;refine To w4 s O H _ _ v u Q I rx ry ⟨p,k,vs,rfl,rfl,h1,λz=>c1 (List.length_eq_zero_iff.mp (by rw[←hl,z];rfl)),by omega,c3,c4,λz=>?_,λz=>?_⟩
   ·subst z;refine q Y H R.ext0 R _ ?_;unfold Is;exact⟨p,vs,rfl,h1,by simpa using h2⟩
   ·exact Q6 R (h2.rep _) q
  ·cases e
 ·exact LC w4 s O H _ _ v u Q I rx ry ⟨Y,Z,a,b,d,Z',R,ia,ib,e,q⟩
end
noncomputable def Ju:D->D->M D
 | .int i,.int j=>ret (.int (i+j))
 |_,_=>BQ
section
variable{X:Cx}{e:Expr}{pos pos':Pos}
theorem Va(i:Nat){x:Str}{m:Sl->M D}(hN:X.N.Nodup)(he:RE X e m)(hi:X.N[i]?=some x:=by rfl)(hx:Loc X.env.scope x:=by first|exact Or.inl rfl|exact Or.inr rfl)(hf:X.fn x=true∨X.env.scope.names.lookup x=some .local:=by first|exact .inl rfl|exact .inr rfl|assumption):
  RS X (.AugAssign (.Name x pos') .Add e pos) (Ab (mOp Ju (AA i) m) (AO i)):=RS.wk (Vm hN hi hx he.pe WY hf) λDn O H h=>by
 obtain⟨Y,Z,B,f,x8,Z',R,S,ev,q⟩:=h;obtain⟨d,w5,e1,ev⟩:=AE ev;obtain⟨w9,w6,e2,ev⟩:=AE ev;cases ev;cases e2;obtain⟨a,x6,e3,ev⟩:=AE e1;obtain⟨b,y9,e4,e5⟩:=AE ev;unfold AA at e3;split at e3
 ·rename_i d' ed;cases e3;obtain⟨v,s1,h1⟩:=S.get i _ ed;refine⟨v,s1,Y,Z,B,b,y9,R,S,e4,λx3 H1 E1 R1 v1 i1=>?_⟩;cases a with
  |int k=>
   cases b with
   |int j=>
    cases e5;have z1:=CA h1;have z2:=CA i1;subst z1 z2;exact⟨k,j,rfl,rfl,q x3 H1 E1 R1 _ ((S.ext E1).set i (ofI _))⟩
   |_=>cases e5
  |_=>cases e5
 ·cases e3
end
end Mi
namespace K13
open PySem L2 Mi
noncomputable def Bd:D:=.int (-1)
noncomputable def BG:D:=.int (-1)
noncomputable def BI  : Sl->M (Fl×Sl):=
  (AU (Ab (mOp Do (AG BX (AC (mOp AH (AA 0) (mC (.int 4))) AK)) (mC (.int 1))) (AO 1))
  (AU (sIf (AL (mOp AW (mOp AH (AA 0) (mC (.int 0))) (mC (.str "whole")))) (A5 (AG A1 (AC (AG A1 (AC (mOp AH (AA 0) (mC (.int 2))) (AC (mC Bd) (AC (mOp GE (AG A1 (AC (mC Bd) AK)) (AA 1)) AK)))) AK))) Au)
  (A5 (AG A1 (AC (mOp AH (AA 0) (mC (.int 2))) (AC (mC Bd) (AC (mOp GE (AG A1 (AC (mC .non) AK)) (AA 1)) AK)))))))
noncomputable def BM  : Sl->M (Fl×Sl):=
  (A5 (mOp Ap (mOp Ap (Er (AA 0) C6 (C0 (AA 1))) (AG A1 (AC (AA 2) AK))) (Er (AA 0) (C0 (mOp Ap (AA 1) (mC (.int 1)))) C6)))
noncomputable def Bm  : Sl->M (Fl×Sl):=
  (A5 (Et (AG D2 (AC (AA 0) (AC (mC (.ty "int")) AK))) (Et (LK (AG D2 (AC (AA 0) (AC (mC (.ty "bool")) AK)))) (Es IW IW (AA 1) (AA 0) (AA 2)))))
noncomputable def Bn  : Sl->M (Fl×Sl):=
  (A5 (Et (AG D2 (AC (AA 0) (AC (mC (.ty "tuple")) AK))) (Es IW IW (AA 1) (AG BX (AC (AA 0) AK)) (AA 2))))
noncomputable def CK(ST:List D->M D):Sl->M (Fl×Sl):=
  (AU (sIf (Gq (AL (AG D2 (AC (AA 1) (AC (mC (.ty "list")) AK))))) DW Au)
  (AU (Ab (B2 1 [] (Cy (mOp AH (AA 0) (mC (.int 4)))) (AO 0) Dq (mOp AH (AA 0) (mC (.int 0))) B9) (AO 2))
  (AU (Ab Tw (AO 3))
  (AU (Ab (AG Dz AK) (AO 4))
  (AU (Ab (mC (.int 0)) (AO 5))
  (AU (FL (NW (AC (AA 1) AK)) (Gs [6,7]) (AU (sIf (Gq (AL (AG ST (AC (AA 7) (AC (AA 2) (AC (mOp AH (AA 0) (mC (.int 1))) AK)))))) DW Au)
  (AU (Ab (Ak Hw (AA 2) (AC (mOp AH (AA 7) (mC (.int 1))) AK)) (AO 8))
  (AU (sIf (AL (mOp AW (mOp AW (mOp AH (AA 7) (mC (.int 0))) (mC (.str "begin"))) (mOp (LY false) (AA 8) (AA 3)))) DW Au)
  (AU (sIf (AL (mOp AW (mOp AH (AA 7) (mC (.int 0))) (mC (.str "begin")))) (AU (FQ (AA 3) (AA 8) (AA 5))
  (Ab (mOp Ju (AA 5) (mC (.int 1))) (AO 5))) Au)
  (AU (BD (Ak CT (AA 4) (AC (AG A1 (AC (mOp AH (AA 7) (mC (.int 0))) (AC (AA 8) (AC (mIf (AL (mOp AW (AG BX (AC (AA 7) AK)) (mC (.int 3)))) (mOp AH (AA 7) (mC (.int 2))) (mC BG)) (AC (mOp D7 (AA 3) (AA 8)) AK))))) AK)))
  (sIf (AL (mOp AW (mOp AH (AA 7) (mC (.int 0))) (mC (.str "end")))) (BD (Iz (AA 3) (AA 8))) Au)))))))
  (A5 (AA 4))))))))
noncomputable def Bo(Ze:List D->M D)(Zf:List D->M D):Sl->M (Fl×Sl):=
  (AU (sIf (mOr (Gq (AL (AG Ze (AC (AA 0) (AC (mC (.int 2)) (AC (mC (.int 3)) AK)))))) (mOr (AL (mOp (EN true) (mOp AH (AA 0) (mC (.int 0))) (AG A1 (AC (mC (.str "begin")) (AC (mC (.str "end")) AK))))) (AL (mOp (EN true) (mOp AH (AA 0) (mC (.int 1))) (AA 1))))) (A5 (mC (.bl false))) Au)
  (AU (sIf (AL (mOp AW (mOp AW (mOp AH (AA 0) (mC (.int 0))) (mC (.str "begin"))) (mOp AW (mOp AH (AA 0) (mC (.int 1))) (mOp AH (AA 1) (mC (.int 0)))))) (A5 (Et (mOp AW (AG BX (AC (AA 0) AK)) (mC (.int 3))) (AG Zf (AC (mOp AH (AA 0) (mC (.int 2))) (AC (mC (.int 0)) (AC (mOp Do (AA 2) (mC (.int 1))) AK)))))) Au)
  (A5 (mOp AW (AG BX (AC (AA 0) AK)) (mC (.int 2))))))
noncomputable def Cd  : Sl->M (Fl×Sl):=
  (AU (sIf (AL (mOp Jt (AA 1) (AG BX (AC (AA 0) AK)))) (A5 (mOp AH (AA 0) (AA 1))) Au)
  (A5 (mC (.int 0))))
noncomputable def C9  : Sl->M (Fl×Sl):=
  (AU (Ab (AG Dz AK) (AO 2))
  (AU (Ab (mOp BW (AA 0) (mC (.int 2))) (AO 3))
  (AU (Jp Fa (CO (AL (mOp AW (mOp Bi (AA 0) (mC (.int 2))) (mC (.int 0)))) (CO (AL (mOp OP (AA 3) (mC (.int 0)))) (AL (mOp Jt (AG BX (AC (AA 2) AK)) (AA 1))))) (AU (BD (Ak CT (AA 2) (AC (mOp Bi (AA 3) (mOp Iw (mC (.int 10)) (mC (.int 9)))) AK)))
  (Ab (mOp BW (AA 3) (mOp Iw (mC (.int 10)) (mC (.int 9)))) (AO 3))))
  (AU (Ab (mOp Bi (mOp Ga (mOp Ap (mOp BW (AA 0) (mC (.int 2))) (mC (.int 7919))) (mC (.int 48271))) (mC (.int 2147483647))) (AO 3))
  (AU (FL (Hg (AC (AA 1) AK)) (AO 4) (AU (Ab (mOp Bi (mOp Ga (AA 3) (mOp Ap (mOp Ap (mOp BW (AA 3) (mC (.int 1009))) (mC (.int 69621))) (AA 4))) (mC (.int 2147483647))) (AO 3))
  (AU (BD (Ak CT (AA 2) (AC (mOp Bi (mOp Ga (AA 3) (mOp Ap (mOp BW (AA 3) (mC (.int 127))) (mC (.int 40009)))) (mC (.int 2147483629))) AK)))
  (Ab (mOp Ap (AA 3) (mC (.int 1))) (AO 3)))))
  (A5 (Er (AA 2) C6 (C0 (AA 1)))))))))
noncomputable def DA  : Sl->M (Fl×Sl):=
  (AU (Ab (mOp Ap (mC (.int 2)) (mOp Bi (mOp BW (AA 0) (mC (.int 4))) (mC (.int 9)))) (AO 2))
  (AU (Ab (mOp AH (AG B9 (AC (AG B9 (AC (mC (.str "w")) (AC (mC (.str "r")) (AC (mC (.str "s")) (AC (mC (.str "t")) AK))))) (AC (AG B9 (AC (mC (.str "writer")) (AC (mC (.str "a")) (AC (mC (.str "ab")) (AC (mC (.str "b")) AK))))) (AC (AG B9 (AC (mC (.str "z")) (AC (mC (.str "zz")) (AC (mC (.str "zzzzzzzz")) (AC (mC (.str "begin")) AK))))) AK)))) (mOp Bi (mOp BW (AA 0) (mC (.int 36))) (mC (.int 3)))) (AO 3))
  (AU (Ab (mOp Ap (mC (.int 1)) (mOp Bi (mOp BW (AA 0) (mC (.int 108))) (mC (.int 3)))) (AO 4))
  (AU (Ab (B2 1 [] (Cy (Er (AA 3) C6 (C0 (mOp Ap (mC (.int 1)) (AA 4))))) (AO 0) Dq (AG A1 (AC (AA 0) (AC (mC (.int 0)) (AC (AG A1 AK) AK)))) B9) (AO 5))
  (A5 (AG A1 (AC (AA 1) (AC (AA 2) (AC (mOp Bi (mOp BW (AA 0) (mC (.int 324))) (AA 2)) (AC (AG A1 AK) (AC (AG FT (AC (AA 5) AK)) AK)))))))))))
noncomputable def DZ  : Sl->M (Fl×Sl):=
  (AU (Ab (mOp Ap (Er (AA 1) (C0 (mUn Ui (mC (.int 3)))) C6) (AG B9 (AC (mOp Bi (mOp BW (AA 2) (mC (.int 5))) (mOp AH (AA 0) (mC (.int 1)))) (AC (mOp AH (AA 0) (mC (.int 2))) AK)))) (AO 3))
  (A5 (mOp AH (AA 3) (mOp Bi (AA 2) (AG BX (AC (AA 3) AK))))))
noncomputable def DB(Zv:List D->M D)(Zw:List D->M D):Sl->M (Fl×Sl):=
  (AU (Ab (AG Dz AK) (AO 2))
  (AU (Ab (AG Dz AK) (AO 3))
  (AU (Ab (AG Dz (AC (mOp AH (AA 0) (mC (.int 2))) AK)) (AO 4))
  (AU (Ab (B2 1 [] (Cy (mOp AH (AA 0) (mC (.int 4)))) (AO 0) Dq (mOp AH (AA 0) (mC (.int 0))) B9) (AO 5))
  (AU (FL (Cy (AA 1)) (AO 6) (AU (Ab (mOp AH (AG Zv (AC (AA 6) (AC (mC (.int 1)) AK))) (mC (.int 0))) (AO 7))
  (AU (Ab (mOp AH (AA 5) (mOp Bi (AA 7) (AG BX (AC (AA 5) AK)))) (AO 8))
  (AU (sIf (AL (mOp AW (mOp Bi (mOp BW (AA 7) (mC (.int 4))) (mC (.int 3))) (mC (.int 0)))) (Ab (mOp AH (AA 5) (mC (.int 0))) (AO 8)) Au)
  (AU (Ab (mOp Bi (mOp BW (AA 7) (mC (.int 60))) (mOp AH (AA 0) (mC (.int 1)))) (AO 9))
  (AU (Ab (AG A1 (AC (mOp AH (AG B9 (AC (mC (.str "begin")) (AC (mC (.str "end")) AK))) (AG KF (AC (mOp (EN false) (AA 8) (AA 2)) AK))) (AC (AA 8) AK))) (AO 10))
  (AU (sIf (CO (AL (mOp AW (AA 8) (mOp AH (AA 5) (mC (.int 0))))) (AL (mOp AW (mOp AH (AA 10) (mC (.int 0))) (mC (.str "begin"))))) (AU (Ab (mOp Ap (AA 10) (AG A1 (AC (AA 9) AK))) (AO 10))
  (BD (Ak CT (AA 4) (AC (AA 9) AK)))) Au)
  (AU (sIf (CO (AL (mOp EM (AA 8) (mOp AH (AA 5) (mC (.int 0))))) (AL (mOp AW (mOp AH (AA 10) (mC (.int 0))) (mC (.str "end"))))) (Ab (mOp Ap (AA 10) (AG A1 (AC (AG Zw (AC (AA 0) (AC (AA 4) (AC (mOp BW (AA 7) (mC (.int 60))) AK)))) AK))) (AO 10)) Au)
  (AU (BD (Ak CT (AA 3) (AC (AA 10) AK)))
  (sIf (AL (mOp (EN false) (AA 8) (AA 2))) (BD (Ak MA (AA 2) (AC (AA 8) AK))) (BD (Ak CT (AA 2) (AC (AA 8) AK)))))))))))))
  (A5 (AA 3)))))))
noncomputable def Bb:List D->M D:=A3 .drop 2 2 (Cd)
noncomputable def B5:List D->M D:=A3 .drop 6 2 (DA)
noncomputable def B4:List D->M D:=A3 .drop 5 2 (C9)
noncomputable def CH:List D->M D:=A3 .drop 4 3 (DZ)
noncomputable def B6:List D->M D:=A3 .frz 11 2 (DB B4 CH)
noncomputable def Aj:List D->M D:=A3 .drop 2 1 (BI)
noncomputable def BL:List D->M D:=A3 .drop 3 3 (Bn)
noncomputable def BR:List D->M D:=A3 .drop 3 3 (Bm)
noncomputable def BE:List D->M D:=A3 .drop 3 3 (Bo BL BR)
noncomputable def BF:List D->M D:=A3 .frz 9 2 (CK BE)
noncomputable def Aa:List D->M D:=A3 .drop 3 3 (BM)
end K13
namespace L2
open PySem PySem.Spec PyProof.Rows
section
variable{X:Cx}{scope:Scope}{tgs:List Str}{ix:List Nat}
noncomputable def Kl(P:Program)(w:World)(A:Around):Option Expr->Env->(Bool->Shared->Prop)->(Value->Shared->Prop)->Shared->Prop
 |none,_,Q,_,s=>Q true s
 |some c,env,Q,E,s=>wpAny (model P w) A (isTrue c env (eval c env)) Q E s
theorem Ph:∀{co:Option Expr},Kl P w A co env Q (λ_ _=>False) s->(∀b s,Q b s->Q' b s)->Kl P w A co env Q' E s
 |none,h,k=>k _ _ h
 |some _,h,k=>MZ h k
def VJ(P:Program)(w:World)(A:Around)(tg elt:Expr)(co:Option Expr)(it acc:Value)(env:Env)(R:Result->Shared->Prop)(G:Shared->Prop)(r:Option Value)(s1:Shared):Prop:=match r with
 |none=>R (.ok .next) s1
 |some v=>wpAny (model P w) A (letOwnedTupleGo tg it v) (λ_ s0=>wpAny (model P w) A (assign tg env v) (λ_ s2=>
   Kl P w A co env (λok s3=>if ok=true then wpAny (model P w) A (eval elt env) (λx s4=>wpAny (model P w) A (call (.builtin "list.append") [acc,x]) (λ_ s5=>G s5) (notedBy (model P w) A env λe s'=>R (.error e) s') s4) (notedBy (model P w) A env λe s'=>R (.error e) s') s3 else G s3)
    (notedBy (model P w) A env λe s'=>R (.error e) s') s2) (notedBy (model P w) A env λe s'=>R (.error e) s') s0) (notedBy (model P w) A env λe s'=>R (.error e) s') s1
theorem Q2(I:Nat->Shared->Prop):∀(co:Option Expr),
  (∀n s,I n s->wpAny (model P w) A (pyNext it) (VJ P w A tg elt co it acc env R λs5=>∃m,m<n/\I m s5) (notedBy (model P w) A env λe s'=>R (.error e) s') s)->∀n,I n s->
  codeAny (model P w) A (.compLoop (.ListComp elt [⟨tg,iter,co.toList,0⟩] scope pos) 0 it acc env) R s
 |none,turn,n,h=>PySem.W.kcp_loop I (λn s hI=>AAj (turn n s hI) (λr s1 q=>match r,q with
   |none,q=>q
   |some v,q=>AAj q (λ_ _ q=>AAj q (λ_ _ q=>by
     have q':=q;dsimp only[Kl] at q';rw[if_pos rfl] at q';exact q') λ_ _ x=>x) λ_ _ x=>x) λ_ _ x=>x) n h
 |some c,turn,n,h=>PySem.W.kct_loop I (λn s hI=>AAj (turn n s hI) (λr s1 q=>match r,q with
   |none,q=>q
   |some v,q=>q) λ_ _ x=>x) n h
def O3(X:Cx)(co:Option Expr)(tc:TT):Prop:=
 ∀(w4:List (Addr×Obj)) (s:Shared) (O:St) (H:Hp) (Q:Bool->Hp->Prop),Inv X w4 O H s->tc O H Q->Kl X.prog X.w X.A co X.env (TP X w4 O Q) X.xe s
theorem Gk{elt tg iter:Expr}{co:Option Expr}{pos:Pos}{g:TG}{tc:TT}{te:TE}{w4:List (Addr×Obj)}{fp:List Addr}{tn:Nat->Heap->Prop}{J:It}{Q:VK}
  (S:BScope X scope tgs ix) (hc:X.calm=true) (hg:∀fp C s H,PG (cxB X scope tgs fp C s H) tg g) (hgk:GK tgs.length g) (hi:∀fp C s H,O3 (cxB X scope tgs fp C s H) co tc) (he:∀fp C s H,PE (cxB X scope tgs fp C s H) elt te)
  (I2:Inv X w4 O H2 s2) (T:Lp X.prog X.w X.kw tg J fp it tn) (t0:tn 0 s2.heap) (hf:∀b∈fp,F8 X w4 H2 b)
  (W:Nat->Nat->List V->Hp->Prop) (w0:∃m,W 0 m [] H2)
  (turn:∀i m ys H,W i m ys H->(J.stop i H/\ys.length<=sizeLine/\∀p,H p=none->Q (.ref p) (upd H p (.lst ys))) ∨
   (J.go i H/\ys.length<sizeLine/\∃N:List V->Hp->Prop,(∀ys' H',N ys' H'->∃m',m'<m/\W (i+1) m' ys' H')/\∀x H',J.yld i H x H'->g x (C1 tgs ix O) H' λu4 H2=>tc u4 H2 λb H3=>
    if b=true then te u4 H3 λv H4=>N (ys++[v]) H4 else N ys H3))
  {RR:Value->Addr->Result->Shared->Prop}
  (fin:∀(D C:Addr) (s':Shared) (H':Hp) (m:Str->Option Value),Inv X w4 O H' s'->Q (.ref D) H'->s'.heap.Ns C m->F8 X w4 H' C->RR (.ref D) C (.ok .next) s') :
  wpAny (model X.prog X.w) X.A (newList []) (λacc s₃=>wpAny (model X.prog X.w) X.A (newFunctionEnv scope X.env.globals (E8 X.env scope.names []) [] X.env.qual none .none (some X.env)) (λcenv s₄=>
   codeAny (model X.prog X.w) X.A (.compStart (.ListComp elt [⟨tg,iter,co.toList,0⟩] scope pos) 0 (.ref it) acc { cenv with scope:=relabel scope X.env }) (RR acc cenv.locals) s₄) X.xe s₃) X.xe s2:=by
 refine AAq (wpAny_newFunctionEnv S.nocell (by intro y hy;simp at hy) (λh₁ hns₁ hsb₁=>?_) S.kind);dsimp only at hns₁ hsb₁ ⊢;generalize hH2:s2.heap.push { cls:=.type "list",dict:=none,data:=.seq ([]:List Value).toArray }=G2 at hns₁ hsb₁ ⊢;have hC:G2.objs.size=s2.heap.objs.size+1:=by rw[←hH2,Heap.size_push]
 have hCle:s2.heap.objs.size<=G2.objs.size:=by rw[hC];exact Nat.le_succ _
 have hDC:s2.heap.objs.size≠G2.objs.size:=by rw[hC];exact AAe (Nat.lt_succ_self _)
 have below:∀b,b<s2.heap.objs.size->b≠G2.objs.size/\b≠s2.heap.objs.size:=λb hb=>⟨by rw[hC];exact AAe (AAi hb),AAe hb⟩;have old:∀b o,s2.heap.get? b=some o->h₁.get? b=some o:=λb o e=>hsb₁.extBut b o (below b (Heap.lt_size e)).1 (AAC _ (hH2 ▸ AAC _ e));have hacc:h₁.get? s2.heap.objs.size=some (J7 [] 0):=hsb₁.extBut _ _ hDC (AAC _ (hH2 ▸ AAD _ rfl));have hfo:∀b∈fp,b<s2.heap.objs.size:=λb hb=>let ⟨o,e,_⟩:=T.obj 0 _ t0 b hb;Heap.lt_size e
 have ok:=Rs (tgs:=tgs) (ix:=ix) (C:=G2.objs.size) S I2 hf hfo hCle;have sub:∀x c,(E8 X.env scope.names []).lookup x=some c->X.env.cells.lookup x=some c:=E7 scope.names [] (λ_ _ z=>by simp at z);have nDfs:s2.heap.objs.size∉frs X.stack:=λhz=>by
  rcases AAI.mp (I2.stkSub _ hz) with z|z
  ·exact absurd I2.lt (by rw[←z];exact AAw _)
  ·exact I2.nofs (AAE _) z
 have nDcell:∀x c,(E8 X.env scope.names []).lookup x=some c->c≠s2.heap.objs.size:=λx c e=>AAe (I2.cellLt (sub x c e));have ncell:∀(its:List Value) (k:Nat) (v:Option Value),(J7 its k).data≠.cell v:=λits k v z=>by cases z
 have stat:∀{Hx:Hp} {o:Obj},(∀b∈fp,Hx b=none)->∀b∈fp,F8 (cxB X scope tgs fp G2.objs.size s2 H2) [(s2.heap.objs.size,o)] Hx b:=λ{Hx o} hn b hb=>
  ⟨hn b hb,(ok.exf b hb).1,ok.exfs b hb,.inl hb,(ok.exf b hb).2,λp hp z=>by
   have e:p=(s2.heap.objs.size,o):=by simpa[cxB] using hp
   subst e;exact absurd (hfo b hb) (by rw[←z];exact AAw _)⟩
 have loop:∀s₃:Shared,s₃={ s2 with heap:=h₁,toks:=s2.toks+([]:List (Str×Value)).length }->
   codeAny (model X.prog X.w) X.A (.compLoop (.ListComp elt [⟨tg,iter,co.toList,0⟩] scope pos) 0 (.ref it) (.ref s2.heap.objs.size) (compEnvC scope (E8 X.env scope.names []) G2.objs.size X.env)) (RR (.ref s2.heap.objs.size) G2.objs.size) s₃:=by
  rintro s₃ rfl;obtain⟨m0,w0⟩:=w0;refine Q2 (λn s=>∃i ys its k H,Inv (cxB X scope tgs fp G2.objs.size s2 H2) [(s2.heap.objs.size,J7 its k)] (C1 tgs ix O) H s/\tn i s.heap/\(∀b∈fp,H b=none)/\Vals ys its/\W i n ys H) co ?_ m0
   ⟨0,[],[],0,H2,MR S I2 hf hfo hCle (AAE _) hDC hns₁ old rfl rfl hacc (ncell _ _),T.keep 0 _ _ t0 λb _ o e=>old b o e,λb hb=>(hf b hb).1,.nil,w0⟩
  rintro n s ⟨i,ys,its,k,H,I,st,fr,rv,w⟩;rcases turn i n ys H w with ⟨stop,hz,q⟩|⟨go,hz8,N,hN,step⟩
  ·refine thn (T.done (cxB X scope tgs fp G2.objs.size s2 H2) rfl rfl rfl hc i _ s _ H _ I (stat fr) st stop) λr s1 ⟨hr,I1⟩=>?_;subst hr;obtain⟨pe,pn,_⟩:=I1.pin (s2.heap.objs.size,J7 its k) (AAb _ (by simp));have J0:Inv X w4 O H s1:=I2.call' I1.os I1.base I1.hok I1.bare λb hb=>⟨(hf b hb).2.2.2.1,(hf b hb).2.1,(hf b hb).2.2.2.2.1,(hf b hb).2.2.2.2.2⟩;have J1:Inv X w4 O (upd H s2.heap.objs.size (.lst ys)) s1:=J0.track (I2.fpOk (AAE _) pn) ⟨hz,its,k,rv,pe⟩;obtain⟨m,hn,_⟩:=I1.loc;exact fin _ _ s1 _ m J1 (q _ pn) hn (I2.fpOk hCle (by rw[AS (Ne.symm hDC)];exact I1.free))
  ·refine thn (T.item (cxB X scope tgs fp G2.objs.size s2 H2) rfl rfl rfl hc i _ s _ H _ I (stat fr) st go) λr s1 ⟨u,hr,h1⟩=>?_;subst hr;refine thn h1 λ_ s5 zq=>?_;obtain⟨x,H5,I5,r5,y5,st5,fr5⟩:=zq;have I5':=I5.pinned (stat fr5) (T.obj _ _ st5);refine MZ (hg fp G2.objs.size s2 H2 _ s5 _ H5 x u _ I5' r5 (hgk _ _ _ _ (step x H5 y5))) λ_ s6 ⟨u7,H6,I6,q6,l6,d6⟩=>?_;refine Ph (hi fp G2.objs.size s2 H2 _ s6 u7 H6 _ I6 q6) λokb s7 ⟨H7,I7,q7⟩=>?_;cases okb with
   |false=>
    rw[if_neg AAh] at q7 ⊢;obtain⟨m',hm,w7⟩:=hN _ _ q7;refine⟨m',hm,i+1,ys,its,k,H7,UT I7.unpinned l6 d6,T.keep _ _ _ st5 λb hb o e=>(I7.pin (b,o) (AAb _ (AAb _ (C7 hb e)))).1,λb hb=>?_,rv,w7⟩;obtain⟨o,e,_⟩:=T.obj _ _ st5 b hb;exact(I7.pin (b,o) (AAb _ (AAb _ (C7 hb e)))).2.1
   |true=>
    rw[if_pos rfl] at q7 ⊢;refine MZ (he fp G2.objs.size s2 H2 _ s7 u7 H7 _ I7 q7) λxv s8 ⟨v,H8,I8,rv8,q8⟩=>?_;obtain⟨m',hm,w8⟩:=hN _ _ q8;obtain⟨pe,pn,_⟩:=I8.pin (s2.heap.objs.size,J7 its k) (AAb _ (AAc _ (by simp)));have hlen:=rv.length;refine call_meets PySem.F.slot_list_append ⟨_,pe,rfl⟩ PySem.F.entry_list_append (PySem.F.args_list_append_2 _ _) (PySem.list_append s2.heap.objs.size its.toArray k xv (by rw[List.size_toArray];omega)) ⟨pe,?_⟩;have hp:its.toArray.push xv=(its++[xv]).toArray:=by simp
    have q':∃k',(s8.heap.update s2.heap.objs.size (Obj.mapSeq (λa=>a.push xv))).get? s2.heap.objs.size=some (J7 (its++[xv]) k'):=⟨_,by
     unfold J7;rw[←hp];exact PySem.IsL.update pe (λa=>a.push xv)⟩
    obtain⟨k',q'⟩:=q';have I9:Inv (cxB X scope tgs fp G2.objs.size s2 H2) [] u7 H8 { s8 with heap:=s8.heap.update s2.heap.objs.size (Obj.mapSeq (λa=>a.push xv)) }:=
     (I8.pins_of (pins':=[]) (λp hp=>absurd hp (by simp))).turned (t':=s8.toks) (λb o hb e=>(Heap.get?_update_other s8.heap (Obj.mapSeq (λa=>a.push xv)) (Ne.symm hb)).trans e) pn hDC (.inr (AAE _)) nDcell (λp hp=>absurd hp (by simp[cxB]))
    have I10:Inv (cxB X scope tgs fp G2.objs.size s2 H2) [(s2.heap.objs.size,J7 (its++[xv]) k')] u7 H8 { s8 with heap:=s8.heap.update s2.heap.objs.size (Obj.mapSeq (λa=>a.push xv)) }:=
     I9.pins_of λp hp=>by
      have e:p=(s2.heap.objs.size,J7 (its++[xv]) k'):=by simpa using hp
      subst e;exact⟨q',pn,hDC,nDfs,ncell _ _⟩
    refine⟨m',hm,i+1,ys++[v],its++[xv],k',H8,UT I10 l6 d6,T.keep _ _ _ st5 λb hb o e=>?_,λb hb=>?_,rv.append (.cons rv8 .nil),w8⟩
    ·exact(Heap.get?_update_other s8.heap (Obj.mapSeq (λa=>a.push xv)) (Ne.symm (below b (hfo b hb)).2)).trans (I8.pin (b,o) (AAb _ (AAb _ (C7 hb e)))).1
    ·obtain⟨o,e,_⟩:=T.obj _ _ st5 b hb;exact(I8.pin (b,o) (AAb _ (AAb _ (C7 hb e)))).2.1
 exact codeAny_compStart_list (loop _ rfl) (T.self _ 0 _ _ _ (T.keep 0 _ _ t0 λb _ o e=>old b o e) (loop _ rfl))
theorem Qf{elt tg iter:Expr}(co:Option Expr){pos:Pos}{wi:TI}{tc:TT}{te:TE}(S:BScope X scope tgs ix)(hc:X.calm=true)(hi:PI X tg iter wi)(hg:∀fp C s H,PG (cxB X scope tgs fp C s H) tg g)(hgk:GK tgs.length g)
  (hif:∀fp C s H,O3 (cxB X scope tgs fp C s H) co tc) (he:∀fp C s H,PE (cxB X scope tgs fp C s H) elt te) (hs:∀x,foldedSetIterable iter X.env x=pure x:=by intro _;rfl) :
  PE X (.ListComp elt [⟨tg,iter,co.toList,0⟩] scope pos) (Po tgs ix wi g tc te):=by
 intro w4 s O H Q I h;rw[eval_ListComp];refine wpAny_comprehension_free (use:=none) rfl hs (D8 (S.cells I.ok)) S.kind S.loc ?_;show wpAny _ _ (eval iter X.env) _ _ s;refine thn (hi w4 s O H _ I h) λv s1 h1=>thn h1 λitv s2 h2=>?_;obtain⟨it,fp,tn,J,H2,e,I2,T,t0,f2,W,w0,turn⟩:=h2;subst e;refine Gk (RR:=λacc C=>compPost (model X.prog X.w) X.A X.xe none (EP X w4 O Q) acc C) S hc hg hgk hif he I2 T t0 f2 W w0 turn ?_;intro D C s' H' m J1 q hn fC;obtain⟨f0,f1,f2,f3,f4,f5⟩:=fC;exact⟨m,hn,λh' sb=>⟨.ref D,H',J1.turned (t':=s'.toks) (λb o hb e=>(sb.2 b hb).trans e) f0 f1 f3 f4 f5,rfl,q⟩⟩
end
end L2
namespace Mi
open PySem L2
section
variable{X:Cx}
theorem C3{K:KW}:O3 X none (tT K Dq):=λw4 s O H Q I h=>by
 obtain⟨Y,Z,B,b,Z',R,S,e,q⟩:=h;cases e;exact⟨H,I,q Y H R.ext0 R⟩
theorem Fr{c:Expr}{mc:Sl->M Bool}(h:RT X c mc):O3 X (some c) (tT X.kw mc):=λw4 s O H Q I hq=>h.pe w4 s O H Q I hq
end
end Mi
namespace L2
open PySem PySem.Spec PyProof.Rows
end L2
namespace Mi
open PySem L2 Ht
section
variable{X:Cx}{e tg iter:Expr}{body:List Stmt}{pos:Pos}
noncomputable def ZD(ks:List Key)(m:Sl->M (List D)):Sl->M D:=λB Z=>match m B (Z++[.dK []]) with
 |some (ds,w5)=>match w5[Z.length]? with
  |some (.dK [])=>if ds.length=ks.length then some (.ref Z.length,w5.set Z.length (.dK (ks.zip ds))) else none
  |_=>none
 |none=>none
noncomputable def GO(n:Nat)(bf:D->Sl->M Sl)(mb:Sl->M (Fl×Sl)):Nat->Nat->Sl->M (Fl×Sl)
 |0,_,_=>BQ
 |f+1,i,B=>λZ=>match Z[n]? with
  |some (.lst ds)=>match ds[i]? with
   |some x=>(bnd (bf x B) λw9=>bnd (mb w9) λr=>match r.1 with
    | .next=>GO n bf mb f (i+1) r.2
    | .cont=>GO n bf mb f (i+1) r.2
    | .brk=>ret (.next,r.2)
    | .rt d=>ret (.rt d,r.2)
    | .xc x=>ret (.xc x,r.2)) Z
   |none=>some ((.next,B),Z)
  |_=>none
noncomputable def M7(Fa:Nat)(m:Sl->M D)(bf:D->Sl->M Sl)(mb:Sl->M (Fl×Sl)):Sl->M (Fl×Sl):=λB=>bnd (m B) λx=>match x with
 | .ref n=>GO n bf mb Fa 0 B
 |_=>BQ
theorem TD(Fa:Nat)(hp:PassesOwn (model X.prog X.w) X.A X.env X.xe)(hc:X.calm=true)(hi:RE X iter m)(hg:RG X tg bf)(hb:RSs X body mb)
  (hs:∀x,foldedSetIterable iter X.env x=pure x:=by intro _;rfl):RS X (.For tg iter body [] pos) (M7 Fa m bf mb):=RS.wk (QQ hp hc (Jx hi.pe) hg.pe hb.pe hs) λDn O H h=>by
 obtain⟨Y,Z,B,f,x8,Z',R,S,e,q⟩:=h;obtain⟨x,w5,e1,e2⟩:=AE e;refine⟨Y,Z,B,x,w5,R,S,e1,λx3 H1 E1 R1 v i1=>?_⟩;cases x with
 |ref n=>
  unfold Is at i1;obtain⟨hk,rfl⟩:=i1;have hn0:∃ds,w5[n]?=some (.lst ds):=by
   cases Fa with
   |zero=>cases e2
   |succ f=>
    have e3:GO n bf mb (f+1) 0 B w5=some ((_,x8),Z'):=e2;unfold GO at e3;split at e3
    ·rename_i ds hd;exact⟨ds,hd⟩
    ·cases e3
  obtain⟨ds0,hn0⟩:=hn0;obtain⟨u,hu,o⟩:=R1.obj n _ hn0;obtain⟨vs0,rfl,iv0⟩:=o;refine⟨_,rfl,⟨vs0,SqL.of hu⟩,?_⟩
  let W:Nat->Nat->St->Hp->Prop:=λi m O H=>∃Y Z B f x8 Z',RelH X.kw Y Z H/\RelS X.kw Y Z.length H B O/\n<Z.length/\Y n=x3 n/\GO n bf mb m i B Z=some ((f,x8),Z') /\
   Aft X.kw Y Z H Z' λY' H'=>∀O',RelS X.kw Y' Z'.length H' x8 O'->FlP X.kw Dn Y' Z'.length H' x8 O' f
  refine⟨W,⟨Fa,x3,w5,B,f,x8,Z',R1,S.ext E1,hk,rfl,e2,λx4 H2 E2 R2=>q x4 H2 (E1.trans E2) R2⟩,?_⟩;rintro i m O H ⟨Y,Z,B,f,x8,Z',R,S,hn,en,e,q⟩;cases m with
  |zero=>cases e
  |succ m=>
   unfold GO at e;split at e
   ·rename_i ds hd;obtain⟨u,hu,o⟩:=R.obj n _ hd;obtain⟨vs,rfl,iv⟩:=o;rw[en] at hu;have hl:=iv.length;split at e
    ·rename_i x hx;obtain⟨xv,hxv,ixv⟩:=iv.get hx;refine .inr ⟨⟨vs,xv,SqL.of hu,hxv⟩,λO' H'=>W (i+1) m O' H',λO' H' z=>⟨_,Nat.lt_succ_self _,z⟩,λy H2 yl=>?_⟩;obtain⟨z,yl⟩:=yl;subst z;have:=yl vs (SqL.of hu);rw[hxv] at this;cases this;obtain⟨w9,w6,e1,ea⟩:=AE e;obtain⟨⟨f2,x5⟩,x6,e2,eb⟩:=AE ea;refine⟨Y,Z,B,_,w9,w6,R,S,ixv,e1,λx9 H3 E3 R3 u6 S3=>?_⟩;refine⟨x9,w6,w9,f2,x5,x6,R3,S3,e2,λu3 H4 E4 R4 v6 S4=>?_⟩;have E14:=E3.trans E4;have hn4:n<x6.length:=AAM hn E14.le;have en4:u3 n=x3 n:=(E14.agree n hn).trans en;cases f2 with
     |next=>exact⟨u3,x6,x5,f,x8,Z',R4,S4,hn4,en4,eb,λu5 H5 E5 R5=>q u5 H5 (E14.trans E5) R5⟩
     |cont=>exact⟨u3,x6,x5,f,x8,Z',R4,S4,hn4,en4,eb,λu5 H5 E5 R5=>q u5 H5 (E14.trans E5) R5⟩
     |brk=>cases eb;exact q u3 H4 E14 R4 v6 S4
     |rt d=>cases eb;exact q u3 H4 E14 R4 v6 S4
     |xc x=>cases eb;exact q u3 H4 E14 R4 v6 S4
    ·rename_i hx;cases e;have hle:ds.length<=i:=by simpa using hx
     exact .inl ⟨⟨vs,SqL.of hu,by omega⟩,q Y H R.ext0 R O S⟩
   ·cases e
 |_=>cases e2
end
end Mi
namespace Sq
open PySem PySem.W PyProof.Rows
end Sq
namespace Nk
open PySem PySem.Spec PyProof.Rows HT
noncomputable def Os(c:Cs):List Int:=c.1::c.2.1::c.2.2
noncomputable def cLt(a b:Cs):Bool:=Cm (Os a) (Os b)
theorem LU(h:Os a=Os b):a=b:=by
 obtain⟨a1,a2,a3⟩:=a;obtain⟨b1,b2,b3⟩:=b;simp only[Os,List.cons.injEq] at h;rw[h.1,h.2.1,h.2.2]
theorem F3(h:csK a=csK b):a=b:=by
 obtain⟨a1,a2,a3⟩:=a;obtain⟨b1,b2,b3⟩:=b;unfold csK at h;simp only[NK.tup.injEq,List.cons.injEq,NK.int.injEq,and_true] at h;obtain⟨h1,h2,h3⟩:=h;have:a3=b3:=by
  have inj:∀(x y:List Int),x.map NK.int=y.map NK.int->x=y:=by
   intro x
   induction x with
   |nil=>intro y h;cases y with
    |nil=>rfl
    |cons _ _=>cases h
   |cons u x ih=>intro y h;cases y with
    |nil=>cases h
    |cons v y=>
     rw[AAW,AAW,List.cons.injEq,NK.int.injEq] at h;rw[h.1,ih y h.2]
  exact inj a3 b3 h3
 rw[h1,h2,this]
theorem G5:∀a:List Int,Cm a a=false
 |[]=>rfl
 |x::a=>by rw[Br,if_pos rfl];exact G5 a
theorem J9:∀{a b:List Int},a≠b->Cm a b=true∨Cm b a=true
 |[],[],h=>absurd rfl h
 |[],_::_,_=>.inl rfl
 |_::_,[],_=>.inr rfl
 |x::a,y::b,h=>by
  by_cases e:x=y
  ·subst e;rw[Br,Br,if_pos rfl,if_pos rfl];exact J9 λz=>h (by rw[z])
  ·rw[Br,Br,if_neg e,if_neg (Ne.symm e)];rcases Int.lt_or_gt_of_ne e with z|z
   ·exact .inl (AAO z)
   ·exact .inr (AAO z)
theorem ML:∀{a b c:List Int},Cm a b=true->Cm b c=true->Cm a c=true
 |[],[],_,h,_=>by cases h
 |[],_::_,[],_,h=>by cases h
 |[],_::_,_::_,_,_=>rfl
 |_::_,[],_,h,_=>by cases h
 |_::_,_::_,[],_,h=>by cases h
 |x::a,y::b,z::c,h,g=>by
  rw[Br] at h g ⊢;by_cases e:x=y
  ·subst e;rw[if_pos rfl] at h;by_cases e2:x=z
   ·subst e2;rw[if_pos rfl] at g ⊢;exact ML h g
   ·rw[if_neg e2] at g ⊢;exact g
  ·rw[if_neg e] at h;have h':=of_decide_eq_true h;by_cases e2:y=z
   ·subst e2;rw[if_neg e];exact h
   ·rw[if_neg e2] at g;have g':=of_decide_eq_true g;rw[if_neg (by omega)];exact AAO (by omega)
theorem KD:∀{l:List Int} {vs:List Value},Ats h (l.map NK.int) vs->IntsAre vs l
 |[],_,a=>by unfold List.map Ats at a;subst a;exact .nil
 |i::l,_,a=>by
  unfold List.map Ats at a;obtain⟨v,vs',rfl,a1,a2⟩:=a;unfold At at a1;obtain⟨t,rfl⟩:=a1;exact .cons i t (KD a2)
theorem IF(x:At h (csK c) v):∃a o items n t u q,v=.ref a/\h.get? a=some o/\o.cls=.type "tuple" /\ o.data=.seq items n/\items.toList=[.int c.1 t,.int c.2.1 u,q]/\At h (.tup (c.2.2.map NK.int)) q:=by
 unfold csK At at x;obtain⟨a,o,items,n,rfl,h1,h2,h3,h4⟩:=x;unfold Ats at h4;obtain⟨v1,r1,e1,a1,h4⟩:=h4;unfold Ats at h4;obtain⟨v2,r2,e2,a2,h4⟩:=h4;unfold Ats at h4;obtain⟨v3,r3,e3,a3,h4⟩:=h4;unfold Ats at h4;unfold At at a1 a2;obtain⟨t,rfl⟩:=a1;obtain⟨u,rfl⟩:=a2;subst h4 e3 e2;exact⟨a,o,items,n,t,u,v3,rfl,h1,h2,h3,e1,a3⟩
theorem JO:∀l:List Int,NK.deeps (l.map NK.int)=0
 |[]=>rfl
 |i::l=>by show max 0 (NK.deeps (l.map NK.int))=0;rw[JO l];rfl
section
variable{prog:Program}{w:World}{A:Around}{E:Value->Shared->Prop}{s:Shared}
theorem YW(hu:A.units+8<cLine)(hx:At s.heap (csK a) x)(hy:At s.heap (csK b) y)(q:Q (cLt a b) s):wpAny (model prog w) A (keyLt' (tuples' true) x y) Q E s:=by
 obtain⟨x,ox,xs,n,t,u,p,rfl,h1,h2,h3,h4,h5⟩:=IF hx;obtain⟨y,oy,ys,n',t',u',p',rfl,g1,g2,g3,g4,g5⟩:=IF hy;refine PySem.W.kat_lt h1 h3 g1 g3 ?_;rw[h4,g4];unfold cLt Os at q;rw[Br] at q;refine PySem.W.kat_cons (SeqAt.EqAt.int_int a.1 t b.1 t' prog w _ _ ?_);by_cases e1:a.1=b.1
 ·rw[beq_iff_eq.mpr e1];rw[if_pos e1,Br] at q;refine PySem.W.kat_yes (PySem.W.kat_cons (SeqAt.EqAt.int_int a.2.1 u b.2.1 u' prog w _ _ ?_));by_cases e2:a.2.1=b.2.1
  ·rw[beq_iff_eq.mpr e2];rw[if_pos e2] at q;refine PySem.W.kat_yes (PySem.W.kat_cons (At.eq (by show A.units+(NK.deeps (a.2.2.map NK.int)+1)<cLine;rw[JO];omega) h5 g5 prog w _ _ ?_));by_cases e3:a.2.2=b.2.2
   ·have hd:decide (NK.tup (a.2.2.map NK.int)=NK.tup (b.2.2.map NK.int))=true:=AAO (by rw[e3]);rw[hd];refine PySem.W.kat_yes (PySem.W.kat_nil ?_);rw[e3,G5] at q;have z1:xs.size=3:=by rw[←Array.length_toList,h4];rfl
    have z2:ys.size=3:=by rw[←Array.length_toList,g4];rfl
    rw[z1,z2];exact q
   ·have hne:¬(NK.tup (a.2.2.map NK.int)=NK.tup (b.2.2.map NK.int)):=λz=>e3 (by
     have:=F3 (a:=(0,0,a.2.2)) (b:=(0,0,b.2.2)) (by unfold csK;rw[z]);exact(Prod.mk.inj (Prod.mk.inj this).2).2)
    rw[AAN hne];refine PySem.W.kat_no ?_;show wpAny _ _ (oneLt' false p p') Q _ s;unfold At at h5 g5;obtain⟨z,o1,i1,m1,rfl,k1,k2,k3,k4⟩:=h5;obtain⟨z',o2,i2,m2,rfl,k1',k2',k3',k4'⟩:=g5;exact PySem.W.kat_one _ _ (MJ ⟨o1,k1,k2,m1,k3⟩ ⟨o2,k1',k2',m2,k3'⟩ (KD k4) (KD k4') (by omega) q)
  ·rw[AAf.mpr e2];rw[if_neg e2] at q;refine PySem.W.kat_no ?_;exact PySem.W.kat_one _ _ (lt_int q)
 ·rw[AAf.mpr e1];rw[if_neg e1] at q;refine PySem.W.kat_no ?_;exact oneLt_int q
end
theorem Ats.get{h:Heap}:∀{ks:List NK} {vs:List Value},Ats h ks vs->∀(i:Nat) (k:NK),ks[i]?=some k->∃v,vs[i]?=some v/\At h k v
 |[],_,_,i,k,e=>by simp at e
 |k0::ks,_,a,i,k,e=>by
  unfold Ats at a;obtain⟨v,vs',rfl,a1,a2⟩:=a;cases i with
  |zero=>simp at e;subst e;exact⟨v,rfl,a1⟩
  |succ i=>
   obtain⟨u,e1,e2⟩:=Ats.get a2 i k (by simpa using e);exact⟨u,by simpa using e1,e2⟩
theorem Ats.of_get{h:Heap}:∀{ks:List NK} {vs:List Value},vs.length=ks.length->(∀(i:Nat) (k:NK) (v:Value),ks[i]?=some k->vs[i]?=some v->At h k v)->Ats h ks vs
 |[],[],_,_=>by unfold Ats;rfl
 |[],_::_,e,_=>by simp at e
 |_::_,[],e,_=>by simp at e
 |k::ks,v::vs,e,f=>by
  unfold Ats;exact⟨v,vs,rfl,f 0 k v rfl rfl,Ats.of_get (by simpa using e) λi k' v' h1 h2=>f (i+1) k' v' (by simpa using h1) (by simpa using h2)⟩
noncomputable abbrev ZK:Cs:=(0,0,[])
section
variable{w:World}{s:Shared}
theorem Dw:∀{ks:List Cs} {vs:List Value},Ats s.heap (ks.map csK) vs->∃fs:List Value,fs.length=vs.length/\PySem.W.KatTups s.heap vs fs/\∀v∈fs,∃i t,v=.int i t
 |[],_,a=>by
  unfold List.map Ats at a;subst a;exact⟨[],rfl,trivial,λv h=>by cases h⟩
 |k::ks,_,a=>by
  unfold List.map Ats at a;obtain⟨v,vs',rfl,a1,a2⟩:=a;obtain⟨fs,e,t,f⟩:=Dw a2;obtain⟨x,o,items,n,t1,u,q,rfl,h1,h2,h3,h4,_⟩:=IF a1;refine⟨.int k.1 t1::fs,by simp[e],PySem.W.KatTups.cons h1 h2 h3 ?_ t,λw hw=>(AAI.mp hw).elim (λz=>⟨_,_,z⟩) (f w)⟩;rw[←Array.getElem?_toList,h4];rfl
end
end Nk
set_option maxHeartbeats 4000000
namespace Nk
open PySem PySem.Spec PyProof.Rows Ht
noncomputable def itK(d:Addr)(i n ep:Nat):Obj:={ cls:=.type "dict_keyiterator",data:=.fields #[.ref d,.int i 0,.int n 0,.int ep 0] }
section
variable{prog:Program}{w:World}{A:Around}{E:Value->Shared->Prop}{s:Shared}{d I:Addr}{o:Obj}{es:Array DictEntry}{ep:Nat}
theorem NO(hh:A.handled=none)(hI:s.heap.get? I=some (itK d i es.size ep))(ho:s.heap.get? d=some o)(hd:o.data=.dict es ep)
  (more:∀(hi:i<es.size) (h':Heap),h'.get? I=some (itK d (i+1) es.size ep)->Heap.SameBut I s.heap h'->Q (some es[i].key) { s with heap:=h' })
  (done:es.size<=i->∀h',Heap.ExtBut I s.heap h'->Q none { s with heap:=h' }):wpAny (model prog w) A (pyNext (.ref I)) Q E s:=by
 have hT:s.TypeIs (.ref I) "dict_keyiterator" := ⟨_,hI,rfl⟩;have nm:∀{A:Around} {s:Shared} {E:Value->Shared->Prop} {R:String->Shared->Prop},s.TypeIs (.ref I) "dict_keyiterator" -> R "dict_keyiterator" s->wpAny (model prog w) A (typeNameOfWhole (.ref I)) R E s:=λty r=>wpAny_typeNameOfWhole_keyiter ty r;unfold pyNext;refine AAA (wpAny_attempt (wpAny_callSpecial?_slot (name:=Str.ofString "__next__") hT PySem.F.slot_dict_keyiterator_next (AAd PySem.F.slot_dict_keyiterator_next hT PySem.F.entry_dict_keyiterator_next ?_ (PySem.F.args_dict_keyiterator_next_1 _))))
 wp_walk
 rw[hd]
 wp_walk
 rw[hd];refine AAB ?_;rw[if_neg (by simp)];refine AAB ?_;have key:(if (i:Int)<0 then none else es[(i:Int).toNat]?)=es[i]?:=by rw[if_neg (by omega),Int.toNat_natCast]
 dsimp only;rw[key];cases e:es[i]? with
 |some x=>
  wp_walk
  have hi:i<es.size:=(Array.getElem?_eq_some_iff.mp e).1;have ex:es[i]=x:=(Array.getElem?_eq_some_iff.mp e).2;refine⟨_,rfl,AAB ?_⟩;rw[←ex];refine more hi _ ?_ (Heap.SameBut.update ..);rw[if_neg (by decide +kernel),if_neg (by decide +kernel)];rw[Heap.get?_update_self _ hI (by rfl)];simp[itK,rawInt,Obj.mapFields]
 |none=>
  refine AAA (AAA (nm hT (AAB ?_)));rw[if_neg (by decide +kernel)];refine AAA (wpAny_setField_rec hI (by simp) λh1 g1 s1=>?_);refine MD (A:=A.in1) (s:={ s with heap:=h1 }) hh λa h' k ty=>?_;refine AAA (wpAny_isInstance (T := "StopIteration") (b:=true) ty isSubtype_stop ?_);exact AAB (done (by simpa using e) h' λb o hb e=>k b o (s1.extBut b o hb e))
theorem T9(lo:(d==sysModules)=false)(ho:s.heap.get? d=some o)(ex:o.ExactDict)(hd:o.data=.dict es ep)(q:Q (.ref s.heap.objs.size) { s with heap:=s.heap.push (itK d 0 es.size ep) }):wpAny (model prog w) A (pyIter (.ref d)) Q E s:=by
 have hT:s.TypeIs (.ref d) "dict" := ⟨o,ho,ex.1⟩;refine wpAny_pyIter_slot hT PySem.F.slot_dict_iter (AAd PySem.F.slot_dict_iter hT PySem.F.entry_dict_iter ?_ (PySem.F.args_dict_iter_1 _))
 wp_walk
 rw[if_neg (by rw[ex.1];decide)]
 wp_walk
 rw[hd]
 wp_walk
 rw[hd]
 wp_walk
 exact⟨_,rfl, "dict_keyiterator",_,⟨_,AAD _ rfl,rfl⟩,PySem.F.slot_dict_keyiterator_next.lookup,q⟩
theorem OK(hI:s.heap.get? I=some (itK d i es.size ep))(q:Q (.ref I) s):wpAny (model prog w) A (pyIter (.ref I)) Q E s:=wpAny_pyIter_keyiter (d:=d) (i:=i) (n:=es.size) (ep:=ep) ⟨_,hI,rfl,rfl⟩ q
theorem Lw(hh:A.handled=none)(hne:d≠I)(hd:o.data=.dict es ep):Walks prog w A I [I,d] [I] es.size (λi v=>∃e,es[i]?=some e/\v=e.key) (λi h=>h.get? I=some (itK d i es.size ep)/\h.get? d=some o):=by
 refine⟨λb hb=>?_,λi h h' st k=>⟨k I (by simp) _ st.1,k d (by simp) _ st.2⟩,λi s Q E hi st q=>?_,λs Q E st q=>?_,λi s Q E st q=>OK st.1 q⟩
 ·rw[AAK] at hb;rw[hb];simp
 ·refine NO hh st.1 st.2 hd (λhi' h' g sb=>?_) λz=>absurd hi (Nat.not_lt.mpr z);refine q _ h' s.toks ⟨es[i],Array.getElem?_eq_getElem hi',rfl⟩ ⟨g,(sb.2 d hne).trans st.2⟩ λb o hb e=>?_;exact(sb.2 b λz=>hb (by rw[z];simp)).trans e
 ·refine NO hh st.1 st.2 hd (λhi'=>absurd hi' (AAw _)) λ_ h' k=>?_;exact q h' s.toks λb o hb e=>k b o (λz=>hb (by rw[z];simp)) e
theorem Kp(lo:(d==sysModules)=false)(ex:o.ExactDict)(hd:o.data=.dict es ep):PySem.W.KdlSrc prog w "dict" d d es.size (λi v=>∃e,es[i]?=some e/\v=e.key) (λh=>h.get? d=some o):=by
 refine⟨λs h=>⟨_,h,ex.1⟩,λh e=>⟨Heap.lt_size e,Heap.lt_size e⟩,λh h' e k=>k d (.inl rfl) _ e,by decide,by decide,λA E s Q e q=>PySem.W.kdl_hint_dict ⟨_,e,ex.1⟩ q,λA s hh e=>?_⟩;exact⟨itK d 0 es.size ep,_,λE Q q=>T9 lo e ex hd q,Lw hh (AAe (Heap.lt_size e)) hd,AAD _ rfl,AAC _ e⟩
theorem Ho(it:ItemsOf (λi v=>∃e,es[i]?=some e/\v=e.key) vs es.size):vs.toList=es.toList.map (·.key):=by
 have h1:=it.1;refine List.ext_getElem (by simp[h1]) λi a b=>?_;have hi:i<vs.size:=by simpa using a
 obtain⟨e,g1,g2⟩:=it.2 i vs[i] (Array.getElem?_eq_getElem hi);have he:es[i]'(by omega)=e:=(Array.getElem?_eq_some_iff.mp g1).2;simp[g2,←he]
end
end Nk
namespace Nk
open PySem PySem.Spec PyProof.Rows L2 Mi
theorem Rx(c:Cs):(csK c).deep<=8:=by
 have h:∀ns:List Int,NK.deeps (ns.map NK.int)=0:=λns=>by
  induction ns with
  |nil=>rfl
  |cons n r ih=>unfold List.map NK.deeps;rw[ih];rfl
 have:(csK c).deep=max 0 (max 0 (max (NK.deeps (c.2.2.map NK.int)+1) 0))+1:=rfl;rw[this,h]
 decide
theorem Lk:∀{ns:List Int} {its:List Value},Vals (ns.map V.int) its->Ats h (ns.map NK.int) its
 |[],_,r=>by cases r;unfold List.map Ats;rfl
 |n::ns,_,r=>by
  cases r with
  |cons e t=>
   obtain⟨tk,rfl⟩:=e;unfold List.map Ats;exact⟨_,_,rfl,by unfold At;exact⟨tk,rfl⟩,Lk t⟩
section
variable{X:Cx}{w4:List (Addr×Obj)}{O:L2.St}{H:Hp}{s:Shared}{Y:Nat->Addr}{k:Nat}
theorem SG(I:Inv X w4 O H s)(i:Is X.kw Y k H (csD c) v)(r:RelV v u):At s.heap (csK c) u:=by
 unfold csD Is at i;obtain⟨p,vs,rfl,h1,h2⟩:=i;cases r;obtain⟨its,rv,⟨o,g1,g2,n,g3⟩,_⟩:=I.tuple h1;unfold Mi.IsL at h2;obtain⟨v1,_,rfl,i1,h2⟩:=h2;unfold Mi.IsL at h2;obtain⟨v2,_,rfl,i2,h2⟩:=h2;unfold Mi.IsL at h2;obtain⟨v3,_,rfl,i3,h2⟩:=h2;unfold Mi.IsL at h2;subst h2;unfold Is at i1 i2 i3;subst i1 i2;obtain⟨p3,vs3,rfl,j1,j2⟩:=i3;have e3:=j2.ints;subst e3;obtain⟨its3,rv3,⟨o3,k1,k2,n3,k3⟩,_⟩:=I.tuple j1;cases rv with
 |cons a1 rv=>
  cases rv with
  |cons a2 rv=>
   cases rv with
   |cons a3 rv=>
    cases rv;obtain⟨t1,rfl⟩:=a1;obtain⟨t2,rfl⟩:=a2;cases a3;unfold csK At;refine⟨p,o,_,n,rfl,g1,g2,g3,?_⟩;unfold Ats;refine⟨_,_,rfl,by unfold At;exact⟨t1,rfl⟩,?_⟩;unfold Ats;refine⟨_,_,rfl,by unfold At;exact⟨t2,rfl⟩,?_⟩;unfold Ats;refine⟨_,_,rfl,?_,by unfold Ats;rfl⟩;unfold At;exact⟨p3,o3,_,n3,rfl,k1,k2,k3,Lk rv3⟩
theorem isC(I:Inv X w4 O H s)(i:Is X.kw Y k H (csD c) (.ref a)):(kind X.prog X.w).is s.heap (csK c) a:=⟨SG I i rfl,Rx c⟩
end
noncomputable def B7(l:List (Cs×Addr×V))(us:List Value):List (NK×Addr×Value):=(l.zip us).map λx=>(csK x.1.1,x.1.2.1,x.2)
theorem Ff(h:l.length=us.length):(B7 l us).map (·.1)=(l.map (·.1)).map csK:=by
 unfold B7;rw[List.map_map,List.map_map];have:(λx:(Cs×Addr×V)×Value=>csK x.1.1)=(λy:Cs×Addr×V=>csK y.1) ∘ Prod.fst:=rfl;show (l.zip us).map (λx=>csK x.1.1)=_;rw[this,←List.map_map,List.map_fst_zip (by omega)];rfl
theorem OY{ks:List Cs}(h:ks.Nodup):(ks.map csK).Nodup:=by
 refine List.Pairwise.map _ ?_ h;intro a b hne e;exact hne (F3 e)
theorem CN(h:l.length=us.length):(atKey (B7 l us) (csK c)).isSome=l.any λy=>decide (y.1=c):=by
 have e:(atKey (B7 l us) (csK c)).isSome=((B7 l us).map (·.1)).any λy=>decide (y=csK c):=by
  unfold atKey;rw[Option.isSome_map,List.any_map];rw[Bool.eq_iff_iff,List.find?_isSome,List.any_eq_true];rfl
 rw[e,Ff h,List.any_map,List.any_map];congr 1
 funext y
 show decide (csK y.1=csK c)=decide (y.1=c);by_cases z:y.1=c
 ·rw[z];simp
 ·rw[AAN z,AAN λq=>z (F3 q)]
theorem Rr(hk:HOk P w H h)(e:H p=some (D6 p l)):∃(us:List Value) (o:Obj) (es:Array DictEntry) (ep:Nat),Vals (l.map (·.2.2)) us/\h.get? p=some o/\o.ExactDict/\o.data=.dict es ep /\
  es.toList=(l.zip us).map (λx=>{ key:=.ref x.1.2.1,hash:=(csK x.1.1).hash,val:=x.2 })/\(l.map (·.1)).Nodup/\l.length<=sizeLine/\(p==sysModules)=false:=(hk p _ e).1
theorem U4 (x:∃(us:List Value) (o:Obj) (es:Array DictEntry) (ep:Nat),Vals (l.map (·.2.2)) us/\h.get? p=some o/\o.ExactDict/\o.data=.dict es ep /\
  es.toList=(l.zip us).map (λx=>{ key:=.ref x.1.2.1,hash:=(csK x.1.1).hash,val:=x.2 })/\(l.map (·.1)).Nodup/\l.length<=sizeLine/\(p==sysModules)=false):ObjOk P w H h p (D6 p l):=by
 refine⟨x,?_,?_⟩
 ·obtain⟨us,o,es,ep,_,h1,_⟩:=x;exact⟨o,h1⟩
 ·rintro h1 h2 ⟨us,o,es,ep,a1,a2,a3⟩ k;exact⟨us,o,es,ep,a1,k o a2,a3⟩
theorem YV{P:Program}{w:World}{h:Heap}{p:Addr}(hl:l.length=us.length)(h1:h.get? p=some o)(h2:o.ExactDict)(h3:o.data=.dict es ep)
  (h4:es.toList=(l.zip us).map (λx=>{ key:=.ref x.1.2.1,hash:=(csK x.1.1).hash,val:=x.2 })) (h5:(l.map (·.1)).Nodup) (hi:∀y∈l,(kind P w).is h (csK y.1) y.2.1):h.DictOfH (kind P w) p (B7 l us):=by
 refine⟨o,es,ep,h1,h2,h3,?_,?_,?_⟩
 ·rw[h4];unfold B7;rw[List.map_map];rfl
 ·intro x hx;unfold B7 at hx;obtain⟨y,hy,rfl⟩:=AAL.mp hx;exact hi y.1 (List.of_mem_zip (a:=y.1) (b:=y.2) hy).1
 ·rw[Ff hl];exact OY h5
end Nk
namespace Mi
open PySem L2 Ht Nk
theorem CVs.keys:∀{l:List (Cs×D)} {r:List (Cs×Addr×V)},CVs K Y k H l r->r.map (·.1)=l.map (·.1)
 |[],_,h=>by cases h;rfl
 |(y,d)::l,_,h=>by
  obtain⟨a,v,r',rfl,_,_,h3⟩:=h;rw[AAW,AAW,CVs.keys h3]
theorem CVs.at:∀{l:List (Cs×D)} {r:List (Cs×Addr×V)},CVs K Y k H l r->∀y∈r,Is K Y k H (csD y.1) (.ref y.2.1)
 |[],_,h,y,hy=>by cases h;cases hy
 |(z,d)::l,_,h,y,hy=>by
  obtain⟨a,v,r',rfl,h1,_,h3⟩:=h;rcases AAI.mp hy with rfl|hy
  ·exact h1
  ·exact CVs.at h3 y hy
theorem CVs.isL:∀{l:List (Cs×D)} {r:List (Cs×Addr×V)},CVs K Y k H l r->IsL K Y k H (l.map λy=>csD y.1) (r.map λy=>.ref y.2.1)
 |[],_,h=>by cases h;exact .nil
 |(z,d)::l,_,h=>by
  obtain⟨a,v,r',rfl,h1,_,h3⟩:=h;exact .cons h1 (CVs.isL h3)
theorem CVs.app(h1:Is K Y k H (csD c) (.ref a))(h2:Is K Y k H d v):∀{l:List (Cs×D)} {r:List (Cs×Addr×V)},CVs K Y k H l r->CVs K Y k H (l++[(c,d)]) (r++[(c,a,v)])
 |[],_,h=>by cases h;exact⟨a,v,[],rfl,h1,h2,rfl⟩
 |(z,e)::l,_,h=>by
  obtain⟨b,w,r',rfl,g1,g2,g3⟩:=h;exact⟨b,w,_,rfl,g1,g2,CVs.app h1 h2 g3⟩
theorem Lo{α β:Type}{l:List (Cs×α)}{r:List (Cs×β)}(h:r.map (·.1)=l.map (·.1))(c:Cs):(r.any λy=>decide (y.1=c))=l.any λy=>decide (y.1=c):=by
 have e1:(r.any λy=>decide (y.1=c))=(r.map (·.1)).any λy=>decide (y=c):=by rw[List.any_map];rfl
 have e2:(l.any λy=>decide (y.1=c))=(l.map (·.1)).any λy=>decide (y=c):=by rw[List.any_map];rfl
 rw[e1,e2,h]
noncomputable def ER:List D->Option (List Int)
 |[]=>some []
 | .int i::r=>(ER r).map (i::·)
 |_::_=>none
theorem Gf:∀{ds:List D} {ns:List Int},ER ds=some ns->ds=ns.map D.int
 |[],ns,e=>by cases e;rfl
 | .int i::r,ns,e=>by
  unfold ER at e;cases h:ER r with
  |none=>rw[h] at e;cases e
  |some m=>rw[h] at e;cases e;rw[Gf h];rfl
 | .non::_,_,e | .bl _::_,_,e | .str _::_,_,e | .ty _::_,_,e | .scr _::_,_,e | .tup _::_,_,e | .lst _::_,_,e | .ref _::_,_,e=>by cases e
noncomputable def Kc:D->Option Cs
 | .tup [.int a,.int b,.tup ds]=>(ER ds).map λns=>(a,b,ns)
 |_=>none
theorem JZ(e:Kc d=some c):d=csD c:=by
 unfold Kc at e;split at e
 ·rename_i a b ds;cases h:ER ds with
  |none=>rw[h] at e;cases e
  |some ns=>rw[h] at e;cases e;rw[Gf h];rfl
 ·cases e
noncomputable def Ie:D->M (Nat×List (Cs×D))
 | .ref n=>λZ=>match Z[n]? with
  |some (.dC l)=>some ((n,l),Z)
  |_=>none
 |_=>BQ
theorem FK(R:RelH K Y Z H)(i:Is K Y Z.length H d v)(e:Ie d Z=some (r,Z')):Z'=Z/\d=.ref r.1/\Z[r.1]?=some (.dC r.2)/\v=.ref (Y r.1)/\∃kvs,H (Y r.1)=some (D6 (Y r.1) kvs)/\CVs K Y Z.length H r.2 kvs:=by
 cases d with
 |ref n=>
  have e:(match Z[n]? with|some (.dC l)=>some ((n,l),Z)|_=>none)=some (r,Z'):=e;split at e
  ·rename_i l hq;cases e;unfold Is at i;obtain⟨u,h1,kvs,rfl,h2⟩:=R.obj n _ hq;exact⟨rfl,rfl,hq,i.2,kvs,h1,h2⟩
  ·cases e
 |_=>cases e
section
variable{X:Cx}{e o i:Expr}{pos pos':Pos}
noncomputable def Up:Sl->M D:=λ_ Z=>some (.ref Z.length,Z++[.dC []])
theorem Qe:PE X (.Dict [] [] pos) (λ_ H Q=>∀p,H p=none->Q (.ref p) (upd H p (D6 p []))):=λw4 s O H Q I h=>
 wpAny_Dict_empty ⟨.ref s.heap.objs.size,_,I.laid (a:=s.heap.objs.size) (o:=D6 s.heap.objs.size []) (t':=s.toks) (λ_ _ q=>AAC _ q) (AAE _)
  (U4 ⟨[],_,#[],0,.nil,AAD _ rfl,⟨rfl,rfl,rfl⟩,rfl,rfl,List.nodup_nil,AAk _,AAf.mpr (Ne.symm (AAe I.big))⟩),rfl,h _ (I.hok.fresh (AAE _))⟩
theorem P9:RE X (.Dict [] [] pos) Up:=RE.wk Qe λO H Q h=>by
 obtain⟨Y,Z,B,d,Z',R,S,e,q⟩:=h;cases e;intro p hp;obtain⟨Y',E1,R1,e0⟩:=R.grown (m:=.dC []) (o:=D6 p []) hp ⟨[],rfl,rfl⟩;exact q Y' _ E1 R1 _ (by unfold Is;exact⟨by simp,by rw[e0]⟩)
theorem K4(hr:Room k X.A):(Nk.kind X.prog X.w).room X.A.in1:=by
 have:=hr.units;show X.A.units+1+8<cLine;omega
theorem La(I:Inv X w4 O H s)(h:H p=some (D6 p l))(hi:∀y∈l,Is X.kw Y k H (csD y.1) (.ref y.2.1)):
  ∃us,l.length=us.length/\Vals (l.map (·.2.2)) us/\s.heap.DictOfH (Nk.kind X.prog X.w) p (B7 l us)/\(l.map (·.1)).Nodup/\l.length<=sizeLine/\(p==sysModules)=false:=by
 obtain⟨us,o,es,ep,h0,h1,h2,h3,h4,h5,h6,h7⟩:=Rr I.hok h;have hl:l.length=us.length:=by have:=h0.length;simpa using this
 exact⟨us,hl,h0,YV hl h1 h2 h3 h4 h5 λy hy=>isC I (hi y hy),h5,h6,h7⟩
noncomputable def Ox(neg:Bool)(y d:D):M D:=bnd (Ie d) λr=>λZ=>(Kc y).map λc=>(.bl (if neg then !(r.2.any λz=>decide (z.1=c)) else r.2.any λz=>decide (z.1=c)),Z)
theorem Qp{k:Nat}(hr:Room k X.A):OpR X (compareOp .NotIn) (rM X.kw (Ox true)):=λw4 s O H x y v u Q I rx ry h=>by
 obtain⟨Y,Z,a,b,d,Z',R,ia,ib,e,q⟩:=h;obtain⟨r,w5,e1,e2⟩:=AE e;obtain⟨hm,_,g1,rfl,kvs,g2,g3⟩:=FK R ib e1;subst hm;cases hc:Kc a with
 |none=>rw[hc] at e2;cases e2
 |some c=>
  rw[hc] at e2;cases e2;cases JZ hc;have ia':=ia;unfold csD Is at ia';obtain⟨pa,_,rfl,_⟩:=ia';cases rx;cases ry;obtain⟨us,hl,_,dd,_,_,lo⟩:=La I g2 g3.at;refine PyProof.Rows.wpAny_notIn_heap (K4 hr) (isC I ia) lo dd ?_;rw[CN hl,Lo g3.keys];exact⟨.bl _,H,I.tok _,rfl,q Y H R.ext0 R _ (ofB _)⟩
noncomputable def HX(mo mi mv:Sl->M D):Sl->M (Fl×Sl):=λB=>bnd (mv B) λv=>bnd (mo B) λx=>bnd (mi B) λy=>bnd (Ie x) λr=>λZ=>match Kc y with
 |some c=>if r.2.length<sizeLine/\(r.2.any λz=>decide (z.1=c))=false then some ((.next,B),Z.set r.1 (.dC (r.2++[(c,v)]))) else none
 |none=>none
noncomputable def XS(td ty tv:TE)(K:KW):TS:=λDn O H=>tv O H λv H1=>td O H1 λx H2=>ty O H2 λy H3=>∃p l c a Y k,x=.ref p/\y=.ref a/\H3 p=some (D6 p l)/\(∀z∈l,Is K Y k H3 (csD z.1) (.ref z.2.1))/\Is K Y k H3 (csD c) (.ref a)/\l.length<sizeLine/\(l.any λz=>decide (z.1=c))=false/\Dn.nx O (upd H3 p (D6 p (l++[(c,a,v)])))
theorem Tb(hr:Room k0 X.A)(ho:PE X o td)(hi:PE X i ty)(hv:PE X value tv)(hs:swapsWith value (some (.Subscript o i pos')) pos.line X.env=pure false):
  PS X (.Assign [.Subscript o i pos'] value pos) (XS td ty tv X.kw):=by
 intro w4 s O H D I h;refine wpAny_Assign_Subscript (thn (hv w4 s O H _ I h) λr s1 ⟨v,H1,I1,rv,q1⟩=>thn (ho w4 s1 O H1 _ I1 q1) λu s2 ⟨x,H2,I2,rx,q2⟩=>thn (hi w4 s2 O H2 _ I2 q2) λiv s3 zq=>?_) hs;obtain⟨y,H3,I3,ry,p,l,c,a,Y,k,ex,ey,e,hl,hc,hz,hn,q3⟩:=zq;subst ex ey;cases rx;cases ry;obtain⟨us,hlen,hvs,dd,nd,hs,lo⟩:=La I3 e hl;have hx:(B7 l us).length=l.length:=by unfold B7;rw[AAF,List.length_zip];omega
 have no:atKey (B7 l us) (csK c)=none:=by
  have:=CN (c:=c) hlen;rw[hn] at this;cases z:atKey (B7 l us) (csK c) with
  |none=>rfl
  |some _=>rw[z] at this;cases this
 refine wpAny_setItem_heap (hsz:=by omega) (K4 hr) (isC I3 hc) dd λh' dd' sb=>⟨O,_,?_,q3⟩;rw[storedH_new no] at dd';obtain⟨o',es',ep',d1,d2,d3,d4,_,_⟩:=dd';refine FH I3 (by rw[e];exact True.intro) sb ⟨o',d1⟩ (U4 ⟨us++[r],o',es',ep',?_,d1,d2,d3,?_,?_,?_,lo⟩)
 ·rw[AAX];exact hvs.append (.cons rv .nil)
 ·rw[d4,List.zip_append hlen,AAX];unfold B7;rw[AAX,List.map_map];rfl
 ·rw[AAX];refine List.nodup_append.mpr ⟨nd,by simp,?_⟩;intro z hz' w hw;have hw':w=c:=by simpa using hw
  intro hzc;obtain⟨t,ht,et⟩:=AAL.mp hz';have et':t.1=c:=et.trans (hzc.trans hw');have:(l.any λz=>decide (z.1=c))=true:=List.any_eq_true.mpr ⟨t,ht,by simp[et']⟩;rw[hn] at this;cases this
 ·rw[AAG];simp;omega
theorem NB{value:Expr}{k:Nat}(hr:Room k X.A)(ho:RE X o mo)(hi:RE X i mi)(hv:RE X value mv)(hs:swapsWith value (some (.Subscript o i pos')) pos.line X.env=pure false:=by rfl):RS X (.Assign [.Subscript o i pos'] value pos) (HX mo mi mv):=RS.wk (Tb hr ho.pe hi.pe hv.pe hs) λDn O H h=>by
 obtain⟨Y,Z,B,f,x8,Z',R,S,e,q⟩:=h;obtain⟨v,w5,e1,ee1⟩:=AE e;obtain⟨x,w6,e2,ee2⟩:=AE ee1;obtain⟨y,x6,e3,ee3⟩:=AE ee2;obtain⟨r,y9,e4,ee4⟩:=AE ee3;refine⟨Y,Z,B,v,w5,R,S,e1,λx3 H1 E1 R1 v1 i1=>⟨x3,w5,B,x,w6,R1,S.ext E1,e2,λx4 H2 E2 R2 v2 i2=>⟨x4,w6,B,y,x6,R2,S.ext (E1.trans E2),e3,λx9 H3 E3 R3 v3 i3=>?_⟩⟩⟩;obtain⟨hm,hx,g1,hv2,kvs,g2,g3⟩:=FK R3 (i2.ext E3) e4;subst hm;have E13:=(E1.trans E2).trans E3;cases hk:Kc y with
 |none=>rw[hk] at ee4;cases ee4
 |some c=>
  rw[hk] at ee4;have ee4:(if r.2.length<sizeLine/\(r.2.any λz=>decide (z.1=c))=false then some ((Fl.next,B),List.set y9 r.1 (MO.dC (r.2++[(c,v)]))) else none)=some ((f,x8),Z'):=ee4;split at ee4
  ·rename_i hl;cases ee4;cases JZ hk;have i3':=i3;unfold csD Is at i3';obtain⟨a,_,rfl,_⟩:=i3';have hlt:r.1<List.length y9:=(AAT.mp g1).1;have hkl:kvs.length=r.2.length:=by have:=congrArg List.length g3.keys;simpa using this
   obtain⟨E4,R4⟩:=R3.changed (m:=.dC (r.2++[(c,v)])) (o:=D6 (x9 r.1) (kvs++[(c,a,v1)])) hlt ⟨_,rfl,CVs.app i3 (i1.ext (E2.trans E3)) g3⟩;exact⟨_,kvs,c,a,x9,_,hv2,rfl,g2,g3.at,i3,by omega,by rw[Lo g3.keys];exact hl.2,q x9 _ (E13.trans E4) R4 O (S.ext (E13.trans E4))⟩
  ·cases ee4
theorem Nx{l:List (Cs×Addr×V)}{es:Array DictEntry}(hl:l.length=us.length)(h4:es.toList=(l.zip us).map (λx=>{ key:=.ref x.1.2.1,hash:=(csK x.1.1).hash,val:=x.2 })):es.toList.map (·.key)=l.map λy=>Value.ref y.2.1:=by
 rw[h4,List.map_map];have:((λx:DictEntry=>x.key) ∘ λx:(Cs×Addr×V)×Value=>({ key:=.ref x.1.2.1,hash:=(csK x.1.1).hash,val:=x.2 }:DictEntry))=(λy:Cs×Addr×V=>Value.ref y.2.1) ∘ Prod.fst:=rfl;rw[this,←List.map_map,List.map_fst_zip (by omega)]
theorem Ij:∀l:List (Cs×Addr×V),Vals (l.map λy=>V.ref y.2.1) (l.map λy=>Value.ref y.2.1)
 |[]=>.nil
 |y::r=>.cons rfl (Ij r)
theorem Ma(hc:X.calm=true):CU X (.type "list") (λxs H Q=>∃p l,xs=[.ref p]/\H p=some (D6 p l)/\∀q,H q=none->Q (.ref q) (upd H q (.lst (l.map λy=>.ref y.2.1)))):=by
 intro w4 s O H xs us Q I r h;obtain⟨p,l,rfl,hp,q⟩:=h;obtain⟨u,rfl,ru⟩:=Eb r;cases ru;obtain⟨us,o,es,ep,h0,h1,h2,h3,h4,h5,h6,h7⟩:=Rr I.hok hp;have hl:l.length=us.length:=by have:=h0.length;simpa using this
 have hsz:es.size=l.length:=by rw[←Array.length_toList,h4,AAF,List.length_zip];omega
 refine PySem.W.kdl_call (Kp h7 h2 h3) (I.ok.hd hc) h1 (by omega) λh' tk acc c kp e it=>?_;have ek:=(Ho it).trans (Nx hl h4);refine⟨.ref s.heap.objs.size,_,I.laid (t':=tk) kp (AAE _) (show ObjOk X.prog X.w _ h' _ (.lst (l.map λy=>.ref y.2.1)) from ⟨by simpa using h6,acc.toList,c,?_,by rw[Array.toArray_toList];exact e⟩),rfl,q _ (I.hok.fresh (AAE _))⟩;rw[ek];exact Ij l
noncomputable def MK:List D->M D
 |[d]=>bnd (Ie d) λr=>λZ=>some (.ref Z.length,Z++[.lst (r.2.map λy=>csD y.1)])
 |_=>BQ
theorem UM(hc:X.calm=true):CU X (.type "list") (rMA X.kw MK):=λw4 s O H xs us Q I r h=>by
 obtain⟨Y,Z,as,d,Z',R,ia,e,q⟩:=h;unfold MK at e;split at e
 ·obtain⟨rr,w5,e1,e2⟩:=AE e;obtain⟨v,rfl,i1⟩:=Ew ia;obtain⟨hm,_,g1,rfl,kvs,g2,g3⟩:=FK R i1 e1;subst hm;cases e2;refine Ma hc w4 s O H _ us Q I r ⟨_,kvs,rfl,g2,λp hp=>?_⟩;obtain⟨Y',E1,R1,e0⟩:=R.grown (m:=.lst (rr.2.map λy=>csD y.1)) hp ⟨_,rfl,g3.isL⟩;exact q Y' _ E1 R1 _ (by unfold Is;exact⟨by simp,by rw[e0]⟩)
 ·cases e
end
end Mi
namespace Nk
open PySem PySem.Spec PyProof.Rows PySem.SeqAt
noncomputable def Oi(x:Cs):List Cs->List Cs
 |[]=>[x]
 |y::r=>if cLt x y=true then x::y::r else y::Oi x r
noncomputable def Gp:List Cs->List Cs
 |[]=>[]
 |x::r=>Oi x (Gp r)
theorem GL(x:Cs):∀l,(Oi x l).Perm (x::l)
 |[]=>List.Perm.refl _
 |y::r=>by
  unfold Oi;split
  ·exact List.Perm.refl _
  ·exact((GL x r).cons y).trans (List.Perm.swap x y r)
theorem DR:∀l,(Gp l).Perm l
 |[]=>List.Perm.refl _
 |x::r=>(GL x _).trans ((DR r).cons x)
theorem SA(h:cLt a b=true)(g:cLt b c=true):cLt a c=true:=ML h g
theorem UO(a:Cs):cLt a a=false:=G5 _
theorem UN(h:a≠b):cLt a b=true∨cLt b a=true:=J9 λz=>h (LU z)
theorem Nj(x:Cs):∀{l:List Cs},(∀y∈l,y≠x)->l.Pairwise (λx y=>cLt x y=true)->(Oi x l).Pairwise λx y=>cLt x y=true
 |[],_,_=>List.pairwise_singleton _ _
 |y::r,hx,h=>by
  obtain⟨h1,h2⟩:=AAx.mp h;unfold Oi;split
  ·rename_i hl;exact AAx.mpr ⟨λz hz=>(AAI.mp hz).elim (λe=>e ▸ hl) λhz=>SA hl (h1 z hz),h⟩
  ·rename_i hl;refine AAx.mpr ⟨λz hz=>?_,Nj x (λz hz=>hx z (AAQ _ hz)) h2⟩;rcases AAI.mp ((GL x r).mem_iff.mp hz) with rfl|hz
   ·exact(UN (hx y AAP)).resolve_right hl
   ·exact h1 z hz
theorem Ji:∀{l:List Cs},l.Nodup->(Gp l).Pairwise λx y=>cLt x y=true
 |[],_=>List.Pairwise.nil
 |x::r,h=>by
  obtain⟨h1,h2⟩:=List.nodup_cons.mp h;exact Nj x (λy hy e=>h1 (by rw[←e];exact(DR r).mem_iff.mp hy)) (Ji h2)
theorem Pd:∀{xs ys:List Cs},xs.Pairwise (λx y=>cLt x y=true)->ys.Pairwise (λx y=>cLt x y=true)->xs.Perm ys->xs=ys
 |[],ys,_,_,p=>by cases p.symm.eq_nil;rfl
 |x::xs,[],_,_,p=>by cases p.eq_nil
 |x::xs,y::ys,hx,hy,p=>by
  obtain⟨x1,x2⟩:=AAx.mp hx;obtain⟨y1,y2⟩:=AAx.mp hy;have e:x=y:=by
   rcases AAI.mp (p.mem_iff.mp AAP) with e|e
   ·exact e
   ·rcases AAI.mp (p.symm.mem_iff.mp AAP) with e' | e'
    ·exact e'.symm
    ·have:=SA (y1 x e) (x1 y e');rw[UO] at this;cases this
  subst e;rw[Pd x2 y2 (List.Perm.cons_inv p)]
theorem S7(nd:l.Nodup)(p:ks.Perm l)(u:ks.Pairwise λx y=>cLt x y=true):ks=Gp l:=Pd u (Ji nd) (p.trans (DR l).symm)
end Nk
namespace Mi
open PySem L2 Ht Nk
section
variable{X:Cx}{e:Expr}
theorem Lj(I:Inv X w4 O H s):∀{l:List (Cs×Addr×V)},(∀y∈l,Is X.kw Y k H (csD y.1) (.ref y.2.1))->Ats s.heap ((l.map (·.1)).map csK) (l.map λy=>Value.ref y.2.1)
 |[],_=>by show Ats s.heap [] [];unfold Ats;rfl
 |y::l,h=>by
  show Ats s.heap (csK y.1::(l.map (·.1)).map csK) (Value.ref y.2.1::l.map λy=>Value.ref y.2.1);unfold Ats;exact⟨_,_,rfl,SG I (h y AAP) rfl,Lj I λz hz=>h z (AAQ _ hz)⟩
theorem Qi{w4:List (Addr×Obj)}{O:St}{H:Hp}{s:Shared}{h1:Heap}(I:Inv X w4 O H s)(kp:∀b o,s.heap.get? b=some o->h1.get? b=some o){l:List (Cs×Addr×V)}(hi:∀y∈l,Is X.kw Y k H (csD y.1) (.ref y.2.1)):
  ∀{out:List Value} {ks:List Cs},Ats h1 (ks.map csK) out->(∀v∈out,v∈l.map λy=>Value.ref y.2.1)->∃vs,Vals vs out/\IsL X.kw Y k H (ks.map csD) vs
 |_,[],a,_=>by
  unfold List.map Ats at a;subst a;exact⟨[],.nil,.nil⟩
 |_,c::ks,a,m=>by
  unfold List.map Ats at a;obtain⟨v,out',rfl,a1,a2⟩:=a;obtain⟨vs,r,i⟩:=Qi I kp hi a2 λv hv=>m v (AAQ _ hv);obtain⟨y,hy,rfl⟩:=AAL.mp (m v AAP);have a3:=(SG I (hi y hy) rfl).kept (h':=h1) λb o items n e _ _=>kp b o e;have ec:=F3 (At.inj a3 a1);exact⟨.ref y.2.1::vs,.cons rfl r,.cons (by rw[←ec];exact hi y hy) i⟩
noncomputable def Yy:List D->M D
 |[d]=>bnd (Ie d) λr=>λZ=>if r.2.length<64 then some (.lst ((Gp (r.2.map (·.1))).map csD),Z) else none
 |_=>BQ
noncomputable def Tc:D->List D->M D
 | .ref n,[]=>HH n λds=>(ds[ds.length-1]?).map λd=>(d,ds.dropLast)
 |_,_=>BQ
theorem IsL.dropLast(h:IsL K Y k H ds vs):IsL K Y k H ds.dropLast vs.dropLast:=by
 rw[List.dropLast_eq_take,List.dropLast_eq_take,h.length];exact h.take _
theorem X9:MtR X "list.pop" (rMM X.kw Tc):=λw4 s O H x xs v us Q I rx rs h=>by
 obtain⟨Y,Z,a,as,d,Z',R,ia,ib,e,q⟩:=h;unfold Tc at e;split at e
 ·rename_i n;obtain⟨ds,es,h1,h2,rfl⟩:=GD e;cases hd:ds[ds.length-1]? with
  |none=>rw[hd] at h2;cases h2
  |some d0=>
   rw[hd] at h2;cases h2;unfold IsL at ib;subst ib;unfold Is at ia;obtain⟨_,rfl⟩:=ia;obtain⟨u,g1,vs,rfl,g2⟩:=R.obj n _ h1;obtain⟨w,ew,iw⟩:=g2.get hd;refine WF w4 s O H _ _ v us Q I rx rs ⟨_,vs,w,rfl,rfl,g1,by rw[g2.length];exact ew,?_⟩;exact Jc R h1 g2.dropLast iw q
 ·cases e
noncomputable def Hf(m:Sl->M D):Sl->M Bool:=λB=>bnd (m B) λd=>bnd (BT d) λds=>ret (!ds.isEmpty)
theorem M8(h:RE X e m)(he:∀whole,isTrue e X.env whole=(do let v ←whole;standAt e.pos;holding [v] (truthy v)):=by intro _;rfl):RT X e (Hf m):=RT.wk (QK h.pe he) λO H Q q=>by
 obtain⟨Y,Z,B,b,Z',R,S,e,q⟩:=q;obtain⟨x,w5,e1,ee1⟩:=AE e;obtain⟨ds,w6,e2,ee2⟩:=AE ee1;cases ee2;refine⟨Y,Z,B,x,w5,R,S,e1,λx3 H1 E1 R1 v1 i1=>?_⟩;obtain⟨hm,p,vs,rfl,g1,g2⟩:=DU R1 i1 e2;subst hm;have hl:=g2.length;have he:vs.isEmpty=ds.isEmpty:=by
  cases vs<;>cases ds<;>first|rfl|(simp at hl)
 refine⟨!vs.isEmpty,?_,by rw[he];exact q x3 H1 E1 R1⟩;rcases g1 with g1|g1
 ·exact .inl ⟨vs,g1,rfl⟩
 ·exact .inr (.inl ⟨vs,g1,rfl⟩)
end
end Mi
namespace K16
open PySem L2 Mi
noncomputable def Bd:D:=.int (-1)
noncomputable def BG:D:=.int (-1)
noncomputable def Ez:D:=.int (-2)
noncomputable def Cu:D:=.int (-2)
noncomputable def BI  : Sl->M (Fl×Sl):=
  (AU (Ab (mOp Do (AG BX (AC (mOp AH (AA 0) (mC (.int 4))) AK)) (mC (.int 1))) (AO 1))
  (AU (sIf (AL (mOp AW (mOp AH (AA 0) (mC (.int 0))) (mC (.str "whole")))) (A5 (AG A1 (AC (AG A1 (AC (mOp AH (AA 0) (mC (.int 2))) (AC (mC Bd) (AC (mOp GE (AG A1 (AC (mC Bd) AK)) (AA 1)) AK)))) AK))) Au)
  (A5 (AG A1 (AC (mOp AH (AA 0) (mC (.int 2))) (AC (mC Bd) (AC (mOp GE (AG A1 (AC (mC .non) AK)) (AA 1)) AK)))))))
noncomputable def Av(OR:List D->M D)(LT:List D->M D)(Zg:List D->M D):Sl->M (Fl×Sl):=
  (AU (sIf (AL (mOp AW (mOp AH (AA 0) (mC (.int 0))) (mC (.str "whole")))) (A5 (AG LT (AC (B2 1 [2] (Cy (AA 1)) (AO 0) Dq (AG OR (AC (AA 0) (AC (mC (.int 0)) (AC (AA 1) AK)))) B9) AK))) Au)
  (AU (Ab (B2 1 [0,2] (Cy (mOp AH (AA 1) (mC (.int 2)))) (AO 0) Dq (mIf (AL (mOp (Ej false) (AA 0) (mC .non))) (AA 0) (AG Zg (AC (mOp AH (AA 1) (mC (.int 0))) (AC (mOp AH (AA 1) (mC (.int 1))) (AC (AA 0) (AC (AA 2) AK)))))) B9) (AO 3))
  (A5 (AG A1 (AC (mOp AH (AA 1) (mC (.int 0))) (AC (AA 2) (AC (AG FT (AC (AA 3) AK)) AK)))))))
noncomputable def Ar(Mk:List D->M D)(LT:List D->M D):Sl->M (Fl×Sl):=
  (AU (sIf (AL (mOp AW (mOp AH (AA 0) (mC (.int 0))) (mC (.str "whole")))) (A5 (AG LT (AC (AG Mk (AC (AA 1) (AC (mC (.int 0)) (AC (mC Bd) AK)))) AK))) Au)
  (A5 (AG A1 (AC (mOp AH (AA 1) (mC (.int 1))) (AC (mC Bd) (AC (mOp AH (AA 1) (mC (.int 2))) AK))))))
noncomputable def A6(OR:List D->M D)(LT:List D->M D)(Zg:List D->M D)(LE:List D->M D):Sl->M (Fl×Sl):=
  (AU (sIf (AL (mOp AW (mOp AH (AA 0) (mC (.int 0))) (mC (.str "whole")))) (A5 (AG LT (AC (B2 1 [2] (Cy (AA 1)) (AO 0) Dq (AG OR (AC (AA 0) (AC (mOp Ap (AA 1) (mC (.int 1))) (AC (mC Bd) AK)))) B9) AK))) Au)
  (AU (Ab (AG A1 (AC (mOp AH (AA 1) (mC (.int 0))) AK)) (AO 3))
  (AU (sIf (AL (mOp EM (mOp AH (AA 1) (mC (.int 1))) (mC Bd))) (Ab (AG Zg (AC (mOp AH (AA 0) (mC (.int 0))) (AC (mOp AH (AA 0) (mC (.int 1))) (AC (AA 3) (AC (mOp AH (AA 1) (mC (.int 1))) AK))))) (AO 3)) Au)
  (A5 (AG A1 (AC (mOp AH (AA 1) (mC (.int 0))) (AC (mOp AH (AA 1) (mC (.int 1))) (AC (AG LE (AC (mOp AH (AA 1) (mC (.int 2))) (AC (AA 2) (AC (AA 3) AK)))) AK))))))))
noncomputable def BH(Mk:List D->M D)(LT:List D->M D)(LE:List D->M D):Sl->M (Fl×Sl):=
  (AU (sIf (AL (mOp AW (mOp AH (AA 0) (mC (.int 0))) (mC (.str "whole")))) (AU (Ab (AG Mk (AC (AA 1) (AC (mOp Ap (AA 2) (mC (.int 1))) (AC (AA 3) AK)))) (AO 4))
  (A5 (mIf (Hf (AA 4)) (AG LT (AC (AA 4) AK)) (mC .non)))) Au)
  (AU (sIf (AL (mOp (EN true) (AA 3) (mOp AH (mOp AH (AA 1) (mC (.int 2))) (AA 2)))) (A5 (mC .non)) Au)
  (A5 (AG A1 (AC (mOp AH (AA 1) (mC (.int 0))) (AC (mOp AH (AA 1) (mC (.int 1))) (AC (AG LE (AC (mOp AH (AA 1) (mC (.int 2))) (AC (AA 2) (AC (mC .non) AK)))) AK)))))))
noncomputable def BM  : Sl->M (Fl×Sl):=
  (A5 (mOp Ap (mOp Ap (Er (AA 0) C6 (C0 (AA 1))) (AG A1 (AC (AA 2) AK))) (Er (AA 0) (C0 (mOp Ap (AA 1) (mC (.int 1)))) C6)))
noncomputable def Bq(LE:List D->M D):Sl->M (Fl×Sl):=
  (AU (sIf (AL (mOp AW (AA 1) (mC (.int 0)))) (A5 (AG A1 (AC (mOp AH (AA 0) (mC (.int 0))) (AC (AA 2) (AC (mOp AH (AA 0) (mC (.int 2))) AK))))) Au)
  (A5 (AG A1 (AC (mOp AH (AA 0) (mC (.int 0))) (AC (mOp AH (AA 0) (mC (.int 1))) (AC (AG LE (AC (mOp AH (AA 0) (mC (.int 2))) (AC (mOp Do (AA 1) (mC (.int 1))) (AC (mC Cu) AK)))) AK))))))
noncomputable def Bp(LE:List D->M D):Sl->M (Fl×Sl):=
  (AU (sIf (AL (mOp AW (AA 1) (mC (.int 0)))) (A5 (mIf (AL (mOp AW (mOp AH (AA 0) (mC (.int 1))) (mC Ez))) (AG A1 (AC (mOp AH (AA 0) (mC (.int 0))) (AC (mC Bd) (AC (mOp AH (AA 0) (mC (.int 2))) AK)))) (mC .non))) Au)
  (A5 (mIf (AL (mOp AW (mOp AH (mOp AH (AA 0) (mC (.int 2))) (mOp Do (AA 1) (mC (.int 1)))) (AA 2))) (AG A1 (AC (mOp AH (AA 0) (mC (.int 0))) (AC (mOp AH (AA 0) (mC (.int 1))) (AC (AG LE (AC (mOp AH (AA 0) (mC (.int 2))) (AC (mOp Do (AA 1) (mC (.int 1))) (AC (mC Bd) AK)))) AK)))) (mC .non))))
noncomputable def Ba(Zo:List D->M D):Sl->M (Fl×Sl):=
  (AU (Ab (B2 1 [1,2] (Cy (AA 0)) (AO 0) Dq (AG Zo (AC (AA 0) (AC (AA 1) (AC (AA 2) AK)))) B9) (AO 3))
  (A5 (B2 1 [] (Cy (AA 3)) (AO 0) (AL (mOp (Ej true) (AA 0) (mC .non))) (AA 0) B9)))
noncomputable def C8(Zi:List D->M D):Sl->M (Fl×Sl):=
  (AU (Ab Up (AO 1))
  (AU (FL (Cy (AA 0)) (AO 2) (HX (AA 1) (AA 2) (mC .non)))
  (AU (Ab (AG MK (AC (AA 1) AK)) (AO 3))
  (AU (Jp Fa (Hf (AA 3)) (AU (Ab (Ft Tc (AA 3)) (AO 2))
  (M7 1000 (AG Zi (AC (AA 2) AK)) (Gs [4,5]) (sIf (AL (mOp (Ox true) (AA 5) (AA 1))) (AU (HX (AA 1) (AA 5) (AG A1 (AC (AA 4) (AC (AA 2) AK))))
  (BD (Ak CT (AA 3) (AC (AA 5) AK)))) Au))))
  (A5 (AA 1))))))
noncomputable def BP(LE:List D->M D):Sl->M (Fl×Sl):=
  (AU (Ab (AG Dz AK) (AO 1))
  (AU (sIf (AL (mOp QG (mOp AH (AA 0) (mC (.int 1))) (mC (.int 0)))) (BD (Ak CT (AA 1) (AC (AG A1 (AC (mC (.int 0)) (AC (AG A1 (AC (mOp AH (AA 0) (mC (.int 1))) (AC (mC Ez) (AC (mOp AH (AA 0) (mC (.int 2))) AK)))) AK))) AK))) Au)
  (AU (FL (Q1 (AC (mOp AH (AA 0) (mC (.int 2))) AK)) (Gs [2,3]) (sIf (AL (mOp AW (AA 3) (mC Cu))) (BD (Ak CT (AA 1) (AC (AG A1 (AC (mOp Ap (AA 2) (mC (.int 1))) (AC (AG A1 (AC (mOp AH (AA 0) (mC (.int 0))) (AC (mOp AH (AA 0) (mC (.int 1))) (AC (AG LE (AC (mOp AH (AA 0) (mC (.int 2))) (AC (AA 2) (AC (mOp AH (AA 0) (mC (.int 0))) AK)))) AK)))) AK))) AK))) Au))
  (A5 (AA 1)))))
noncomputable def Bm  : Sl->M (Fl×Sl):=
  (A5 (Et (AG D2 (AC (AA 0) (AC (mC (.ty "int")) AK))) (Et (LK (AG D2 (AC (AA 0) (AC (mC (.ty "bool")) AK)))) (Es IW IW (AA 1) (AA 0) (AA 2)))))
noncomputable def Bn  : Sl->M (Fl×Sl):=
  (A5 (Et (AG D2 (AC (AA 0) (AC (mC (.ty "tuple")) AK))) (Es IW IW (AA 1) (AG BX (AC (AA 0) AK)) (AA 2))))
noncomputable def CF(Zl:List D->M D)(Zu:List D->M D)(Zk:List D->M D):Sl->M (Fl×Sl):=
  (AU (Ab (AG Zl (AC (AA 0) AK)) (AO 2))
  (AU (FL (Cy (AG Zu (AC (AA 0) (AC (AA 1) AK)))) (AO 3) (AU (Ab (AG Zk (AC (AA 0) (AC (AA 2) (AC (AA 3) AK)))) (AO 2))
  (sIf (AL (mOp (Ej false) (AA 2) (mC .non))) (A5 (mC (.bl false))) Au)))
  (A5 (mC (.bl true)))))
noncomputable def Af(Zj:List D->M D)(Zh:List D->M D)(Zm:List D->M D)(Zp:List D->M D):Sl->M (Fl×Sl):=
  (AU (Ab (mOp AW (mOp AH (AA 2) (mC (.int 0))) (mC (.str "begin"))) (AO 3))
  (AU (sIf (AL (mOp AW (mOp AH (AA 2) (mC (.int 1))) (mC (.int 0)))) (A5 (mIf (AL (AA 3)) (AG Zj (AC (AA 0) (AC (AA 1) (AC (mOp AH (AA 2) (mC (.int 2))) AK)))) (AG Zh (AC (AA 0) (AC (AA 1) AK))))) Au)
  (AU (Ab (mOp Do (mOp AH (AA 2) (mC (.int 1))) (mC (.int 1))) (AO 4))
  (A5 (mIf (AL (AA 3)) (AG Zm (AC (AA 0) (AC (AA 1) (AC (AA 4) AK)))) (AG Zp (AC (AA 0) (AC (AA 1) (AC (AA 4) (AC (mOp AH (AA 2) (mC (.int 2))) AK))))))))))
noncomputable def CK(ST:List D->M D):Sl->M (Fl×Sl):=
  (AU (sIf (Gq (AL (AG D2 (AC (AA 1) (AC (mC (.ty "list")) AK))))) DW Au)
  (AU (Ab (B2 1 [] (Cy (mOp AH (AA 0) (mC (.int 4)))) (AO 0) Dq (mOp AH (AA 0) (mC (.int 0))) B9) (AO 2))
  (AU (Ab Tw (AO 3))
  (AU (Ab (AG Dz AK) (AO 4))
  (AU (Ab (mC (.int 0)) (AO 5))
  (AU (FL (NW (AC (AA 1) AK)) (Gs [6,7]) (AU (sIf (Gq (AL (AG ST (AC (AA 7) (AC (AA 2) (AC (mOp AH (AA 0) (mC (.int 1))) AK)))))) DW Au)
  (AU (Ab (Ak Hw (AA 2) (AC (mOp AH (AA 7) (mC (.int 1))) AK)) (AO 8))
  (AU (sIf (AL (mOp AW (mOp AW (mOp AH (AA 7) (mC (.int 0))) (mC (.str "begin"))) (mOp (LY false) (AA 8) (AA 3)))) DW Au)
  (AU (sIf (AL (mOp AW (mOp AH (AA 7) (mC (.int 0))) (mC (.str "begin")))) (AU (FQ (AA 3) (AA 8) (AA 5))
  (Ab (mOp Ju (AA 5) (mC (.int 1))) (AO 5))) Au)
  (AU (BD (Ak CT (AA 4) (AC (AG A1 (AC (mOp AH (AA 7) (mC (.int 0))) (AC (AA 8) (AC (mIf (AL (mOp AW (AG BX (AC (AA 7) AK)) (mC (.int 3)))) (mOp AH (AA 7) (mC (.int 2))) (mC BG)) (AC (mOp D7 (AA 3) (AA 8)) AK))))) AK)))
  (sIf (AL (mOp AW (mOp AH (AA 7) (mC (.int 0))) (mC (.str "end")))) (BD (Iz (AA 3) (AA 8))) Au)))))))
  (A5 (AA 4))))))))
noncomputable def Bo(Ze:List D->M D)(Zf:List D->M D):Sl->M (Fl×Sl):=
  (AU (sIf (mOr (Gq (AL (AG Ze (AC (AA 0) (AC (mC (.int 2)) (AC (mC (.int 3)) AK)))))) (mOr (AL (mOp (EN true) (mOp AH (AA 0) (mC (.int 0))) (AG A1 (AC (mC (.str "begin")) (AC (mC (.str "end")) AK))))) (AL (mOp (EN true) (mOp AH (AA 0) (mC (.int 1))) (AA 1))))) (A5 (mC (.bl false))) Au)
  (AU (sIf (AL (mOp AW (mOp AW (mOp AH (AA 0) (mC (.int 0))) (mC (.str "begin"))) (mOp AW (mOp AH (AA 0) (mC (.int 1))) (mOp AH (AA 1) (mC (.int 0)))))) (A5 (Et (mOp AW (AG BX (AC (AA 0) AK)) (mC (.int 3))) (AG Zf (AC (mOp AH (AA 0) (mC (.int 2))) (AC (mC (.int 0)) (AC (mOp Do (AA 2) (mC (.int 1))) AK)))))) Au)
  (A5 (mOp AW (AG BX (AC (AA 0) AK)) (mC (.int 2))))))
noncomputable def Aj:List D->M D:=A3 .drop 2 1 (BI)
noncomputable def BL:List D->M D:=A3 .drop 3 3 (Bn)
noncomputable def BR:List D->M D:=A3 .drop 3 3 (Bm)
noncomputable def BE:List D->M D:=A3 .drop 3 3 (Bo BL BR)
noncomputable def BF:List D->M D:=A3 .frz 9 2 (CK BE)
noncomputable def Aa:List D->M D:=A3 .drop 3 3 (BM)
noncomputable def BA:List D->M D:=A3 .drop 3 3 (Bq Aa)
noncomputable def Aw:List D->M D:=A3 .all 4 1 (BP Aa)
noncomputable def Bj:List D->M D:=A3 .all 6 1 (C8 Aw)
noncomputable def Ay:List D->M D:=A3 .drop 3 3 (Bp Aa)
noncomputable def A7:List D->M D:=A3 .drop 4 3 (Ba Ay)
end K16
namespace Tm
open PySem PySem.W PyProof.Rows
noncomputable def gal:Bool->Keyed->Array Keyed->Nat->Nat->Nat->StateT SortSt Sem (Option Nat):=sortPriv% PySem.Builtin.gallop
structure Cp(prog:Program)(w:World)(A:Around)(E:Value->Shared->Prop)(s:Shared)(kd:SortKind)(R:Keyed->Keyed->Bool)(S:Keyed->Prop):Prop where
 lt:∀{st:SortSt} {x y:Keyed} {Q:Option Bool->SortSt->Prop},kindOf st=kd->S x->S y->Q (some (R x y)) st->wpS (model prog w) A E s (lt' x y) Q st
 tot:∀{x y:Keyed},S x->S y->x≠y->R x y=false->R y x=true
 tr:∀{x y z:Keyed},R x y=true->R y z=true->R x z=true
 irr:∀x:Keyed,R x x=false
section
variable{prog:Program}{w:World}{A:Around}{E:Value->Shared->Prop}{s:Shared}{kd:SortKind}{R:Keyed->Keyed->Bool}{S:Keyed->Prop}{st:SortSt}
theorem Cp.asy(C:Cp prog w A E s kd R S)(h:R x y=true):R y x=false:=by
 cases e:R y x with
 |false=>rfl
 |true=>have:=C.tr h e;rw[C.irr] at this;cases this
theorem el(h:arr[i]?=some x)(q:Q x st):wpS (model prog w) A E s (elem' arr i) Q st:=by
 rw[elem'_eq,h];exact wpS_pure q
theorem byd(C:Cp prog w A E s kd R S)(hk:kindOf st=kd)(h:arr[j]?=some x)(sx:S x)(sk:S key)(ne:x≠key)(q:Q (some (R x key)) st):
  wpS (model prog w) A E s (elem' arr j >>= λx=>if left=true then lt' x key else lt' key x >>= λr=>pure (r.map λx=>!x)) Q st:=by
 refine wpS_bind (el h ?_);cases left with
 |true=>exact C.lt hk sx sk q
 |false=>
  refine wpS_bind (C.lt hk sk sx (wpS_pure ?_));have:(some (R key x)).map (λx=>!x)=some (R x key):=by
   cases e:R key x with
   |true=>rw[C.asy e];rfl
   |false=>rw[C.tot sk sx (Ne.symm ne) e];rfl
  rw[this];exact q
theorem We(C:Cp prog w A E s kd R S)(hk:kindOf st=kd){left:Bool}{key:Keyed}{arr:Array Keyed}{P:Nat->Bool}{Q:Option Nat->SortSt->Prop}(hP:∀i,i<n->∃x,arr[base+i]?=some x/\S x/\x≠key/\R x key=P i)(sk:S key)(mo:∀i j,i<=j->j<n->P j=true->P i=true)(hh:hint<n)
  (q:∀k,k<=n->(∀i,i<n->(P i=true↔i<k))->Q (some k) st):wpS (model prog w) A E s (gal left key arr base n hint) Q st:=by
 have by':∀{i:Nat} {Q:Option Bool->SortSt->Prop},i<n->Q (some (P i)) st->wpS (model prog w) A E s (elem' arr (base+i) >>= λx=>if left=true then lt' x key else lt' key x >>= λr=>pure (r.map λx=>!x)) Q st:=λ{i Q} hi z=>by
  obtain⟨x,e,sx,ne,r⟩:=hP i hi;exact byd C hk e sx sk ne (by rw[r];exact z)
 have nf:∀i j,i<=j->j<n->P i=false->P j=false:=λi j h1 h2 h3=>by
  cases e:P j with
  |false=>rfl
  |true=>rw[mo i j h1 h2 e] at h3;cases h3
 refine wpS_bind (by' hh ?_);cases ph:P hint with
 |true=>
  dsimp only;rw[if_pos rfl];refine wpS_bind (wpS_mono (wpS_forRange (I:=λi c st'=>st'=st/\∃l o:Nat,c=(none,l,o)/\l<o/\i<o/\l<n-hint/\P (hint+l)=true) (Q:=λc st'=>st'=st/\∃l o:Nat,c=(none,l,o)/\l<o/\l<n-hint/\P (hint+l)=true/\(n-hint<=o∨P (hint+o)=false)) ?_ ?_ ⟨rfl,0,1,rfl,by omega,by omega,by omega,ph⟩) ?_)
  ·rintro i c st' _ hi ⟨rfl,l,o,rfl,h1,h2,h3,h4⟩;dsimp only;by_cases ho:o ≥ n-hint
   ·rw[if_pos ho];exact wpS_pure ⟨rfl,l,o,rfl,h1,h3,h4,.inl ho⟩
   ·rw[if_neg ho];refine wpS_bind (by' (by omega) ?_);cases e:P (hint+o) with
    |true=>exact wpS_pure ⟨rfl,o,2 * o+1,rfl,by omega,by omega,by omega,e⟩
    |false=>exact wpS_pure ⟨rfl,l,o,rfl,h1,h3,h4,.inr e⟩
  ·rintro c st' ⟨rfl,l,o,rfl,h1,h2,h3,h4⟩;exact⟨rfl,l,o,rfl,h1,h3,h4,.inl (by omega)⟩
  ·rintro c st' ⟨rfl,l,o,rfl,h1,h3,h4,h5⟩;dsimp only;have a1:∀i,i<hint+l+1->P i=true:=λi hi=>mo i (hint+l) (by omega) (by omega) h4;have a2:∀i,hint+min o (n-hint)<=i->i<n->P i=false:=λi hi hn=>by
    rcases h5 with z|z
    ·omega
    ·exact nf (hint+o) i (by omega) hn z
   have a3:hint+l+1<=hint+min o (n-hint):=by omega
   have a4:hint+min o (n-hint)<=n:=by omega
   generalize hint+l+1=lo at a1 a3;generalize hint+min o (n-hint)=hi at a2 a3 a4;refine wpS_bind (wpS_mono (wpS_forRange (I:=λi c st''=>st''=st'/\∃l h:Nat,c=(none,l,h)/\l<=h/\h<=n/\h-l<=n-i/\(∀i,i<l->P i=true)/\∀i,h<=i->i<n->P i=false) (Q:=λc st''=>st''=st'/\∃h:Nat,c=(none,h,h)/\h<=n/\(∀i,i<h->P i=true)/\∀i,h<=i->i<n->P i=false) ?_ ?_ ⟨rfl,lo,hi,rfl,a3,a4,by omega,a1,a2⟩) ?_)
   ·rintro i c st'' _ hi ⟨rfl,l,h,rfl,b1,b2,b3,b4,b5⟩;dsimp only;by_cases ho:l ≥ h
    ·rw[if_pos ho];have:l=h:=by omega
     subst this;exact wpS_pure ⟨rfl,l,rfl,b2,b4,b5⟩
    ·rw[if_neg ho];refine wpS_bind (by' (i:=l+(h-l) / 2) (by omega) ?_);cases e:P (l+(h-l) / 2) with
     |true=>exact wpS_pure ⟨rfl,_,h,rfl,by omega,b2,by omega,λi hi=>mo i _ (by omega) (by omega) e,b5⟩
     |false=>exact wpS_pure ⟨rfl,l,_,rfl,by omega,by omega,by omega,b4,λi hi hn=>nf _ i hi hn e⟩
   ·rintro c st'' ⟨rfl,l,h,rfl,b1,b2,b3,b4,b5⟩;have:l=h:=by omega
    subst this;exact⟨rfl,l,rfl,b2,b4,b5⟩
   ·rintro c st'' ⟨rfl,h,rfl,b2,b4,b5⟩;exact wpS_pure (q h b2 λi hi=>⟨λz=>Nat.lt_of_not_le λy=>(by rw[b5 i y hi] at z;cases z),b4 i⟩)
 |false=>
  dsimp only;rw[if_neg (by decide)];refine wpS_bind (wpS_mono (wpS_forRange (I:=λi c st'=>st'=st/\∃l o:Nat,c=(none,l,o)/\l<o/\i<o/\l<=hint/\P (hint-l)=false) (Q:=λc st'=>st'=st/\∃l o:Nat,c=(none,l,o)/\l<o/\l<=hint/\P (hint-l)=false/\(hint+1<=o∨P (hint-o)=true)) ?_ ?_ ⟨rfl,0,1,rfl,by omega,by omega,by omega,ph⟩) ?_)
  ·rintro i c st' _ hi ⟨rfl,l,o,rfl,h1,h2,h3,h4⟩;dsimp only;by_cases ho:o ≥ hint+1
   ·rw[if_pos ho];exact wpS_pure ⟨rfl,l,o,rfl,h1,h3,h4,.inl ho⟩
   ·rw[if_neg ho];refine wpS_bind (by' (by omega) ?_);cases e:P (hint-o) with
    |true=>exact wpS_pure ⟨rfl,l,o,rfl,h1,h3,h4,.inr e⟩
    |false=>exact wpS_pure ⟨rfl,o,2 * o+1,rfl,by omega,by omega,by omega,e⟩
  ·rintro c st' ⟨rfl,l,o,rfl,h1,h2,h3,h4⟩;exact⟨rfl,l,o,rfl,h1,h3,h4,.inl (by omega)⟩
  ·rintro c st' ⟨rfl,l,o,rfl,h1,h3,h4,h5⟩;dsimp only;have a1:∀i,i<hint+1-min o (hint+1)->P i=true:=λi hi=>by
    rcases h5 with z|z
    ·omega
    ·exact mo i (hint-o) (by omega) (by omega) z
   have a2:∀i,hint-l<=i->i<n->P i=false:=λi hi hn=>nf (hint-l) i hi hn h4;have a3:hint+1-min o (hint+1)<=hint-l:=by omega
   have a4:hint-l<=n:=by omega
   generalize hint+1-min o (hint+1)=lo at a1 a3;generalize hint-l=hi at a2 a3 a4;refine wpS_bind (wpS_mono (wpS_forRange (I:=λi c st''=>st''=st'/\∃l h:Nat,c=(none,l,h)/\l<=h/\h<=n/\h-l<=n-i/\(∀i,i<l->P i=true)/\∀i,h<=i->i<n->P i=false) (Q:=λc st''=>st''=st'/\∃h:Nat,c=(none,h,h)/\h<=n/\(∀i,i<h->P i=true)/\∀i,h<=i->i<n->P i=false) ?_ ?_ ⟨rfl,lo,hi,rfl,a3,a4,by omega,a1,a2⟩) ?_)
   ·rintro i c st'' _ hi ⟨rfl,l,h,rfl,b1,b2,b3,b4,b5⟩;dsimp only;by_cases ho:l ≥ h
    ·rw[if_pos ho];have:l=h:=by omega
     subst this;exact wpS_pure ⟨rfl,l,rfl,b2,b4,b5⟩
    ·rw[if_neg ho];refine wpS_bind (by' (i:=l+(h-l) / 2) (by omega) ?_);cases e:P (l+(h-l) / 2) with
     |true=>exact wpS_pure ⟨rfl,_,h,rfl,by omega,b2,by omega,λi hi=>mo i _ (by omega) (by omega) e,b5⟩
     |false=>exact wpS_pure ⟨rfl,l,_,rfl,by omega,by omega,by omega,b4,λi hi hn=>nf _ i hi hn e⟩
   ·rintro c st'' ⟨rfl,l,h,rfl,b1,b2,b3,b4,b5⟩;have:l=h:=by omega
    subst this;exact⟨rfl,l,rfl,b2,b4,b5⟩
   ·rintro c st'' ⟨rfl,h,rfl,b2,b4,b5⟩;exact wpS_pure (q h b2 λi hi=>⟨λz=>Nat.lt_of_not_le λy=>(by rw[b5 i y hi] at z;cases z),b4 i⟩)
end
section
variable{α:Type}{R:α->α->Prop}{T o x y z:List α}
structure J(R:α->α->Prop)(T o x y:List α):Prop where
 po:o.Pairwise R
 px:x.Pairwise R
 py:y.Pairwise R
 ox:∀u∈o,∀v∈x,R u v
 oy:∀u∈o,∀v∈y,R u v
 pm:(o++x++y).Perm T
theorem J.swap(h:J R T o x y):J R T o y x:=⟨h.po,h.py,h.px,h.oy,h.ox,(by rw[AAm];exact(List.Perm.append_left o List.perm_append_comm).trans (by rw[←AAm];exact h.pm))⟩
theorem J.len(h:J R T o x y):o.length+x.length+y.length=T.length:=by
 have:=h.pm.length_eq;rw[AAG,AAG] at this;exact this
theorem J.take(h:J R T o x y)(k:Nat)(c:∀u∈x.take k,∀v∈y,R u v):J R T (o++x.take k) (x.drop k) y:=by
 have e:x.take k++x.drop k=x:=List.take_append_drop k x;have px:=h.px;rw[←e] at px;obtain⟨p1,p2,p3⟩:=List.pairwise_append.mp px;refine⟨List.pairwise_append.mpr ⟨h.po,p1,λu hu v hv=>h.ox u hu v (List.mem_of_mem_take hv)⟩,p2,h.py,λu hu v hv=>?_,λu hu v hv=>?_,?_⟩
 ·rcases AAJ.mp hu with z|z
  ·exact h.ox u z v (List.mem_of_mem_drop hv)
  ·exact p3 u z v hv
 ·rcases AAJ.mp hu with z|z
  ·exact h.oy u z v hv
  ·exact c u z v hv
 ·rw[AAm o,e];exact h.pm
theorem J.one(tr:∀{p q r:α},R p q->R q r->R p r)(h:J R T o (a::x) (b::y))(c:R a b):J R T (o++[a]) x (b::y):=by
 refine h.take 1 λu hu v hv=>?_;rw[AAK.mp hu];rcases AAI.mp hv with rfl|hv
 ·exact c
 ·exact tr c ((AAx.mp h.py).1 v hv)
theorem J.end_(h:J R T o x y)(c:∀u∈x,∀v∈y,R u v):(o++x++y).Pairwise R/\(o++x++y).Perm T:=by
 refine⟨List.pairwise_append.mpr ⟨List.pairwise_append.mpr ⟨h.po,h.px,h.ox⟩,h.py,λu hu v hv=>?_⟩,h.pm⟩;rcases AAJ.mp hu with z|z
 ·exact h.oy u z v hv
 ·exact c u z v hv
end
def Same(st st':SortSt):Prop:=kindOf st'=kindOf st/\arrOf st'=arrOf st/\pendingOf st'=pendingOf st/\failedOf st'=failedOf st
theorem Same.rfl{st:SortSt}:Same st st:=⟨Eq.refl _,Eq.refl _,Eq.refl _,Eq.refl _⟩
theorem Same.trans(h:Same a b)(g:Same b c):Same a c:=⟨g.1.trans h.1,g.2.1.trans h.2.1,g.2.2.1.trans h.2.2.1,g.2.2.2.trans h.2.2.2⟩
theorem GQ(a:Array Keyed)(i k:Nat):(a.extract i (i+k)).toList=(a.toList.drop i).take k:=by
 rw[Array.toList_extract];show (a.toList.drop i).take (i+k-i)=_;rw[Nat.add_sub_cancel_left]
theorem FG(a:Array Keyed)(i:Nat):(a.extract i).toList=a.toList.drop i:=by
 rw[Array.toList_extract];show (a.toList.drop i).take (a.size-i)=_;exact List.take_of_length_le (by rw[List.length_drop,Array.length_toList];omega)
theorem Ds{a:Array Keyed}(h:i<a.size):∃x,a[i]?=some x/\a.toList.drop i=x::a.toList.drop (i+1):=⟨a[i],Array.getElem?_eq_getElem h,by rw[List.drop_eq_getElem_cons (by rw[Array.length_toList];exact h),Array.getElem_toList]⟩
noncomputable def mlo:Array Keyed->Array Keyed->StateT SortSt Sem (Array Keyed):=sortPriv% PySem.Builtin.mergeLo
section
variable{prog:Program}{w:World}{A:Around}{E:Value->Shared->Prop}{s:Shared}{kd:SortKind}{R:Keyed->Keyed->Bool}{S:Keyed->Prop}{st:SortSt}
abbrev Lt(R:Keyed->Keyed->Bool)(x y:Keyed):Prop:=R x y=true
theorem Ck{a:Array Keyed}(h:x∈a.toList.drop i):x∈a.toList:=List.mem_of_mem_drop h
theorem Pj{l:List Keyed}(h:∀i,i<l.length->((∃x,l[i]?=some x/\R x key=true)↔i<k)):(∀u∈l.take k,R u key=true)/\∀u∈l.drop k,R u key=false:=by
 constructor
 ·intro u hu;obtain⟨i,hi,e⟩:=List.mem_iff_getElem.mp hu;rw[List.getElem_take] at e;rw[List.length_take] at hi;obtain⟨x,e1,e2⟩:=(h i (by omega)).mpr (by omega);rw[AAt (by omega),e] at e1;cases e1;exact e2
 ·intro u hu;obtain⟨i,hi,e⟩:=List.mem_iff_getElem.mp hu;rw[List.getElem_drop] at e;rw[List.length_drop] at hi;cases z:R u key with
  |false=>rfl
  |true=>
   have:=(h (k+i) (by omega)).mp ⟨u,by rw[AAt (by omega),e],z⟩;omega
theorem D3(C:Cp prog w A E s kd R S)(hk:kindOf st=kd){left:Bool}{key:Keyed}(l:List Keyed)(hl:(arr.toList.drop base).take n=l)(ln:l.length=n)(sl:∀u∈l,S u/\u≠key)(sk:S key)(pw:l.Pairwise (Lt R))(hh:hint<n)
  (q:∀k,k<=n->(∀u∈l.take k,R u key=true)->(∀u∈l.drop k,R key u=true)->Q (some k) st):wpS (model prog w) A E s (gal left key arr base n hint) Q st:=by
 have at_:∀i,i<n->∃x,arr[base+i]?=some x/\l[i]?=some x/\x∈l:=λi hi=>by
  have hi':i<l.length:=by omega
  refine⟨l[i],?_,AAt hi',List.getElem_mem hi'⟩;have e:l[i]?=arr.toList[base+i]?:=by rw[←hl,List.getElem?_take_of_lt hi,List.getElem?_drop]
  rw[←Array.getElem?_toList,←e,AAt hi']
 refine We C hk (P:=λi=>match l[i]? with|some x=>R x key|none=>false) (λi hi=>?_) sk (λi j hij hj hp=>?_) hh λk hk hi=>?_
 ·obtain⟨x,e1,e2,e3⟩:=at_ i hi;exact⟨x,e1,(sl x e3).1,(sl x e3).2,by rw[e2]⟩
 ·obtain⟨x,_,e2,_⟩:=at_ i (by omega);obtain⟨y,_,e4,_⟩:=at_ j hj;rw[e2];rw[e4] at hp;rcases Nat.lt_or_ge i j with z|z
  ·have:Lt R x y:=by
    have:=List.pairwise_iff_getElem.mp pw i j (by omega) (by omega) z;rw[AAt (by omega)] at e2 e4;cases e2;cases e4;exact this
   exact C.tr this hp
  ·have:i=j:=by omega
   subst this;rw[e2] at e4;cases e4;exact hp
 ·have:=Pj (R:=R) (l:=l) (key:=key) (k:=k) λi hi'=>by
   obtain⟨x,_,e2,_⟩:=at_ i (by omega);have:=hi i (by omega);rw[e2] at this;rw[←this,e2];exact⟨λ⟨x,e,z⟩=>by cases e;exact z,λz=>⟨_,rfl,z⟩⟩
  refine q k hk this.1 λu hu=>?_;obtain⟨h1,h2⟩:=sl u (List.mem_of_mem_drop hu);exact C.tot h1 sk h2 (this.2 u hu)
def Ea(R:Keyed->Keyed->Bool)(T:List Keyed)(r:Array Keyed):Prop:=r.toList.Pairwise (Lt R)/\r.toList.Perm T
theorem WH(C:Cp prog w A E s kd R S)(hk:kindOf st=kd){a b:Array Keyed}(sa:∀u∈a.toList,S u)(sb:∀u∈b.toList,S u)(ne:∀u∈a.toList,∀v∈b.toList,u≠v)(pa:a.toList.Pairwise (Lt R))(pb:b.toList.Pairwise (Lt R))(b0:0<b.size)(a0:0<a.size)
  (first:∀x y,a[0]?=some x->b[0]?=some y->R y x=true) (last:∀x,a[a.size-1]?=some x->∀v∈b.toList,R v x=true)
  (q:∀r st',Ea R (a.toList++b.toList) r->Same st st'->Q r st'):wpS (model prog w) A E s (mlo a b) Q st:=by
 have tr:∀{p q r:Keyed},Lt R p q->Lt R q r->Lt R p r:=λh g=>C.tr h g;have dn:∀{o:Array Keyed} {ia ib:Nat},J (Lt R) (a.toList++b.toList) o.toList (a.toList.drop ia) (b.toList.drop ib)->ib=b.size->Ea R (a.toList++b.toList) (o++a.extract ia++b.extract ib):=λ{o ia ib} j e=>by
  have:b.toList.drop ib=[]:=List.drop_eq_nil_of_le (by rw[Array.length_toList];omega);unfold Ea;rw[Array.toList_append,Array.toList_append,FG,FG];exact j.end_ λu hu v hv=>by rw[this] at hv;cases hv
 have la:∀{o:Array Keyed} {ia ib:Nat},J (Lt R) (a.toList++b.toList) o.toList (a.toList.drop ia) (b.toList.drop ib)->ia+1=a.size->Ea R (a.toList++b.toList) (o++b.extract ib++a.extract ia):=λ{o ia ib} j e=>by
  obtain⟨x,e1,e2⟩:=Ds (a:=a) (i:=ia) (by omega);have e3:a.toList.drop (ia+1)=[]:=List.drop_eq_nil_of_le (by rw[Array.length_toList];omega);unfold Ea;rw[Array.toList_append,Array.toList_append,FG,FG];refine j.swap.end_ λu hu v hv=>?_;rw[e2,e3] at hv;rw[AAK.mp hv];exact last x (by rw[show a.size-1=ia by omega];exact e1) u (Ck hu)
 have lens:∀{o:Array Keyed} {ia ib:Nat},J (Lt R) (a.toList++b.toList) o.toList (a.toList.drop ia) (b.toList.drop ib)->ia<=a.size->ib<=b.size->o.size+(a.size-ia)+(b.size-ib)=a.size+b.size:=λ{o ia ib} j h1 h2=>by
  have:=j.len;rw[List.length_drop,List.length_drop,AAG,Array.length_toList,Array.length_toList,Array.length_toList] at this;exact this
 have pushB:∀{o:Array Keyed} {ia ib:Nat} {x y:Keyed},J (Lt R) (a.toList++b.toList) o.toList (a.toList.drop ia) (b.toList.drop ib)->a.toList.drop ia=x::a.toList.drop (ia+1)->b.toList.drop ib=y::b.toList.drop (ib+1)->R y x=true->J (Lt R) (a.toList++b.toList) (o.push y).toList (a.toList.drop ia) (b.toList.drop (ib+1)):=λ{o ia ib x y} j e1 e2 c=>by
  rw[Array.toList_push];have j':=j.swap;rw[e1,e2] at j';rw[e1];exact(J.one (R:=Lt R) (a:=y) (b:=x) tr j' c).swap
 have pushA:∀{o:Array Keyed} {ia ib:Nat} {x y:Keyed},J (Lt R) (a.toList++b.toList) o.toList (a.toList.drop ia) (b.toList.drop ib)->a.toList.drop ia=x::a.toList.drop (ia+1)->b.toList.drop ib=y::b.toList.drop (ib+1)->R x y=true->J (Lt R) (a.toList++b.toList) (o.push x).toList (a.toList.drop (ia+1)) (b.toList.drop ib):=λ{o ia ib x y} j e1 e2 c=>by
  rw[Array.toList_push];rw[e1,e2] at j;rw[e2];exact J.one (R:=Lt R) (a:=x) (b:=y) tr j c
 have J0:J (Lt R) (a.toList++b.toList) [] (a.toList.drop 0) (b.toList.drop 0):=⟨.nil,pa,pb,(λ_ h=>nomatch h),(λ_ h=>nomatch h),List.Perm.refl _⟩;obtain⟨x0,f1,f2⟩:=Ds a0;obtain⟨y0,g1,g2⟩:=Ds b0;have J1:J (Lt R) (a.toList++b.toList) (#[y0]:Array Keyed).toList (a.toList.drop 0) (b.toList.drop 1):=pushB (o:=#[]) J0 f2 g2 (first x0 y0 f1 g1);refine wpS_bind (wpS_lift (wpAny_rule ⟨rfl,?_⟩));refine wpS_bind (el g1 ?_);dsimp only;by_cases h1:1=b.size
 ·rw[if_pos (by simpa using h1)];exact wpS_pure (q _ _ (dn J1 h1) .rfl)
 rw[if_neg (by simpa using h1)];by_cases h2:0+1=a.size
 ·rw[if_pos (by simpa using h2)];exact wpS_pure (q _ _ (la J1 h2) .rfl)
 rw[if_neg (by simpa using h2)];refine wpS_bind (wpS_get ?_);refine wpS_bind (wpS_mono (wpS_forRange (I:=λi c st'=>Same st st'/\∃(o:Array Keyed) (ia ib g:Nat),c=(none,o,ia,ib,g)/\J (Lt R) (a.toList++b.toList) o.toList (a.toList.drop ia) (b.toList.drop ib)/\ia+1<a.size/\ib<b.size/\i+1<=o.size) (Q:=λc st'=>Same st st'/\∃r z,c=(some r,z)/\Ea R (a.toList++b.toList) r) ?_ ?_ ⟨.rfl,#[y0],0,1,_,rfl,J1,by omega,by omega,AAE _⟩) ?_)
 ·rintro i c st' _ hi ⟨sm,o,ia,ib,g,rfl,j,r1,r2,o1⟩;dsimp only;have hk':kindOf st'=kd:=sm.1.trans hk;refine wpS_bind (wpS_mono (wpS_forRange (I:=λi' c st''=>st''=st'/\∃(o':Array Keyed) (ia ib ac bc:Nat),c=(none,o',ia,ib,ac,bc)/\J (Lt R) (a.toList++b.toList) o'.toList (a.toList.drop ia) (b.toList.drop ib)/\ia+1<a.size/\ib<b.size/\o.size+i'<=o'.size) (Q:=λc st''=>st''=st'/\((∃r z,c=(some r,z)/\Ea R (a.toList++b.toList) r)∨∃(o':Array Keyed) (ia ib ac bc:Nat),c=(none,o',ia,ib,ac,bc)/\J (Lt R) (a.toList++b.toList) o'.toList (a.toList.drop ia) (b.toList.drop ib)/\ia+1<a.size/\ib<b.size/\o.size+1<=o'.size)) ?_ ?_ ⟨rfl,o,ia,ib,0,0,rfl,j,r1,r2,AAE _⟩) ?_)
  ·rintro i' c st'' _ hi' ⟨rfl,o',ia,ib,ac,bc,rfl,j,r1,r2,o2⟩;dsimp only;obtain⟨x,e1,e2⟩:=Ds (a:=a) (i:=ia) (by omega);obtain⟨y,e3,e4⟩:=Ds (a:=b) (i:=ib) r2;have mx:x∈a.toList:=Ck (i:=ia) (by rw[e2];exact AAP);have my:y∈b.toList:=Ck (i:=ib) (by rw[e4];exact AAP);refine wpS_bind (el e3 (wpS_bind (el e1 (wpS_bind (C.lt hk' (sb y my) (sa x mx) ?_)))));cases c1:R y x with
   |true=>
    dsimp only;rw[if_pos rfl];refine wpS_bind (el e3 ?_);have j2:=pushB j e2 e4 c1;by_cases z:ib+1=b.size
    ·rw[if_pos (by simpa using z)];exact wpS_pure ⟨rfl,.inl ⟨_,_,rfl,dn j2 z⟩⟩
    ·rw[if_neg (by simpa using z)];split
     ·exact wpS_pure ⟨rfl,.inr ⟨_,_,_,_,_,rfl,j2,r1,by omega,by rw[Array.size_push];omega⟩⟩
     ·exact wpS_pure ⟨rfl,_,_,_,_,_,rfl,j2,r1,by omega,by rw[Array.size_push];omega⟩
   |false=>
    dsimp only;rw[if_neg (by decide)];refine wpS_bind (el e1 ?_);have j2:=pushA j e2 e4 (C.tot (sb y my) (sa x mx) (Ne.symm (ne x mx y my)) c1);by_cases z:ia+1+1=a.size
    ·rw[if_pos (by simpa using z)];exact wpS_pure ⟨rfl,.inl ⟨_,_,rfl,la j2 z⟩⟩
    ·rw[if_neg (by simpa using z)];split
     ·exact wpS_pure ⟨rfl,.inr ⟨_,_,_,_,_,rfl,j2,by omega,r2,by rw[Array.size_push];omega⟩⟩
     ·exact wpS_pure ⟨rfl,_,_,_,_,_,rfl,j2,by omega,r2,by rw[Array.size_push];omega⟩
  ·rintro c st'' ⟨rfl,o',ia,ib,ac,bc,rfl,j,r1,r2,o2⟩;have:=lens j (by omega) (by omega);omega
  ·rintro c st'' ⟨rfl,h|⟨o',ia,ib,ac,bc,rfl,j,r1,r2,o2⟩⟩
   ·obtain⟨r,z,rfl,gd⟩:=h;dsimp only;exact wpS_pure ⟨sm,r,_,rfl,gd⟩
   dsimp only;refine wpS_bind (wpS_lift (wpAny_rule ⟨rfl,?_⟩));refine wpS_bind (wpS_mono (wpS_forRange (I:=λi' c st3=>Same st st3/\∃(o3:Array Keyed) (ia ib g ac bc:Nat),c=(none,o3,ia,ib,g,ac,bc)/\J (Lt R) (a.toList++b.toList) o3.toList (a.toList.drop ia) (b.toList.drop ib)/\ia+1<a.size/\ib<b.size/\o'.size<=o3.size) (Q:=λc st3=>Same st st3/\((∃r z,c=(some r,z)/\Ea R (a.toList++b.toList) r)∨∃(o3:Array Keyed) (ia ib g ac bc:Nat),c=(none,o3,ia,ib,g,ac,bc)/\J (Lt R) (a.toList++b.toList) o3.toList (a.toList.drop ia) (b.toList.drop ib)/\ia+1<a.size/\ib<b.size/\o'.size<=o3.size)) ?_ ?_ ⟨sm,o',ia,ib,_,ac,bc,rfl,j,r1,r2,AAE _⟩) ?_)
   ·rintro i' c st3 _ hi' ⟨sm3,o3,ia,ib,g,ac,bc,rfl,j,r1,r2,o4⟩;dsimp only;obtain⟨y,e3,e4⟩:=Ds (a:=b) (i:=ib) r2;have my:y∈b.toList:=Ck (i:=ib) (by rw[e4];exact AAP);have sm4:∀{g:Nat},Same st (SortSt.mk' (kindOf st3) (arrOf st3) (pendingOf st3) g (failedOf st3)):=λ{g}=>sm3.trans ⟨rfl,rfl,rfl,rfl⟩;have py:=j.py;rw[e4] at py;by_cases gg:g > 1
    case' pos=>rw[if_pos gg]
    case' neg=>rw[if_neg gg]
    all_goals
     refine wpS_bind (wpS_modify ?_);refine wpS_bind (el e3 ?_);refine wpS_bind (D3 C (sm4.1.trans hk) (a.toList.drop ia) (List.take_of_length_le (by rw[List.length_drop,Array.length_toList];omega)) (by rw[List.length_drop,Array.length_toList]) (λu hu=>⟨sa u (Ck hu),ne u (Ck hu) y my⟩) (sb y my) j.px (by omega) λk kn ku kv=>?_);dsimp only;have j2:J (Lt R) (a.toList++b.toList) (o3++a.extract ia (ia+k)).toList (a.toList.drop (ia+k)) (b.toList.drop ib):=by
      have:=j.take k λu hu v hv=>by
       rw[e4] at hv;rcases AAI.mp hv with rfl|hv
       ·exact ku u hu
       ·exact tr (ku u hu) ((AAx.mp py).1 v hv)
      rw[List.drop_drop] at this;rw[Array.toList_append,GQ];exact this
     have kv':∀u∈a.toList.drop (ia+k),R y u=true:=λu hu=>kv u (by rw[List.drop_drop];exact hu);have os:o'.size<=(o3++a.extract ia (ia+k)).size:=by rw[Array.size_append];omega
     by_cases k0:k > 0
     case' pos=>
      rw[if_pos k0];by_cases z1:ia+k+1=a.size
      ·rw[if_pos (by simpa using z1)];exact wpS_pure ⟨sm4,.inl ⟨_,_,rfl,la j2 z1⟩⟩
      rw[if_neg (by simpa using z1)];by_cases z2:ia+k=a.size
      ·rw[if_pos (by simpa using z2)];refine wpS_pure ⟨sm4,.inl ⟨_,_,rfl,?_⟩⟩;unfold Ea;rw[Array.toList_append,Array.toList_append,FG,FG];exact j2.end_ λu hu v hv=>by rw[List.drop_eq_nil_of_le (by rw[Array.length_toList];omega)] at hu;cases hu
      rw[if_neg (by simpa using z2)];have r5:ia+k+1<a.size:=by omega
      generalize o3++a.extract ia (ia+k)=o5 at j2 os ⊢;generalize ia+k=ia5 at j2 kv' r5 ⊢
     case' neg=>
      rw[if_neg k0];have r5:ia+k+1<a.size:=by omega
      have eo:o3++a.extract ia (ia+k)=o3:=Array.toList_inj.mp (by rw[Array.toList_append,GQ,show k=0 by omega,List.take_zero,AAa]);rw[eo] at j2 os;rw[show ia+k=ia by omega] at j2 kv' r5;generalize o3=o5 at j2 os ⊢;generalize ia=ia5 at j2 kv' r5 ⊢
     all_goals
      obtain⟨x,e1,e2⟩:=Ds (a:=a) (i:=ia5) (by omega);have mx:x∈a.toList:=Ck (i:=ia5) (by rw[e2];exact AAP);refine wpS_bind (el e3 ?_);have j3:=pushB j2 e2 e4 (kv' x (by rw[e2];exact AAP));by_cases z3:ib+1=b.size
      ·rw[if_pos (by simpa using z3)];exact wpS_pure ⟨sm4,.inl ⟨_,_,rfl,dn j3 z3⟩⟩
      rw[if_neg (by simpa using z3)];refine wpS_bind (el e1 ?_);refine wpS_bind (D3 C (sm4.1.trans hk) (b.toList.drop (ib+1)) (List.take_of_length_le (by rw[List.length_drop,Array.length_toList];omega)) (by rw[List.length_drop,Array.length_toList]) (λu hu=>⟨sb u (Ck hu),Ne.symm (ne x mx u (Ck hu))⟩) (sa x mx) j3.py (by omega) λk2 kn2 ku2 kv2=>?_);dsimp only;have px:=j3.px;rw[e2] at px;have j4:J (Lt R) (a.toList++b.toList) (o5.push y++b.extract (ib+1) (ib+1+k2)).toList (a.toList.drop ia5) (b.toList.drop (ib+1+k2)):=by
       have:=j3.swap.take k2 λu hu v hv=>by
        rw[e2] at hv;rcases AAI.mp hv with rfl|hv
        ·exact ku2 u hu
        ·exact tr (ku2 u hu) ((AAx.mp px).1 v hv)
       rw[List.drop_drop] at this;rw[Array.toList_append,GQ];exact this.swap
      have kv3:∀u∈b.toList.drop (ib+1+k2),R x u=true:=λu hu=>kv2 u (by rw[List.drop_drop];exact hu);have os2:o'.size<=(o5.push y++b.extract (ib+1) (ib+1+k2)).size:=by rw[Array.size_append,Array.size_push];omega
      by_cases k3:k2 > 0
      case' pos=>
       rw[if_pos k3];by_cases z4:ib+1+k2=b.size
       ·rw[if_pos (by simpa using z4)];exact wpS_pure ⟨sm4,.inl ⟨_,_,rfl,dn j4 z4⟩⟩
       rw[if_neg (by simpa using z4)];have r6:ib+1+k2<b.size:=by omega
       generalize o5.push y++b.extract (ib+1) (ib+1+k2)=o6 at j4 os2 ⊢;generalize ib+1+k2=ib6 at j4 kv3 r6 ⊢
      case' neg=>
       rw[if_neg k3];have r6:ib+1+k2<b.size:=by omega
       have eo:o5.push y++b.extract (ib+1) (ib+1+k2)=o5.push y:=Array.toList_inj.mp (by rw[Array.toList_append,GQ,show k2=0 by omega,List.take_zero,AAa]);rw[eo] at j4 os2;rw[show ib+1+k2=ib+1 by omega] at j4 kv3 r6;generalize o5.push y=o6 at j4 os2 ⊢;generalize ib+1=ib6 at j4 kv3 r6 ⊢
      all_goals
       obtain⟨y',e5,e6⟩:=Ds (a:=b) (i:=ib6) r6;refine wpS_bind (el e1 ?_);have j5:=pushA j4 e2 e6 (kv3 y' (by rw[e6];exact AAP));by_cases z5:ia5+1+1=a.size
       ·rw[if_pos (by simpa using z5)];exact wpS_pure ⟨sm4,.inl ⟨_,_,rfl,la j5 z5⟩⟩
       rw[if_neg (by simpa using z5)];have os3:o'.size<=(o6.push x).size:=by rw[Array.size_push];omega
       split
       ·exact wpS_pure ⟨sm4,.inr ⟨_,_,_,_,_,_,rfl,j5,by omega,r6,os3⟩⟩
       ·exact wpS_pure ⟨sm4,_,_,_,_,_,_,rfl,j5,by omega,r6,os3⟩
   ·rintro c st3 ⟨sm3,h⟩;exact⟨sm3,.inr h⟩
   ·rintro c st3 ⟨sm3,h|⟨o3,ia,ib,g,ac,bc,rfl,j,r1,r2,o4⟩⟩
    ·obtain⟨r,z,rfl,gd⟩:=h;dsimp only;exact wpS_pure ⟨sm3,r,_,rfl,gd⟩
    dsimp only;refine wpS_bind (wpS_modify (wpS_pure ?_));exact⟨sm3.trans ⟨rfl,rfl,rfl,rfl⟩,o3,ia,ib,_,rfl,j,r1,r2,by omega⟩
 ·rintro c st' ⟨sm,o,ia,ib,g,rfl,j,r1,r2,o1⟩;have:=lens j (by omega) (by omega);omega
 ·rintro c st' ⟨sm,r,z,rfl,gd⟩;dsimp only;exact wpS_pure (q _ _ gd sm)
end
noncomputable def mhi:Array Keyed->Array Keyed->StateT SortSt Sem (Array Keyed):=sortPriv% PySem.Builtin.mergeHi
abbrev Gt(R:Keyed->Keyed->Bool)(x y:Keyed):Prop:=R y x=true
noncomputable abbrev bk(a:Array Keyed)(n:Nat):List Keyed:=(a.toList.take n).reverse
theorem Gn(h0:1<=n)(h:n<=a.size):∃x,a[n-1]?=some x/\bk a n=x::bk a (n-1):=by
 obtain⟨m,rfl⟩:∃m,n=m+1:=⟨n-1,by omega⟩;have hm:m<a.toList.length:=by rw[Array.length_toList];omega
 refine⟨a[m],Array.getElem?_eq_getElem (by omega),?_⟩;unfold bk;rw[List.take_succ_eq_append_getElem hm,List.reverse_append,Array.getElem_toList];rfl
theorem IM(h:x∈bk a n):x∈a.toList:=List.mem_of_mem_take (List.mem_reverse.mp h)
theorem SE(h:n<=a.size):(bk a n).length=n:=by
 unfold bk;rw[List.length_reverse,List.length_take,Array.length_toList];omega
theorem KS(h:n<=a.size)(hm:m<=n):(bk a n).take (n-m)=((a.toList.take n).drop m).reverse:=by
 unfold bk;rw[List.take_reverse,List.length_take,Array.length_toList,show min n a.size-(n-m)=m by omega]
theorem N5(h:n<=a.size)(hm:m<=n):(bk a n).drop (n-m)=bk a m:=by
 unfold bk;rw[List.drop_reverse,List.length_take,Array.length_toList,show min n a.size-(n-m)=m by omega,List.take_take,Nat.min_eq_left hm]
theorem HA(h:n<=a.size)(hm:m<=n):(a.extract m n).reverse.toList=(bk a n).take (n-m):=by
 rw[KS h hm,Array.toList_reverse,Array.toList_extract];show ((a.toList.drop m).take (n-m)).reverse=_;rw[List.drop_take]
section
variable{prog:Program}{w:World}{A:Around}{E:Value->Shared->Prop}{s:Shared}{kd:SortKind}{R:Keyed->Keyed->Bool}{S:Keyed->Prop}{st:SortSt}
theorem Hy{T:List Keyed}{z:List Keyed}(e:r.toList=z.reverse)(h:z.Pairwise (Gt R)/\z.Perm T):Ea R T r:=by
 unfold Ea;rw[e];exact⟨List.pairwise_reverse.mpr h.1,(List.reverse_perm z).trans h.2⟩
theorem WJ(C:Cp prog w A E s kd R S)(hk:kindOf st=kd){a b:Array Keyed}{Q:Array Keyed->SortSt->Prop}(sa:∀u∈a.toList,S u)(sb:∀u∈b.toList,S u)(ne:∀u∈a.toList,∀v∈b.toList,u≠v)(pa:a.toList.Pairwise (Lt R))(pb:b.toList.Pairwise (Lt R))(b0:0<b.size)(a0:0<a.size)
  (first:∀y,b[0]?=some y->∀u∈a.toList,R y u=true) (last:∀x y,a[a.size-1]?=some x->b[b.size-1]?=some y->R y x=true)
  (q:∀r st',Ea R (a.toList++b.toList) r->Same st st'->Q r st'):wpS (model prog w) A E s (mhi a b) Q st:=by
 have tr:∀{p q r:Keyed},Gt R p q->Gt R q r->Gt R p r:=λh g=>C.tr g h;have dn:∀{o:Array Keyed} {na nb:Nat},J (Gt R) (a.toList++b.toList) o.toList (bk a na) (bk b nb)->na=0->Ea R (a.toList++b.toList) (a.extract 0 na++b.extract 0 nb++o.reverse):=λ{o na nb} j e=>by
  subst e;refine Hy (z:=o.toList++bk b nb++bk a 0) ?_ (j.swap.end_ λu hu v hv=>nomatch hv);rw[Array.toList_append,Array.toList_append,Array.toList_reverse,Array.toList_extract,Array.toList_extract];show (a.toList.drop 0).take (0-0)++(b.toList.drop 0).take (nb-0)++_=_;simp[bk]
 have fb:∀{o:Array Keyed} {na nb:Nat},J (Gt R) (a.toList++b.toList) o.toList (bk a na) (bk b nb)->nb=1->Ea R (a.toList++b.toList) (b.extract 0 nb++a.extract 0 na++o.reverse):=λ{o na nb} j e=>by
  subst e;obtain⟨y,e1,e2⟩:=Gn (a:=b) (n:=1) (AAE _) b0;refine Hy (z:=o.toList++bk a na++bk b 1) ?_ (j.end_ λu hu v hv=>?_)
  ·rw[Array.toList_append,Array.toList_append,Array.toList_reverse,Array.toList_extract,Array.toList_extract];show (b.toList.drop 0).take (1-0)++(a.toList.drop 0).take (na-0)++_=_;simp[bk]
  ·rw[e2] at hv;rw[AAK.mp hv];exact first y e1 u (IM hu)
 have lens:∀{o:Array Keyed} {na nb:Nat},J (Gt R) (a.toList++b.toList) o.toList (bk a na) (bk b nb)->na<=a.size->nb<=b.size->o.size+na+nb=a.size+b.size:=λ{o na nb} j h1 h2=>by
  have:=j.len;rw[SE h1,SE h2,AAG,Array.length_toList,Array.length_toList,Array.length_toList] at this;exact this
 have pushA:∀{o:Array Keyed} {na nb:Nat} {x y:Keyed},J (Gt R) (a.toList++b.toList) o.toList (bk a na) (bk b nb)->bk a na=x::bk a (na-1)->bk b nb=y::bk b (nb-1)->R y x=true->J (Gt R) (a.toList++b.toList) (o.push x).toList (bk a (na-1)) (bk b nb):=λ{o na nb x y} j e1 e2 c=>by
  rw[Array.toList_push];rw[e1,e2] at j;rw[e2];exact J.one (R:=Gt R) (a:=x) (b:=y) tr j c
 have pushB:∀{o:Array Keyed} {na nb:Nat} {x y:Keyed},J (Gt R) (a.toList++b.toList) o.toList (bk a na) (bk b nb)->bk a na=x::bk a (na-1)->bk b nb=y::bk b (nb-1)->R x y=true->J (Gt R) (a.toList++b.toList) (o.push y).toList (bk a na) (bk b (nb-1)):=λ{o na nb x y} j e1 e2 c=>by
  rw[Array.toList_push];have j':=j.swap;rw[e1,e2] at j';rw[e1];exact(J.one (R:=Gt R) (a:=y) (b:=x) tr j' c).swap
 have J0:J (Gt R) (a.toList++b.toList) [] (bk a a.size) (bk b b.size):=by
  have e1:bk a a.size=a.toList.reverse:=by unfold bk;rw[List.take_of_length_le (by rw[Array.length_toList];exact AAE _)]
  have e2:bk b b.size=b.toList.reverse:=by unfold bk;rw[List.take_of_length_le (by rw[Array.length_toList];exact AAE _)]
  rw[e1,e2];exact⟨.nil,List.pairwise_reverse.mpr pa,List.pairwise_reverse.mpr pb,(λ_ h=>nomatch h),(λ_ h=>nomatch h),(List.reverse_perm _).append (List.reverse_perm _)⟩
 obtain⟨x0,f1,f2⟩:=Gn a0 (AAE _);obtain⟨y0,g1,g2⟩:=Gn b0 (AAE _);have J1:J (Gt R) (a.toList++b.toList) (#[x0]:Array Keyed).toList (bk a (a.size-1)) (bk b b.size):=pushA (o:=#[]) J0 f2 g2 (last x0 y0 f1 g1);refine wpS_bind (wpS_lift (wpAny_rule ⟨rfl,?_⟩));refine wpS_bind (el f1 ?_);dsimp only;by_cases h1:a.size-1=0
 ·rw[if_pos (by simpa using h1)];exact wpS_pure (q _ _ (dn J1 h1) .rfl)
 rw[if_neg (by simpa using h1)];by_cases h2:b.size=1
 ·rw[if_pos (by simpa using h2)];exact wpS_pure (q _ _ (fb J1 h2) .rfl)
 rw[if_neg (by simpa using h2)];refine wpS_bind (wpS_get ?_);refine wpS_bind (wpS_mono (wpS_forRange (I:=λi c st'=>Same st st'/\∃(na nb:Nat) (o:Array Keyed) (g:Nat),c=(none,na,nb,o,g)/\J (Gt R) (a.toList++b.toList) o.toList (bk a na) (bk b nb)/\(1<=na/\na<=a.size)/\(2<=nb/\nb<=b.size)/\i+1<=o.size) (Q:=λc st'=>Same st st'/\∃r z,c=(some r,z)/\Ea R (a.toList++b.toList) r) ?_ ?_ ⟨.rfl,_,_,#[x0],_,rfl,J1,⟨by omega,by omega⟩,⟨by omega,AAE _⟩,AAE _⟩) ?_)
 ·rintro i c st' _ hi ⟨sm,na,nb,o,g,rfl,j,r1,r2,o1⟩;dsimp only;have hk':kindOf st'=kd:=sm.1.trans hk;refine wpS_bind (wpS_mono (wpS_forRange (I:=λi' c st''=>st''=st'/\∃(na nb:Nat) (o':Array Keyed) (ac bc:Nat),c=(none,na,nb,o',ac,bc)/\J (Gt R) (a.toList++b.toList) o'.toList (bk a na) (bk b nb)/\(1<=na/\na<=a.size)/\(2<=nb/\nb<=b.size)/\o.size+i'<=o'.size) (Q:=λc st''=>st''=st'/\((∃r z,c=(some r,z)/\Ea R (a.toList++b.toList) r)∨∃(na nb:Nat) (o':Array Keyed) (ac bc:Nat),c=(none,na,nb,o',ac,bc)/\J (Gt R) (a.toList++b.toList) o'.toList (bk a na) (bk b nb)/\(1<=na/\na<=a.size)/\(2<=nb/\nb<=b.size)/\o.size+1<=o'.size)) ?_ ?_ ⟨rfl,na,nb,o,0,0,rfl,j,r1,r2,AAE _⟩) ?_)
  ·rintro i' c st'' _ hi' ⟨rfl,na,nb,o',ac,bc,rfl,j,r1,r2,o2⟩;dsimp only;obtain⟨x,e1,e2⟩:=Gn (a:=a) r1.1 r1.2;obtain⟨y,e3,e4⟩:=Gn (a:=b) (n:=nb) (by omega) r2.2;have mx:x∈a.toList:=IM (n:=na) (by rw[e2];exact AAP);have my:y∈b.toList:=IM (n:=nb) (by rw[e4];exact AAP);refine wpS_bind (el e3 (wpS_bind (el e1 (wpS_bind (C.lt hk' (sb y my) (sa x mx) ?_)))));cases c1:R y x with
   |true=>
    dsimp only;rw[if_pos rfl];refine wpS_bind (el e1 ?_);have j2:=pushA j e2 e4 c1;by_cases z:na-1=0
    ·rw[if_pos (by simpa using z)];exact wpS_pure ⟨rfl,.inl ⟨_,_,rfl,dn j2 z⟩⟩
    ·rw[if_neg (by simpa using z)];split
     ·exact wpS_pure ⟨rfl,.inr ⟨_,_,_,_,_,rfl,j2,⟨by omega,by omega⟩,r2,by rw[Array.size_push];omega⟩⟩
     ·exact wpS_pure ⟨rfl,_,_,_,_,_,rfl,j2,⟨by omega,by omega⟩,r2,by rw[Array.size_push];omega⟩
   |false=>
    dsimp only;rw[if_neg (by decide)];refine wpS_bind (el e3 ?_);have j2:=pushB j e2 e4 (C.tot (sb y my) (sa x mx) (Ne.symm (ne x mx y my)) c1);by_cases z:nb-1=1
    ·rw[if_pos (by simpa using z)];exact wpS_pure ⟨rfl,.inl ⟨_,_,rfl,fb j2 z⟩⟩
    ·rw[if_neg (by simpa using z)];split
     ·exact wpS_pure ⟨rfl,.inr ⟨_,_,_,_,_,rfl,j2,r1,⟨by omega,by omega⟩,by rw[Array.size_push];omega⟩⟩
     ·exact wpS_pure ⟨rfl,_,_,_,_,_,rfl,j2,r1,⟨by omega,by omega⟩,by rw[Array.size_push];omega⟩
  ·rintro c st'' ⟨rfl,na,nb,o',ac,bc,rfl,j,r1,r2,o2⟩;have:=lens j r1.2 r2.2;omega
  ·rintro c st'' ⟨rfl,h|⟨na,nb,o',ac,bc,rfl,j,r1,r2,o2⟩⟩
   ·obtain⟨r,z,rfl,gd⟩:=h;dsimp only;exact wpS_pure ⟨sm,r,_,rfl,gd⟩
   dsimp only;refine wpS_bind (wpS_lift (wpAny_rule ⟨rfl,?_⟩));refine wpS_bind (wpS_mono (wpS_forRange (I:=λi' c st3=>Same st st3/\∃(na nb:Nat) (o3:Array Keyed) (g ac bc:Nat),c=(none,na,nb,o3,g,ac,bc)/\J (Gt R) (a.toList++b.toList) o3.toList (bk a na) (bk b nb)/\(1<=na/\na<=a.size)/\(2<=nb/\nb<=b.size)/\o'.size<=o3.size) (Q:=λc st3=>Same st st3/\((∃r z,c=(some r,z)/\Ea R (a.toList++b.toList) r)∨∃(na nb:Nat) (o3:Array Keyed) (g ac bc:Nat),c=(none,na,nb,o3,g,ac,bc)/\J (Gt R) (a.toList++b.toList) o3.toList (bk a na) (bk b nb)/\(1<=na/\na<=a.size)/\(2<=nb/\nb<=b.size)/\o'.size<=o3.size)) ?_ ?_ ⟨sm,na,nb,o',_,ac,bc,rfl,j,r1,r2,AAE _⟩) ?_)
   ·rintro i' c st3 _ hi' ⟨sm3,na,nb,o3,g,ac,bc,rfl,j,r1,r2,o4⟩;dsimp only;obtain⟨y,e3,e4⟩:=Gn (a:=b) (n:=nb) (by omega) r2.2;have my:y∈b.toList:=IM (n:=nb) (by rw[e4];exact AAP);have sm4:∀{g:Nat},Same st (SortSt.mk' (kindOf st3) (arrOf st3) (pendingOf st3) g (failedOf st3)):=λ{g}=>sm3.trans ⟨rfl,rfl,rfl,rfl⟩;have py:=j.py;rw[e4] at py;have tm:∀{c:Array Keyed} {n:Nat},c.toList.Pairwise (Lt R)->(c.toList.take n).Pairwise (Lt R):=λh=>h.sublist (List.take_sublist _ _);by_cases gg:g > 1
    case' pos=>rw[if_pos gg]
    case' neg=>rw[if_neg gg]
    all_goals
     refine wpS_bind (wpS_modify ?_);refine wpS_bind (el e3 ?_);refine wpS_bind (D3 C (sm4.1.trans hk) (a.toList.take na) (by rw[List.drop_zero]) (by rw[List.length_take,Array.length_toList];omega) (λu hu=>⟨sa u (List.mem_of_mem_take hu),ne u (List.mem_of_mem_take hu) y my⟩) (sb y my) (tm pa) (by omega) λk kn ku kv=>?_);dsimp only;have kv':∀u∈(bk a na).take (na-k),R y u=true:=λu hu=>kv u (by rw[KS r1.2 kn] at hu;exact List.mem_reverse.mp hu);have ku':∀u∈bk a k,R u y=true:=λu hu=>ku u (by rw[List.take_take,Nat.min_eq_left kn];exact List.mem_reverse.mp hu);have j2:J (Gt R) (a.toList++b.toList) (o3++(a.extract k na).reverse).toList (bk a k) (bk b nb):=by
      have:=j.take (na-k) λu hu v hv=>by
       rw[e4] at hv;rcases AAI.mp hv with rfl|hv
       ·exact kv' u hu
       ·exact tr (kv' u hu) ((AAx.mp py).1 v hv)
      rw[N5 r1.2 kn] at this;rw[Array.toList_append,HA r1.2 kn];exact this
     have os:o'.size<=(o3++(a.extract k na).reverse).size:=by rw[Array.size_append];omega
     by_cases k0:na-k > 0
     case' pos=>
      rw[if_pos k0];by_cases z1:k=0
      ·rw[if_pos (by simpa using z1)];exact wpS_pure ⟨sm4,.inl ⟨_,_,rfl,dn j2 z1⟩⟩
      rw[if_neg (by simpa using z1)];have r5:1<=k/\k<=a.size:=by omega
      generalize o3++(a.extract k na).reverse=o5 at j2 os ⊢;generalize k=na5 at j2 ku' r5 ⊢
     case' neg=>
      rw[if_neg k0];have ek:k=na:=by omega
      have r5:1<=k/\k<=a.size:=by omega
      have eo:o3++(a.extract k na).reverse=o3:=Array.toList_inj.mp (by rw[Array.toList_append,HA r1.2 kn,show na-k=0 by omega,List.take_zero,AAa]);rw[eo] at j2 os;rw[ek] at j2 ku' r5;generalize o3=o5 at j2 os ⊢;generalize na=na5 at j2 ku' r5 ⊢
     all_goals
      obtain⟨x,e1,e2⟩:=Gn (a:=a) (n:=na5) r5.1 r5.2;have mx:x∈a.toList:=IM (n:=na5) (by rw[e2];exact AAP);refine wpS_bind (el e3 ?_);have j3:=pushB j2 e2 e4 (ku' x (by rw[e2];exact AAP));by_cases z3:nb-1=1
      ·rw[if_pos (by simpa using z3)];exact wpS_pure ⟨sm4,.inl ⟨_,_,rfl,fb j3 z3⟩⟩
      rw[if_neg (by simpa using z3)];refine wpS_bind (el e1 ?_);refine wpS_bind (D3 C (sm4.1.trans hk) (b.toList.take (nb-1)) (by rw[List.drop_zero]) (by rw[List.length_take,Array.length_toList];omega) (λu hu=>⟨sb u (List.mem_of_mem_take hu),Ne.symm (ne x mx u (List.mem_of_mem_take hu))⟩) (sa x mx) (tm pb) (by omega) λk2 kn2 ku2 kv2=>?_);dsimp only;have px:=j3.px;rw[e2] at px;have nb1:nb-1<=b.size:=by omega
      have kv3:∀u∈(bk b (nb-1)).take (nb-1-k2),R x u=true:=λu hu=>kv2 u (by rw[KS nb1 kn2] at hu;exact List.mem_reverse.mp hu);have ku3:∀u∈bk b k2,R u x=true:=λu hu=>ku2 u (by rw[List.take_take,Nat.min_eq_left kn2];exact List.mem_reverse.mp hu);have j4:J (Gt R) (a.toList++b.toList) (o5.push y++(b.extract k2 (nb-1)).reverse).toList (bk a na5) (bk b k2):=by
       have:=j3.swap.take (nb-1-k2) λu hu v hv=>by
        rw[e2] at hv;rcases AAI.mp hv with rfl|hv
        ·exact kv3 u hu
        ·exact tr (kv3 u hu) ((AAx.mp px).1 v hv)
       rw[N5 nb1 kn2] at this;rw[Array.toList_append,HA nb1 kn2];exact this.swap
      have os2:o'.size<=(o5.push y++(b.extract k2 (nb-1)).reverse).size:=by rw[Array.size_append,Array.size_push];omega
      by_cases k3:nb-1-k2 > 0
      case' pos=>
       rw[if_pos k3];by_cases z4:k2=1
       ·rw[if_pos (by simpa using z4)];exact wpS_pure ⟨sm4,.inl ⟨_,_,rfl,fb j4 z4⟩⟩
       rw[if_neg (by simpa using z4)];by_cases z6:k2=0
       ·rw[if_pos (by simpa using z6)];refine wpS_pure ⟨sm4,.inl ⟨_,_,rfl,?_⟩⟩;subst z6;refine Hy (z:=(o5.push y++(b.extract 0 (nb-1)).reverse).toList++bk b 0++bk a na5) ?_ (j4.swap.end_ λu hu v hv=>nomatch hu);rw[Array.toList_append,Array.toList_append,Array.toList_reverse,Array.toList_extract (xs:=a),Array.toList_extract (xs:=b) (start:=0) (stop:=0)];show (a.toList.drop 0).take (na5-0)++(b.toList.drop 0).take (0-0)++_=_;simp[bk]
       rw[if_neg (by simpa using z6)];have r6:2<=k2/\k2<=b.size:=by omega
       generalize o5.push y++(b.extract k2 (nb-1)).reverse=o6 at j4 os2 ⊢;generalize k2=nb6 at j4 ku3 r6 ⊢
      case' neg=>
       rw[if_neg k3];have ek2:k2=nb-1:=by omega
       have r6:2<=k2/\k2<=b.size:=by omega
       have eo:o5.push y++(b.extract k2 (nb-1)).reverse=o5.push y:=Array.toList_inj.mp (by rw[Array.toList_append,HA nb1 kn2,show nb-1-k2=0 by omega,List.take_zero,AAa]);rw[eo] at j4 os2;rw[ek2] at j4 ku3 r6;generalize o5.push y=o6 at j4 os2 ⊢;generalize nb-1=nb6 at j4 ku3 r6 ⊢
      all_goals
       obtain⟨y',e5,e6⟩:=Gn (a:=b) (n:=nb6) (by omega) r6.2;refine wpS_bind (el e1 ?_);have j5:=pushA j4 e2 e6 (ku3 y' (by rw[e6];exact AAP));by_cases z5:na5-1=0
       ·rw[if_pos (by simpa using z5)];exact wpS_pure ⟨sm4,.inl ⟨_,_,rfl,dn j5 z5⟩⟩
       rw[if_neg (by simpa using z5)];have os3:o'.size<=(o6.push x).size:=by rw[Array.size_push];omega
       split
       ·exact wpS_pure ⟨sm4,.inr ⟨_,_,_,_,_,_,rfl,j5,⟨by omega,by omega⟩,r6,os3⟩⟩
       ·exact wpS_pure ⟨sm4,_,_,_,_,_,_,rfl,j5,⟨by omega,by omega⟩,r6,os3⟩
   ·rintro c st3 ⟨sm3,h⟩;exact⟨sm3,.inr h⟩
   ·rintro c st3 ⟨sm3,h|⟨na,nb,o3,g,ac,bc,rfl,j,r1,r2,o4⟩⟩
    ·obtain⟨r,z,rfl,gd⟩:=h;dsimp only;exact wpS_pure ⟨sm3,r,_,rfl,gd⟩
    dsimp only;refine wpS_bind (wpS_modify (wpS_pure ?_));exact⟨sm3.trans ⟨rfl,rfl,rfl,rfl⟩,na,nb,o3,_,rfl,j,r1,r2,by omega⟩
 ·rintro c st' ⟨sm,na,nb,o,g,rfl,j,r1,r2,o1⟩;have:=lens j r1.2 r2.2;omega
 ·rintro c st' ⟨sm,r,z,rfl,gd⟩;dsimp only;exact wpS_pure (q _ _ gd sm)
end
theorem Xi:∀(m us q r:List Keyed) (a:Array Keyed) (s j:Nat),m.length=us.length->a.toList=q++us++r->q.length=s+j->((m.zipIdx j).foldl (λa p=>a.setIfInBounds (s+p.2) p.1) a).toList=q++m++r
 |[],[],q,r,a,s,j,_,h,_=>h
 |[],_::_,_,_,_,_,_,h,_,_=>by cases h
 |_::_,[],_,_,_,_,_,h,_,_=>by cases h
 |x::m,u::us,q,r,a,s,j,h,ha,hq=>by
  rw[List.zipIdx_cons,List.foldl_cons];have ih:=Xi m us (q++[x]) r (a.setIfInBounds (s+j) x) s (j+1) (by simpa using h) (by rw[Array.toList_setIfInBounds,ha,←hq,AAm,AAg _ _ (AAE _),AAu,List.cons_append,List.set_cons_zero];simp) (by rw[AAG,hq];rfl);rw[ih];simp
section
variable{prog:Program}{w:World}{A:Around}{E:Value->Shared->Prop}{s:Shared}{kd:SortKind}{R:Keyed->Keyed->Bool}{S:Keyed->Prop}{st:SortSt}
theorem Si(h:Q ⟨⟩ st'):wpS (model prog w) A E s (set st':StateT SortSt Sem PUnit) Q st:=by
 unfold wpS;rw[StateT.run_set];exact AAB ⟨rfl,h⟩
theorem MT{a:Array Keyed}{p x z:List Keyed}(h:a.toList=p++x++z)(e:x[i]?=some u):a[p.length+i]?=some u:=by
 have hi:=(AAT.mp e).1;rw[←Array.getElem?_toList,h,AAm,AAR (by omega),Nat.add_sub_cancel_left,AAS hi];exact e
theorem Ru{l p x z:List Keyed}(h:l=p++x++z):(l.drop p.length).take x.length=x:=by
 rw[h,AAm,List.drop_left,List.take_left]
theorem Tz(h:x≠[]):∃u,x[x.length-1]?=some u/\u∈x:=⟨x.getLast h,by rw[←List.getLast?_eq_getElem?,List.getLast?_eq_some_getLast h],List.getLast_mem h⟩
theorem NY{x:List Keyed}(px:x.Pairwise (Lt R))(e:x[x.length-1]?=some u)(h:v∈x):v=u∨R v u=true:=by
 obtain⟨i,hi,rfl⟩:=List.mem_iff_getElem.mp h;rcases Nat.lt_or_ge i (x.length-1) with z|z
 ·right;have:=List.pairwise_iff_getElem.mp px i (x.length-1) hi (by omega) z;rw[AAt (by omega)] at e;cases e;exact this
 ·left;have:i=x.length-1:=by omega
  subst this;rw[AAt hi] at e;exact Option.some.inj e
theorem WM(C:Cp prog w A E s kd R S)(hk:kindOf st=kd)(hf:failedOf st=none){T p x y z:List Keyed}(sT:∀u∈T,S u)(nT:T.Nodup)(ha:(arrOf st).toList=p++x++y++z)(hp:(arrOf st).toList.Perm T)(px:x.Pairwise (Lt R))(py:y.Pairwise (Lt R))(x0:x≠[])(y0:y≠[])
  (h1:(pendingOf st)[i]?=some (p.length,x.length,pw)) (h2:(pendingOf st)[i+1]?=some (p.length+x.length,y.length,pw'))
  (q:∀(st':SortSt) (m:List Keyed),kindOf st'=kd->failedOf st'=none->pendingOf st'=((pendingOf st).setIfInBounds i (p.length,x.length+y.length,pw)).eraseIdxIfInBounds (i+1)->(arrOf st').toList=p++m++z->m.Pairwise (Lt R)->m.Perm (x++y)->Q true st'):wpS (model prog w) A E s (mergeAt' i) Q st:=by
 have tr:∀{p q r:Keyed},Lt R p q->Lt R q r->Lt R p r:=λh g=>C.tr h g;have nd:(p++x++y++z).Nodup:=by rw[←ha];exact hp.nodup_iff.mpr nT
 have sx:∀u∈x,S u:=λu hu=>sT u (hp.mem_iff.mp (by rw[ha];simp[hu]));have sy:∀u∈y,S u:=λu hu=>sT u (hp.mem_iff.mp (by rw[ha];simp[hu]));have ne:∀u∈x,∀v∈y,u≠v:=λu hu v hv=>by
  have:=(List.nodup_append.mp (List.nodup_append.mp nd).1).2.2;exact this u (AAb _ hu) v hv
 have hax:(arrOf st).toList=p++x++(y++z):=by rw[ha];simp
 have hay:(arrOf st).toList=(p++x)++y++z:=ha;obtain⟨yh,yt,rfl⟩:∃yh yt,y=yh::yt:=by cases y with|nil=>exact absurd rfl y0|cons a b=>exact⟨a,b,rfl⟩
 obtain⟨py1,py2⟩:=AAx.mp py;have yle:∀v∈yh::yt,v=yh∨R yh v=true:=λv hv=>(AAI.mp hv).imp id (py1 v);have ey:=MT (i:=0) (u:=yh) hay rfl;have lp:(p++x).length=p.length+x.length:=AAG;rw[Nat.add_zero,lp] at ey;obtain⟨xl,xe,xm⟩:=Tz x0;have ex:=MT (i:=x.length-1) hax xe;have xpos:0<x.length:=List.length_pos_iff.mpr x0;have cx:=Ru hax;have cy:=Ru hay;rw[lp] at cy;refine wpS_bind (wpS_get ?_);rw[h1,h2];dsimp only;refine wpS_bind (Si ?_);refine wpS_bind (el ey ?_);refine wpS_bind (D3 C (by exact hk) x cx rfl (λu hu=>⟨sx u hu,ne u hu yh AAP⟩) (sy yh AAP) px xpos λk kn ku kv=>?_);dsimp only;have asis:(∀u∈x,∀v∈yh::yt,R u v=true)->∀st':SortSt,kindOf st'=kd->failedOf st'=none->pendingOf st'=((pendingOf st).setIfInBounds i (p.length,x.length+(yh::yt).length,pw)).eraseIdxIfInBounds (i+1)->arrOf st'=arrOf st->Q true st':=λc st' a1 a2 a3 a4=>q st' (x++yh::yt) a1 a2 a3 (by rw[a4,ha];simp) (List.pairwise_append.mpr ⟨px,py,c⟩) (List.Perm.refl _);by_cases z1:x.length-k=0
 ·rw[if_pos (by simpa using z1)];refine wpS_pure (asis (λu hu v hv=>?_) _ hk hf rfl rfl);have:=ku u (by rw[List.take_of_length_le (by omega)];exact hu);rcases yle v hv with rfl|h
  ·exact this
  ·exact tr this h
 rw[if_neg (by simpa using z1)];rw[show p.length+k+(x.length-k)-1=p.length+(x.length-1) by omega];refine wpS_bind (el ex ?_);refine wpS_bind (D3 C (by exact hk) (yh::yt) cy rfl (λu hu=>⟨sy u hu,Ne.symm (ne xl xm u hu)⟩) (sx xl xm) py (by rw[AAH];omega) λk2 kn2 ku2 kv2=>?_);dsimp only;by_cases z2:k2=0
 ·rw[if_pos (by simpa using z2)];refine wpS_pure (asis (λu hu v hv=>?_) _ hk hf rfl rfl);have:=kv2 v (by rw[z2];exact hv);rcases NY px xe hu with rfl|h
  ·exact this
  ·exact tr h this
 rw[if_neg (by simpa using z2)];have tx:((arrOf st).extract (p.length+k) (p.length+x.length)).toList=x.drop k:=by
  rw[show p.length+x.length=p.length+k+(x.length-k) by omega,GQ,←List.drop_drop,hax,AAm,List.drop_left,List.drop_append_of_le_length kn];exact List.take_left' (by rw[List.length_drop])
 have ty:((arrOf st).extract (p.length+x.length) (p.length+x.length+k2)).toList=(yh::yt).take k2:=by
  rw[GQ,hay,AAm (p++x),←lp,List.drop_left,List.take_append_of_le_length kn2]
 have kv':∀u∈x.drop k,R yh u=true:=kv;have fin:∀(r:Array Keyed) (st'':SortSt),Ea R (x.drop k++(yh::yt).take k2) r->Same (SortSt.mk' (kindOf st) (arrOf st) (((pendingOf st).setIfInBounds i (p.length,x.length+(yh::yt).length,pw)).eraseIdxIfInBounds (i+1)) (gallopOf st) (failedOf st)) st''->∀st3:SortSt,kindOf st3=kindOf st''->failedOf st3=failedOf st''->pendingOf st3=pendingOf st''->arrOf st3=(r.toList.zipIdx).foldl (λa p'=>a.setIfInBounds (p.length+k+p'.2) p'.1) (arrOf st'')->Q true st3:=λr st'' gd sm st3 b1 b2 b3 b4=>by
  have rl:r.toList.length=(x.drop k++(yh::yt).take k2).length:=gd.2.length_eq;have hq:(p++x.take k).length=p.length+k+0:=by rw[AAG,List.length_take];omega
  have e0:(arrOf st'').toList=(p++x.take k)++(x.drop k++(yh::yt).take k2)++((yh::yt).drop k2++z):=by
   rw[sm.2.1];show (arrOf st).toList=_;rw[ha];have e1:=List.take_append_drop k x;have e2:=List.take_append_drop k2 (yh::yt)
   calc p++x++(yh::yt)++z=p++(x.take k++x.drop k)++((yh::yt).take k2++(yh::yt).drop k2)++z:=by rw[e1,e2]
    _=_:=by simp only[AAm]
  have e3:=Xi r.toList _ _ _ (arrOf st'') (p.length+k) 0 rl e0 hq;refine q st3 (x.take k++r.toList++(yh::yt).drop k2) (b1.trans (sm.1.trans hk)) (b2.trans (sm.2.2.2.trans hf)) (b3.trans sm.2.2.1) (by rw[b4,e3];simp only[AAm]) ?_ ?_
  ·have mr:∀{v},v∈r.toList->v∈x.drop k∨v∈(yh::yt).take k2:=λhv=>AAJ.mp (gd.2.mem_iff.mp hv);have tk:∀u∈x.take k,∀v∈yh::yt,R u v=true:=λu hu v hv=>by
    rcases yle v hv with rfl|h
    ·exact ku u hu
    ·exact tr (ku u hu) h
   have xtd:∀u∈x.take k,∀v∈x.drop k,R u v=true:=by
    rw[←List.take_append_drop k x] at px;exact(List.pairwise_append.mp px).2.2
   have ytd:∀u∈(yh::yt).take k2,∀v∈(yh::yt).drop k2,R u v=true:=by
    rw[←List.take_append_drop k2 (yh::yt)] at py;exact(List.pairwise_append.mp py).2.2
   refine List.pairwise_append.mpr ⟨List.pairwise_append.mpr ⟨px.sublist (List.take_sublist _ _),gd.1,λu hu v hv=>?_⟩,py.sublist (List.drop_sublist _ _),λu hu v hv=>?_⟩
   ·rcases mr hv with h|h
    ·exact xtd u hu v h
    ·exact tk u hu v (List.mem_of_mem_take h)
   ·rcases AAJ.mp hu with h|h
    ·exact tk u h v (List.mem_of_mem_drop hv)
    ·rcases mr h with h|h
     ·rcases NY px xe (List.mem_of_mem_drop h) with rfl|g
      ·exact kv2 v hv
      ·exact tr g (kv2 v hv)
     ·exact ytd u h v hv
  ·have:=((gd.2.append_left (x.take k)).append_right ((yh::yt).drop k2));refine this.trans ?_;rw[←AAm,List.take_append_drop,AAm,List.take_append_drop]
 have sx':∀u∈((arrOf st).extract (p.length+k) (p.length+x.length)).toList,S u:=λu hu=>sx u (List.mem_of_mem_drop (by rw[tx] at hu;exact hu));have sy':∀u∈((arrOf st).extract (p.length+x.length) (p.length+x.length+k2)).toList,S u:=λu hu=>sy u (List.mem_of_mem_take (by rw[ty] at hu;exact hu));have ne':∀u∈((arrOf st).extract (p.length+k) (p.length+x.length)).toList,∀v∈((arrOf st).extract (p.length+x.length) (p.length+x.length+k2)).toList,u≠v:=λu hu v hv=>ne u (List.mem_of_mem_drop (by rw[tx] at hu;exact hu)) v (List.mem_of_mem_take (by rw[ty] at hv;exact hv));have px':((arrOf st).extract (p.length+k) (p.length+x.length)).toList.Pairwise (Lt R):=by rw[tx];exact px.sublist (List.drop_sublist _ _)
 have py':((arrOf st).extract (p.length+x.length) (p.length+x.length+k2)).toList.Pairwise (Lt R):=by rw[ty];exact py.sublist (List.take_sublist _ _)
 have lx:((arrOf st).extract (p.length+k) (p.length+x.length)).size=x.length-k:=by rw[←Array.length_toList,tx,List.length_drop]
 have ly:((arrOf st).extract (p.length+x.length) (p.length+x.length+k2)).size=k2:=by rw[←Array.length_toList,ty,List.length_take];omega
 have lx0:0<((arrOf st).extract (p.length+k) (p.length+x.length)).size:=by rw[lx];omega
 have ly0:0<((arrOf st).extract (p.length+x.length) (p.length+x.length+k2)).size:=by rw[ly];omega
 have fy:∀v,((arrOf st).extract (p.length+x.length) (p.length+x.length+k2))[0]?=some v->v=yh:=λv e=>by
  rw[←Array.getElem?_toList,ty,List.getElem?_take_of_lt (by omega)] at e;exact(Option.some.inj e).symm
 have lxe:∀u,((arrOf st).extract (p.length+k) (p.length+x.length))[((arrOf st).extract (p.length+k) (p.length+x.length)).size-1]?=some u->u=xl:=λu e=>by
  rw[←Array.getElem?_toList,tx,lx,List.getElem?_drop,show k+(x.length-k-1)=x.length-1 by omega,xe] at e;exact(Option.some.inj e).symm
 have mx:∀{u},u∈((arrOf st).extract (p.length+k) (p.length+x.length)).toList->R yh u=true:=λhu=>kv' _ (by rw[tx] at hu;exact hu);have my:∀{u},u∈((arrOf st).extract (p.length+x.length) (p.length+x.length+k2)).toList->R u xl=true:=λhu=>ku2 _ (by rw[ty] at hu;exact hu);by_cases z3:x.length-k<=k2
 case' pos=>
  rw[if_pos z3];refine wpS_bind (WH C (by exact hk) sx' sy' ne' px' py' (by exact ly0) (by exact lx0) (λu v e1 e2=>?_) (λu e1 v hv=>?_) λr st'' gd sm=>?_)
  ·rw[fy v e2];exact mx (Array.mem_toList_iff.mpr (Array.mem_of_getElem? e1))
  ·rw[lxe u e1];exact my hv
 case' neg=>
  rw[if_neg z3];refine wpS_bind (WJ C (by exact hk) sx' sy' ne' px' py' (by exact ly0) (by exact lx0) (λv e2 u hu=>?_) (λu v e1 e2=>?_) λr st'' gd sm=>?_)
  ·rw[fy v e2];exact mx hu
  ·rw[lxe u e1];exact my (Array.mem_toList_iff.mpr (Array.mem_of_getElem? e2))
 all_goals
  rw[tx,ty] at gd;refine wpS_bind (wpS_modify ?_);refine wpS_bind (wpS_get ?_);refine wpS_pure ?_;have fn:failedOf st''=none:=sm.2.2.2.trans hf;show Q (failedOf st'').isNone _;rw[fn];exact fin r st'' gd sm _ rfl rfl rfl rfl
end
def Kept(st st':SortSt):Prop:=kindOf st'=kindOf st/\pendingOf st'=pendingOf st/\failedOf st'=failedOf st
theorem Kept.rfl{st:SortSt}:Kept st st:=⟨Eq.refl _,Eq.refl _,Eq.refl _⟩
theorem up1{T:Keyed->Keyed->Prop}(tr:∀{p q r:Keyed},T p q->T q r->T p r){u:List Keyed}(h:(u.take n).Pairwise T)(ev:u[n]?=some v)(ew:u[n-1]?=some w)(c:T w v):(u.take (n+1)).Pairwise T:=by
 rw[List.take_add_one,ev];refine List.pairwise_append.mpr ⟨h,List.pairwise_singleton _ _,λa ha b hb=>?_⟩;rw[AAK.mp hb];obtain⟨i,hi,e⟩:=List.mem_iff_getElem.mp ha;have hl:=(AAT.mp ev).1;have hi':i<n:=by rw[List.length_take] at hi;omega
 rw[List.getElem_take] at e;rcases Nat.lt_or_ge i (n-1) with z|z
 ·have:=List.pairwise_iff_getElem.mp h i (n-1) hi (by rw[List.length_take];omega) z;rw[List.getElem_take,List.getElem_take,e] at this;rw[AAt (by omega)] at ew;cases ew;exact tr this c
 ·have:i=n-1:=by omega
  subst this;rw[AAt (by omega),e] at ew;cases ew;exact c
theorem Ia{a:Array Keyed}{p u:List Keyed}(h:a.toList=p++u)(e:u[i]?=some v):a[p.length+i]?=some v:=MT (x:=u) (z:=[]) (by rw[AAa];exact h) e
theorem mir(h:a.toList=p++u)(hn:n<=u.length):(mirror a p.length (p.length+n) ((p.length+n-p.length) / 2)).toList=p++((u.take n).reverse++u.drop n):=by
 have hs:a.size=p.length+u.length:=by rw[←Array.length_toList,h,AAG]
 refine List.ext_getElem? λk=>?_;rw[Array.getElem?_toList,getElem?_mirror_all (by omega)];rcases Nat.lt_or_ge k p.length with z|z
 ·rw[if_neg (by omega),←Array.getElem?_toList,h,AAS z,AAS z]
 ·rw[AAR z];rcases Nat.lt_or_ge k (p.length+n) with y|y
  ·rw[if_pos ⟨z,y⟩,←Array.getElem?_toList,h,AAR (by omega),AAS (by rw[List.length_reverse,List.length_take];omega),List.getElem?_reverse (by rw[List.length_take];omega),List.length_take,List.getElem?_take_of_lt (by omega)];congr 1;omega
  ·rw[if_neg (by omega),←Array.getElem?_toList,h,AAR z,AAR (by rw[List.length_reverse,List.length_take];omega),List.length_reverse,List.length_take,List.getElem?_drop];congr 1;omega
section
variable{prog:Program}{w:World}{A:Around}{E:Value->Shared->Prop}{s:Shared}{kd:SortKind}{R:Keyed->Keyed->Bool}{S:Keyed->Prop}{st:SortSt}
theorem lta(C:Cp prog w A E s kd R S)(hk:kindOf st=kd)(h1:(arrOf st)[i]?=some x)(h2:(arrOf st)[j]?=some y)(sx:S x)(sy:S y)(q:Q (some (R x y)) st):wpS (model prog w) A E s (ltAt' i j) Q st:=by
 refine wpS_bind (wpS_get ?_);exact wpS_bind (el h1 (wpS_bind (el h2 (C.lt hk sx sy q))))
theorem Wp(C:Cp prog w A E s kd R S)(hk:kindOf st=kd){p u:List Keyed}(ha:(arrOf st).toList=p++u)(su:∀v∈u,S v)(nu:u.Nodup)(u0:u≠[])
  (q:∀(st':SortSt) (n:Nat) (u':List Keyed),Kept st st'->(arrOf st').toList=p++u'->1<=n->n<=u.length->u'.Perm u->(u'.take n).Pairwise (Lt R)->Q (some n) st'):wpS (model prog w) A E s (countRun' p.length u.length) Q st:=by
 have tr:∀{p q r:Keyed},Lt R p q->Lt R q r->Lt R p r:=λh g=>C.tr h g;have up:0<u.length:=List.length_pos_iff.mpr u0;have at_:∀{u:List Keyed} {i:Nat},i<u.length->∃v,u[i]?=some v/\v∈u:=λ{u i} hi=>⟨u[i],AAt hi,List.getElem_mem hi⟩;have un:∀{u:List Keyed} {i j:Nat} {v w:Keyed},u.Nodup->u[i]?=some v->u[j]?=some w->i≠j->v≠w:=λ{u i j v w} nu e1 e2 ne z=>by
  obtain⟨h1,e1⟩:=AAT.mp e1;obtain⟨h2,e2⟩:=AAT.mp e2;exact ne ((List.getElem_inj nu).mp (e1.trans (z.trans e2.symm)))
 have one1:(u.take 1).Pairwise (Lt R):=by cases u with|nil=>exact .nil|cons a l=>exact List.pairwise_singleton _ _
 refine wpS_bind (wpS_mono (wpS_forRange (I:=λi c st'=>st'=st/\c=(none,i)/\1<=i/\(u.take i).Pairwise (Lt R)) (Q:=λc st'=>st'=st/\∃n,c=(none,n)/\1<=n/\n<=u.length/\(u.take n).Pairwise (Lt R)/\(n=u.length∨∃v w,u[n]?=some v/\u[n-1]?=some w/\R v w=true)) ?_ ?_ ⟨rfl,rfl,AAE _,one1⟩) ?_)
 ·rintro i c st' _ hi ⟨rfl,rfl,i1,pw⟩;dsimp only;obtain⟨v,e1,m1⟩:=at_ (u:=u) hi;obtain⟨x,e2,m2⟩:=at_ (u:=u) (i:=i-1) (by omega);refine wpS_bind (lta C hk (Ia ha e1) (by rw[show p.length+i-1=p.length+(i-1) by omega];exact Ia ha e2) (su v m1) (su x m2) ?_);cases c:R v x with
  |true=>exact wpS_pure ⟨rfl,i,rfl,i1,by omega,pw,.inr ⟨v,x,e1,e2,c⟩⟩
  |false=>exact wpS_pure ⟨rfl,rfl,by omega,up1 (T:=Lt R) tr pw e1 e2 (C.tot (su v m1) (su x m2) (un nu e1 e2 (by omega)) c)⟩
 ·rintro c st' ⟨rfl,rfl,i1,pw⟩;have:max 1 u.length=u.length:=by omega
  rw[this] at pw i1 ⊢;exact⟨rfl,_,rfl,i1,AAE _,pw,.inl rfl⟩
 rintro c st' ⟨rfl,n,rfl,n1,n2,pw,h⟩;dsimp only;by_cases z1:n=u.length
 ·rw[if_pos (by simpa using z1)];exact wpS_pure (q _ n u .rfl ha n1 n2 (List.Perm.refl _) pw)
 rw[if_neg (by simpa using z1)];by_cases z2:n > 1
 ·rw[if_pos z2];obtain⟨v,e1,m1⟩:=at_ (u:=u) up;obtain⟨x,e2,m2⟩:=at_ (u:=u) (i:=n-1) (by omega);have e1':=Ia ha e1;rw[Nat.add_zero] at e1';refine wpS_bind (lta C hk e1' (by rw[show p.length+n-1=p.length+(n-1) by omega];exact Ia ha e2) (su v m1) (su x m2) ?_);have:R v x=true:=by
   have:=List.pairwise_iff_getElem.mp pw 0 (n-1) (by rw[List.length_take];omega) (by rw[List.length_take];omega) (by omega);rw[List.getElem_take,List.getElem_take] at this;rw[AAt (by omega)] at e1 e2;cases e1;cases e2;exact this
  rw[this];exact wpS_pure (q _ n u .rfl ha n1 n2 (List.Perm.refl _) pw)
 rw[if_neg z2];have n1':n=1:=by omega
 subst n1';obtain⟨v,x,e1,e2,c1⟩:=h.resolve_left z1;have gt:∀{p q r:Keyed},Gt R p q->Gt R q r->Gt R p r:=λh g=>C.tr g h;have pg:(u.take 2).Pairwise (Gt R):=up1 (T:=Gt R) (n:=1) gt (by cases u with|nil=>exact .nil|cons a l=>exact List.pairwise_singleton _ _) e1 e2 c1;refine wpS_bind (wpS_lift (wpAny_rule ⟨rfl,?_⟩));refine wpS_bind (wpS_mono (wpS_forRange (I:=λi c st''=>st''=st'/\c=(none,i,0)/\2<=i/\(u.take i).Pairwise (Gt R)) (Q:=λc st''=>st''=st'/\∃n,c=(none,n,0)/\2<=n/\n<=u.length/\(u.take n).Pairwise (Gt R)) ?_ ?_ ⟨rfl,rfl,AAE _,pg⟩) ?_)
 ·rintro i c st'' _ hi ⟨rfl,rfl,i1,pw⟩;dsimp only;obtain⟨v,e1,m1⟩:=at_ (u:=u) hi;obtain⟨x,e2,m2⟩:=at_ (u:=u) (i:=i-1) (by omega);have g1:=Ia ha e1;have g2:(arrOf st'')[p.length+i-1]?=some x:=by rw[show p.length+i-1=p.length+(i-1) by omega];exact Ia ha e2
  refine wpS_bind (lta C hk g1 g2 (su v m1) (su x m2) ?_);cases c:R v x with
  |true=>exact wpS_pure ⟨rfl,rfl,by omega,up1 (T:=Gt R) gt pw e1 e2 c⟩
  |false=>
   dsimp only;rw[if_neg (by decide)];refine wpS_bind (lta C hk g2 g1 (su x m2) (su v m1) ?_);rw[C.tot (su v m1) (su x m2) (un nu e1 e2 (by omega)) c];exact wpS_pure ⟨rfl,i,rfl,i1,by omega,pw⟩
 ·rintro c st'' ⟨rfl,rfl,i1,pw⟩;have l2:2<=u.length:=(AAT.mp e1).1;have:max (1+1) u.length=u.length:=by omega
  rw[this] at pw i1 ⊢;exact⟨rfl,_,rfl,i1,AAE _,pw⟩
 rintro c st'' ⟨rfl,n,rfl,m1,m2,pw'⟩;dsimp only;rw[if_neg (by omega)];refine wpS_bind (wpS_modify ?_);have hm:=mir ha m2;have tk:((u.take n).reverse++u.drop n).take n=(u.take n).reverse:=List.take_left' (by rw[List.length_reverse,List.length_take];omega);have pm:((u.take n).reverse++u.drop n).Perm u:=((List.reverse_perm _).append_right _).trans (by rw[List.take_append_drop]);have pw2:(((u.take n).reverse++u.drop n).take n).Pairwise (Lt R):=by rw[tk];exact List.pairwise_reverse.mpr pw'
 have nu':=pm.nodup_iff.mpr nu;have su':∀v∈(u.take n).reverse++u.drop n,S v:=λv hv=>su v (pm.mem_iff.mp hv);have ln:=pm.length_eq;generalize (u.take n).reverse++u.drop n=u2 at hm pm pw2 nu' su' ln;have kp:Kept st'' (setArr st'' (mirror (arrOf st'') p.length (p.length+n) ((p.length+n-p.length) / 2))):=⟨rfl,rfl,rfl⟩;have hk2:kindOf (setArr st'' (mirror (arrOf st'') p.length (p.length+n) ((p.length+n-p.length) / 2)))=kd:=hk;show wpS _ _ _ _ _ _ (setArr st'' (mirror (arrOf st'') p.length (p.length+n) ((p.length+n-p.length) / 2)));have hm2:(arrOf (setArr st'' (mirror (arrOf st'') p.length (p.length+n) ((p.length+n-p.length) / 2)))).toList=p++u2:=hm;generalize setArr st'' (mirror (arrOf st'') p.length (p.length+n) ((p.length+n-p.length) / 2))=st2 at kp hk2 hm2;refine wpS_bind (wpS_mono (wpS_forRange (I:=λi c st3=>st3=st2/\c=(none,i)/\1<=i/\(u2.take i).Pairwise (Lt R)) (Q:=λc st3=>st3=st2/\∃n,c=(none,n)/\1<=n/\n<=u.length/\(u2.take n).Pairwise (Lt R)) ?_ ?_ ⟨rfl,rfl,by omega,pw2⟩) ?_)
 ·rintro i c st3 _ hi ⟨rfl,rfl,i1,pw⟩;dsimp only;obtain⟨v,e1,m1⟩:=at_ (u:=u2) (i:=i) (by omega);obtain⟨x,e2,m2⟩:=at_ (u:=u2) (i:=i-1) (by omega);refine wpS_bind (lta C hk2 (Ia hm2 e1) (by rw[show p.length+i-1=p.length+(i-1) by omega];exact Ia hm2 e2) (su' v m1) (su' x m2) ?_);cases c:R v x with
  |true=>exact wpS_pure ⟨rfl,i,rfl,i1,by omega,pw⟩
  |false=>exact wpS_pure ⟨rfl,rfl,by omega,up1 (T:=Lt R) tr pw e1 e2 (C.tot (su' v m1) (su' x m2) (un nu' e1 e2 (by omega)) c)⟩
 ·rintro c st3 ⟨rfl,rfl,i1,pw⟩;have:max n u.length=u.length:=by omega
  rw[this] at pw i1 ⊢;exact⟨rfl,_,rfl,i1,AAE _,pw⟩
 rintro c st3 ⟨rfl,n3,rfl,k1,k2,pw3⟩;exact wpS_pure (q _ n3 u2 kp hm2 k1 k2 pm pw3)
end
noncomputable def ins(u:List Keyed)(k m:Nat)(v:Keyed):List Keyed:=u.take m++v::((u.take k).drop m++u.drop (k+1))
theorem bub(h:a.toList=p++u)(ev:u[k]?=some v)(hm:m<=k):(bubble a (p.length+k) (p.length+k-(p.length+m))).toList=p++ins u k m v:=by
 have hk:=(AAT.mp ev).1;have hs:a.size=p.length+u.length:=by rw[←Array.length_toList,h,AAG]
 have A:∀i,a[i]?=if i<p.length then p[i]? else u[i-p.length]?:=λi=>by
  rw[←Array.getElem?_toList,h];split
  ·rename_i z;rw[AAS z]
  ·rename_i z;rw[AAR (by omega)]
 refine List.ext_getElem? λj=>?_;rw[Array.getElem?_toList,getElem?_bubble (by omega) _ (by omega),A,A,A];unfold ins;rcases Nat.lt_or_ge j p.length with z|z
 ·rw[AAS z,if_neg (by omega),if_neg (by omega),if_pos z]
 ·rw[AAR z];obtain⟨i,rfl⟩:∃i,j=p.length+i:=⟨j-p.length,by omega⟩;rw[show p.length+i-p.length=i by omega,show p.length+k-p.length=k by omega];have l1:(u.take m).length=m:=by rw[List.length_take];omega
  have l2:((u.take k).drop m).length=k-m:=by rw[List.length_drop,List.length_take];omega
  rcases Nat.lt_or_ge i m with y|y
  ·rw[AAS (by omega),List.getElem?_take_of_lt y,if_neg (by omega),if_neg (by omega),if_neg (by omega)]
  ·rw[AAR (by omega),l1];by_cases e:i=m
   ·subst e;rw[AAu,List.getElem?_cons_zero,if_pos (by omega),if_neg (by omega)];exact ev
   ·obtain⟨t,rfl⟩:∃t,i=m+(t+1):=⟨i-m-1,by omega⟩;rw[show m+(t+1)-m=t+1 by omega,List.getElem?_cons_succ,if_neg (by omega)];rcases Nat.lt_or_ge t (k-m) with x|x
    ·rw[AAS (by omega),List.getElem?_drop,List.getElem?_take_of_lt (by omega),if_pos (by omega),if_neg (by omega)];congr 1;omega
    ·rw[AAR (by omega),l2,List.getElem?_drop,if_neg (by omega),if_neg (by omega)];congr 1;omega
theorem RK(ev:u[k]?=some v)(hm:m<=k):(ins u k m v).Perm u:=by
 obtain⟨hk,e⟩:=AAT.mp ev;have h1:u=u.take k++v::u.drop (k+1):=by rw[←e,←List.drop_eq_getElem_cons hk,List.take_append_drop]
 have h2:u.take k=u.take m++(u.take k).drop m:=by
  have:=List.take_append_drop m (u.take k);rw[List.take_take,Nat.min_eq_left hm] at this;exact this.symm
 have h3:u=u.take m++((u.take k).drop m++v::u.drop (k+1)):=by
  rw[←AAm,←h2];exact h1
 unfold ins;refine List.Perm.trans ?_ (List.Perm.of_eq h3.symm);exact List.Perm.append_left _ List.perm_middle.symm
section
variable{prog:Program}{w:World}{A:Around}{E:Value->Shared->Prop}{s:Shared}{kd:SortKind}{R:Keyed->Keyed->Bool}{S:Keyed->Prop}{st:SortSt}
theorem Kept.trans(h:Kept a b)(g:Kept b c):Kept a c:=⟨g.1.trans h.1,g.2.1.trans h.2.1,g.2.2.trans h.2.2⟩
theorem Wr(C:Cp prog w A E s kd R S)(hk:kindOf st=kd)(ha:(arrOf st).toList=p++u)(su:∀v∈u,S v)(nu:u.Nodup)(o1:1<=ok)(on:ok<=n)(nl:n<=u.length)(pw:(u.take ok).Pairwise (Lt R))
  (q:∀(st':SortSt) (u':List Keyed),Kept st st'->(arrOf st').toList=p++u'->u'.Perm u->(u'.take n).Pairwise (Lt R)->Q true st'):wpS (model prog w) A E s (binarySort' p.length n ok) Q st:=by
 have tr:∀{p q r:Keyed},Lt R p q->Lt R q r->Lt R p r:=λh g=>C.tr h g;refine wpS_bind (wpS_mono (wpS_forRange (I:=λk c st'=>c=(none,())/\Kept st st'/\∃u',(arrOf st').toList=p++u'/\u'.Perm u/\(u'.take k).Pairwise (Lt R)) (Q:=λc st'=>c=(none,())/\Kept st st'/\∃u',(arrOf st').toList=p++u'/\u'.Perm u/\(u'.take n).Pairwise (Lt R)) ?_ ?_ ⟨rfl,.rfl,u,ha,List.Perm.refl _,by rw[Nat.max_eq_left o1];exact pw⟩) ?_)
 ·rintro k c st' k1 kn ⟨rfl,kp,u',ha',pm,pw'⟩;dsimp only;have hk':kindOf st'=kd:=kp.1.trans hk;have ln:=pm.length_eq;have nu':=pm.nodup_iff.mpr nu;have su':∀v∈u',S v:=λv hv=>su v (pm.mem_iff.mp hv);have hkl:k<u'.length:=by omega
  obtain⟨v,ev,mv⟩:∃v,u'[k]?=some v/\v∈u':=⟨u'[k],AAt hkl,List.getElem_mem hkl⟩;have at_:∀{i:Nat},i<k->∃x,u'[i]?=some x/\x∈u'/\x≠v:=λ{i} hi=>⟨u'[i],AAt (by omega),List.getElem_mem _,λz=>by
   obtain⟨h1,e1⟩:=AAT.mp ev;have:=(List.getElem_inj nu').mp (z.trans e1.symm);omega⟩
  have ord:∀{i j:Nat} {x y:Keyed},i<j->j<k->u'[i]?=some x->u'[j]?=some y->R x y=true:=λ{i j x y} h1 h2 e1 e2=>by
   have:=List.pairwise_iff_getElem.mp pw' i j (by rw[List.length_take];omega) (by rw[List.length_take];omega) h1;rw[List.getElem_take,List.getElem_take] at this;rw[AAt (by omega)] at e1 e2;cases e1;cases e2;exact this
  refine wpS_bind (wpS_mono (wpS_forRange (I:=λi c st''=>st''=st'/\∃l r,c=(none,l,r)/\l<=r/\r<=k/\r-l<=k-i/\(∀j x,j<l->u'[j]?=some x->R x v=true)/\(∀j x,r<=j->j<k->u'[j]?=some x->R v x=true)) (Q:=λc st''=>st''=st'/\∃l,c=(none,l,l)/\l<=k/\(∀j x,j<l->u'[j]?=some x->R x v=true)/\(∀j x,l<=j->j<k->u'[j]?=some x->R v x=true)) ?_ ?_ ⟨rfl,0,k,rfl,AAk _,AAE _,by omega,(λj x h=>absurd h (Nat.not_lt_zero j)),λj x h1 h2=>by omega⟩) ?_)
  ·rintro i c st'' _ hi ⟨rfl,l,r,rfl,h1,h2,h3,h4,h5⟩;dsimp only;by_cases z:l ≥ r
   ·rw[if_pos z];have:l=r:=by omega
    subst this;exact wpS_pure ⟨rfl,l,rfl,h2,h4,h5⟩
   ·rw[if_neg z];obtain⟨x,e1,m1,ne⟩:=at_ (i:=(l+r) / 2) (by omega);refine wpS_bind (lta C hk' (Ia ha' ev) (Ia ha' e1) (su' v mv) (su' x m1) ?_);cases c:R v x with
    |true=>
     refine wpS_pure ⟨rfl,l,_,rfl,by omega,by omega,by omega,h4,λj y j1 j2 ey=>?_⟩;rcases Nat.lt_or_ge ((l+r) / 2) j with t|t
     ·exact tr c (ord t j2 e1 ey)
     ·have:j=(l+r) / 2:=by omega
      subst this;rw[e1] at ey;cases ey;exact c
    |false=>
     have c':=C.tot (su' v mv) (su' x m1) (Ne.symm ne) c;refine wpS_pure ⟨rfl,_,r,rfl,by omega,h2,by omega,λj y j1 ey=>?_,h5⟩;rcases Nat.lt_or_ge j ((l+r) / 2) with t|t
     ·exact tr (ord t (by omega) ey e1) c'
     ·have:j=(l+r) / 2:=by omega
      subst this;rw[e1] at ey;cases ey;exact c'
  ·rintro c st'' ⟨rfl,l,r,rfl,h1,h2,h3,h4,h5⟩;have:l=r:=by omega
   subst this;exact⟨rfl,l,rfl,h2,h4,h5⟩
  ·rintro c st'' ⟨rfl,m,rfl,h2,h4,h5⟩;dsimp only;refine wpS_bind (wpS_modify (wpS_pure ?_));refine⟨rfl,kp.trans ⟨rfl,rfl,rfl⟩,ins u' k m v,bub ha' ev h2,(RK ev h2).trans pm,?_⟩;have l1:(u'.take m).length=m:=by rw[List.length_take];omega
   have l2:((u'.take k).drop m).length=k-m:=by rw[List.length_drop,List.length_take];omega
   have tk:(ins u' k m v).take (k+1)=u'.take m++v::(u'.take k).drop m:=by
    unfold ins;rw[←List.cons_append,←AAm];exact List.take_left' (by rw[AAG,AAH,l1,l2];omega)
   rw[tk];have sp:(u'.take m++(u'.take k).drop m).Pairwise (Lt R):=by
    have:=List.take_append_drop m (u'.take k);rw[List.take_take,Nat.min_eq_left h2] at this;rw[this];exact pw'
   obtain⟨s1,s2,s3⟩:=List.pairwise_append.mp sp;have f1:∀a∈u'.take m,R a v=true:=λa ma=>by
    obtain⟨i,hi,e⟩:=List.mem_iff_getElem.mp ma;rw[List.getElem_take] at e;exact h4 i a (by omega) (by rw[AAt (by omega),e])
   have f2:∀a∈(u'.take k).drop m,R v a=true:=λa ma=>by
    obtain⟨i,hi,e⟩:=List.mem_iff_getElem.mp ma;rw[List.getElem_drop,List.getElem_take] at e;exact h5 (m+i) a (by omega) (by omega) (by rw[AAt (by omega),e])
   refine List.pairwise_append.mpr ⟨s1,AAx.mpr ⟨f2,s2⟩,λa ma b mb=>?_⟩;rcases AAI.mp mb with rfl|mb
   ·exact f1 a ma
   ·exact s3 a ma b mb
 ·rintro c st' ⟨rfl,kp,u',ha',pm,pw'⟩;refine⟨rfl,kp,u',ha',pm,?_⟩;rw[show max (max ok 1) n=n by omega] at pw';exact pw'
 ·rintro c st' ⟨rfl,kp,u',ha',pm,pw'⟩;exact wpS_pure (q st' u' kp ha' pm pw')
end
noncomputable def DV:Nat->List (List Keyed)->List (Nat×Nat)
 |_,[]=>[]
 |o,r::rs=>(o,r.length)::DV (o+r.length) rs
theorem FV:∀(o:Nat) (rs:List (List Keyed)),(DV o rs).length=rs.length
 |_,[]=>rfl
 |o,r::rs=>congrArg (·+1) (FV (o+r.length) rs)
theorem EE:∀(o:Nat) (a b:List (List Keyed)),DV o (a++b)=DV o a++DV (o+a.flatten.length) b
 |_,[],_=>rfl
 |o,r::a,b=>by
  show _::DV _ (a++b)=_::(DV _ a++_);rw[EE (o+r.length) a b,List.flatten_cons,AAG,Nat.add_assoc]
noncomputable abbrev k2(t:Nat×Nat×Nat):Nat×Nat:=(t.1,t.2.1)
structure Iv(kd:SortKind)(R:Keyed->Keyed->Bool)(T:List Keyed)(st:SortSt)(rs:List (List Keyed))(rest:List Keyed):Prop where
 kd:kindOf st=kd
 fl:failedOf st=none
 pm:(arrOf st).toList.Perm T
 ar:(arrOf st).toList=rs.flatten++rest
 pd:(pendingOf st).toList.map k2=DV 0 rs
 sr:∀r∈rs,r≠[]/\r.Pairwise (Lt R)
section
variable{prog:Program}{w:World}{A:Around}{E:Value->Shared->Prop}{s:Shared}{kd:SortKind}{R:Keyed->Keyed->Bool}{S:Keyed->Prop}{st:SortSt}{T rest:List Keyed}{rs:List (List Keyed)}
theorem Iv.size(v:Iv kd R T st rs rest):(pendingOf st).size=rs.length:=by
 have:=congrArg List.length v.pd;rw[AAF,FV,Array.length_toList] at this;exact this
theorem Jk(h:i+1<l.length):∃a x y b,l=a++x::y::b/\a.length=i/\l[i]?=some x/\l[i+1]?=some y:=by
 refine⟨l.take i,l[i],l[i+1],l.drop (i+2),?_,by rw[List.length_take];omega,AAt _,AAt _⟩;rw[←List.drop_eq_getElem_cons,←List.drop_eq_getElem_cons,List.take_append_drop]
theorem Ot:((a++x::y::b).set a.length z).eraseIdx (a.length+1)=a++z::b:=by
 rw[AAg _ _ (AAE _),AAu,List.set_cons_zero,List.eraseIdx_append_of_length_le (by omega),Nat.add_sub_cancel_left];rfl
theorem X8(C:Cp prog w A E s kd R S)(sT:∀u∈T,S u)(nT:T.Nodup)(v:Iv kd R T st rs rest)(hi:i+1<rs.length)(q:∀st' rs',Iv kd R T st' rs' rest->rs'.flatten.length=rs.flatten.length->rs'.length+1=rs.length->Q true st'):wpS (model prog w) A E s (mergeAt' i) Q st:=by
 obtain⟨a,x,y,b,e,al,_,_⟩:=Jk hi;subst e;obtain⟨pa,p1,p2,pb,e,pl,g1,g2⟩:=Jk (l:=(pendingOf st).toList) (i:=i) (by rw[Array.length_toList,v.size];exact hi);have pd:=v.pd;rw[e,EE,AAX] at pd;obtain⟨d1,d2⟩:=List.append_inj pd (by rw[AAF,FV];omega);rw[Nat.zero_add,AAW,AAW] at d2;obtain⟨d3,d4⟩:=List.cons.inj d2;obtain⟨d4,d5⟩:=List.cons.inj d4;obtain⟨a1,a2,a3⟩:=p1;obtain⟨b1,b2,b3⟩:=p2;cases d3;cases d4;obtain⟨x0,px⟩:=v.sr x (by simp);obtain⟨y0,py⟩:=v.sr y (by simp);have ar:=v.ar;rw[List.flatten_append,List.flatten_cons,List.flatten_cons] at ar;refine WM C v.kd v.fl sT nT (p:=a.flatten) (x:=x) (y:=y) (z:=b.flatten++rest) (by rw[ar];simp only[AAm]) v.pm px py x0 y0 (by rw[←Array.getElem?_toList];exact g1) (by rw[←Array.getElem?_toList];exact g2) λst' m h1 h2 h3 h4 h5 h6=>?_;have lm:m.length=x.length+y.length:=by have:=h6.length_eq;rw[AAG] at this;exact this
 refine q st' (a++m::b) ⟨h1,h2,?_,by rw[h4,List.flatten_append,List.flatten_cons];simp only[AAm],?_,λr hr=>?_⟩ ?_ ?_
 ·refine List.Perm.trans ?_ v.pm;rw[h4,ar];have:=((h6.append_left a.flatten).append_right (b.flatten++rest));refine this.trans (List.Perm.of_eq ?_);simp only[AAm]
 ·rw[h3,Array.toList_eraseIdxIfInBounds,Array.toList_setIfInBounds,e,←pl,Ot,EE,AAX,AAW,d1];show _=DV 0 a++(_,m.length)::DV _ b;rw[lm,Nat.zero_add,←Nat.add_assoc,←d5]
 ·rcases AAJ.mp hr with z|z
  ·exact v.sr r (AAc _ z)
  ·rcases AAI.mp z with rfl|z
   ·exact⟨λe=>by rw[e] at lm;exact x0 (List.eq_nil_of_length_eq_zero (by simp at lm;omega)),h5⟩
   ·exact v.sr r (by simp[z])
 ·rw[List.flatten_append,List.flatten_cons,List.flatten_append,List.flatten_cons,List.flatten_cons];simp only[AAG];omega
 ·rw[AAG,AAG,AAH,AAH,AAH];omega
end
section
variable{prog:Program}{w:World}{A:Around}{E:Value->Shared->Prop}{s:Shared}{kd:SortKind}{R:Keyed->Keyed->Bool}{S:Keyed->Prop}{st:SortSt}{T rest:List Keyed}{rs:List (List Keyed)}
theorem k2_modify{a:Array (Nat×Nat×Nat)}:(a.modify i λx=>(x.1,x.2.1,pw)).toList.map k2=a.toList.map k2:=by
 rw[Array.toList_modify];refine List.ext_getElem? λj=>?_;rw[AAV,AAV,List.getElem?_modify];cases a.toList[j]? with
 |none=>rfl
 |some t=>
  by_cases e:i=j
  ·subst e;simp
  ·simp[e]
theorem Nn:∀{rs:List (List Keyed)},(∀r∈rs,r≠[]/\r.Pairwise (Lt R))->rs.length<=rs.flatten.length
 |[],_=>AAE _
 |r::rs,h=>by
  have ih:=Nn λx hx=>h x (AAQ _ hx);have:=List.length_pos_iff.mpr (h r AAP).1;rw[List.flatten_cons,AAG,AAH];omega
theorem sort_of(C:Cp prog w A E s kd R S)(hk:kindOf st=kd)(hf:failedOf st=none)(hp:pendingOf st=#[])(ha:(arrOf st).toList=T)(sT:∀u∈T,S u)(nT:T.Nodup){Q:Unit->SortSt->Prop}
  (q:∀st',(arrOf st').toList.Perm T->(arrOf st').toList.Pairwise (Lt R)->failedOf st'=none->Q () st'):wpS (model prog w) A E s sortRuns' Q st:=by
 have sz:(arrOf st).size=T.length:=by rw[←Array.length_toList,ha]
 have fl:∀{st:SortSt} {rs:List (List Keyed)} {rest:List Keyed},Iv kd R T st rs rest->rs.flatten.length+rest.length=T.length:=λ{st rs rest} v=>by
  have:=v.pm.length_eq;rw[v.ar,AAG] at this;exact this
 refine wpS_bind (wpS_get ?_);dsimp only;rw[sz];generalize (sortPriv% PySem.Builtin.minRun) T.length T.length 0=mr;refine wpS_bind (wpS_mono (wpS_forRange (I:=λi c st'=>∃rs rest,c=(none,rs.flatten.length)/\Iv kd R T st' rs rest/\i<=rs.flatten.length) (Q:=λc st'=>∃rs,c=(none,T.length)/\Iv kd R T st' rs []) ?_ ?_ ⟨[],T,rfl,⟨hk,hf,by rw[ha],ha,by rw[hp];rfl,(λr h=>nomatch h)⟩,AAE _⟩) ?_)
 ·rintro i c st' _ hi ⟨rs,rest,rfl,v,il⟩;dsimp only;have ft:=fl v;by_cases z:rs.flatten.length ≥ T.length
  ·rw[if_pos z];have r0:rest=[]:=List.eq_nil_of_length_eq_zero (by omega);subst r0;rw[List.length_nil] at ft;exact wpS_pure ⟨rs,by rw[←ft,Nat.add_zero],v⟩
  rw[if_neg z];have rne:rest≠[]:=λe=>by rw[e,List.length_nil] at ft;omega
  have lr:T.length-rs.flatten.length=rest.length:=by omega
  have nd:(rs.flatten++rest).Nodup:=by rw[←v.ar];exact v.pm.nodup_iff.mpr nT
  have sr:∀u∈rest,S u:=λu hu=>sT u (v.pm.mem_iff.mp (by rw[v.ar];exact AAb _ hu));have nr:=(List.nodup_append.mp nd).2.1;have cont:∀{st1:SortSt} {u:List Keyed},Kept st' st1->(arrOf st1).toList=rs.flatten++u->u.Perm rest->Iv kd R T st1 rs u:=λ{st1 u} kp h1 h2=>⟨kp.1.trans v.kd,kp.2.2.trans v.fl,by rw[h1];exact((h2.append_left rs.flatten).trans (by rw[←v.ar])).trans v.pm,h1,by rw[kp.2.1];exact v.pd,v.sr⟩;have psh:∀{st5:SortSt} {rs5:List (List Keyed)} {u:List Keyed} {n:Nat},Iv kd R T st5 rs5 u->rs5.flatten.length=rs.flatten.length->1<=n->n<=u.length->(u.take n).Pairwise (Lt R)->∃rs6 rest6,((none:Option Unit),rs.flatten.length+n)=(none,List.length (List.flatten rs6))/\Iv kd R T (SortSt.mk' (kindOf st5) (arrOf st5) ((pendingOf st5).push (rs.flatten.length,n,0)) (gallopOf st5) (failedOf st5)) rs6 rest6/\i+1<=(List.flatten rs6).length:=λ{st5 rs5 u n} v5 l5 n1 n2 pw=>by
   have lt:(u.take n).length=n:=by rw[List.length_take];omega
   have lf:(rs5++[u.take n]).flatten.length=rs.flatten.length+n:=by rw[List.flatten_append,AAG,List.flatten_cons,List.flatten_nil,AAa,lt,l5]
   refine⟨rs5++[u.take n],u.drop n,by rw[lf],⟨v5.kd,v5.fl,v5.pm,?_,?_,λr hr=>?_⟩,by rw[lf];omega⟩
   ·show (arrOf st5).toList=_;rw[v5.ar,List.flatten_append,List.flatten_cons,List.flatten_nil,AAa,AAm,List.take_append_drop]
   ·show ((pendingOf st5).push (rs.flatten.length,n,0)).toList.map k2=_;rw[Array.toList_push,AAX,v5.pd,EE,Nat.zero_add,l5];show _=DV 0 rs5++[(_,(u.take n).length)];rw[lt];rfl
   ·rcases AAJ.mp hr with y|y
    ·exact v5.sr r y
    ·rw[AAK.mp y];exact⟨λe=>by rw[e] at lt;simp at lt;omega,pw⟩
  rw[lr];refine wpS_bind (Wp C v.kd v.ar sr nr rne λst1 n u kp h1 n1 n2 pm pw=>?_);dsimp only;have v1:=cont kp h1 pm;have lu:u.length=rest.length:=pm.length_eq;have n2:n<=u.length:=by omega
  by_cases z2:n<mr
  case' pos=>
   rw[if_pos z2];refine wpS_bind (wpS_lift (wpAny_rule ⟨rfl,?_⟩));refine wpS_bind (Wr C v1.kd h1 (λx hx=>sr x (pm.mem_iff.mp hx)) (pm.nodup_iff.mpr nr) n1 (by omega) (by omega) pw λst1 u kp2 h2 pm2 pw=>?_);rw[if_neg (by decide)];have v1:=cont (kp.trans kp2) h2 (pm2.trans pm);have lu2:=pm2.length_eq;have n2:min rest.length mr<=u.length:=by omega
   have n1:1<=min rest.length mr:=by omega
   generalize min rest.length mr=n at n1 n2 pw ⊢
  case' neg=>rw[if_neg z2]
  all_goals
   refine wpS_bind (wpS_get ?_);cases hb:(pendingOf st1).back? with
   |none=>
    exact wpS_bind (wpS_modify (wpS_pure (psh v1 rfl n1 n2 pw)))
   |some t=>
    obtain⟨s1,m1,x⟩:=t;dsimp only;refine wpS_bind (wpS_mono (wpS_forRange (I:=λ_ c st3=>c=(none,())/\∃rs',Iv kd R T st3 rs' u/\rs'.flatten.length=rs.flatten.length) (Q:=λc st3=>c=(none,())/\∃rs',Iv kd R T st3 rs' u/\rs'.flatten.length=rs.flatten.length) ?_ (λc st3 h=>h) ⟨rfl,rs,v1,rfl⟩) ?_)
    ·rintro i' c st3 _ _ ⟨rfl,rs',v',l'⟩;refine wpS_bind (wpS_get ?_);have ps:=v'.size;by_cases y:(pendingOf st3).size > 1
     ·rw[if_pos y];rw[show (pendingOf st3)[(pendingOf st3).size-2]?=some (pendingOf st3)[(pendingOf st3).size-2] from Array.getElem?_eq_getElem _];dsimp only;split
      ·exact wpS_pure ⟨rfl,rs',v',l'⟩
      ·refine wpS_bind (X8 C sT nT v' (by show (pendingOf st3).size-2+1<_;omega) λst4 rs4 v4 l4 _=>?_);rw[if_neg (by decide)];exact wpS_pure ⟨rfl,rs4,v4,l4.trans l'⟩
     ·rw[if_neg y];exact wpS_pure ⟨rfl,rs',v',l'⟩
    ·rintro c st3 ⟨rfl,rs',v',l'⟩;dsimp only;refine wpS_bind (wpS_modify ?_);refine wpS_bind (wpS_modify (wpS_pure ?_));exact psh (st5:=SortSt.mk' (kindOf st3) (arrOf st3) ((pendingOf st3).modify ((pendingOf st3).size-1) λx=>(x.1,x.2.1,_)) (gallopOf st3) (failedOf st3)) ⟨v'.kd,v'.fl,v'.pm,v'.ar,k2_modify.trans v'.pd,v'.sr⟩ l' n1 n2 pw
 ·rintro c st' ⟨rs,rest,rfl,v,il⟩;have ft:=fl v;have r0:rest=[]:=List.eq_nil_of_length_eq_zero (by omega);subst r0;rw[List.length_nil] at ft;exact⟨rs,by rw[←ft,Nat.add_zero],v⟩
 rintro c st' ⟨rs,rfl,v⟩;dsimp only;have ft:=fl v;refine wpS_bind (wpS_mono (wpS_forRange (I:=λi c st''=>c=(none,())/\∃rs,Iv kd R T st'' rs []/\(rs.length<=1∨rs.length+i<=T.length)) (Q:=λc st''=>c=(none,())/\∃rs,Iv kd R T st'' rs []/\rs.length<=1) ?_ ?_ ⟨rfl,rs,v,.inr (by have:=Nn v.sr;rw[List.length_nil] at ft;omega)⟩) ?_)
 ·rintro i c st'' _ hi ⟨rfl,rs,v,h⟩;refine wpS_bind (wpS_get ?_);have ps:=v.size;by_cases z:(pendingOf st'').size<=1
  ·rw[if_pos z];exact wpS_pure ⟨rfl,rs,v,by omega⟩
  rw[if_neg z];refine wpS_bind (X8 C sT nT v ?_ λst3 rs3 v3 l1 l2=>?_)
  ·have:∀(c:Bool),(if c=true then (pendingOf st'').size-2-1 else (pendingOf st'').size-2)+1<rs.length:=λc=>by cases c<;>simp<;>omega
   exact this _
  ·rw[if_neg (by decide)];exact wpS_pure ⟨rfl,rs3,v3,by omega⟩
 ·rintro c st'' ⟨rfl,rs,v,h⟩;exact⟨rfl,rs,v,by omega⟩
 ·rintro c st'' ⟨rfl,rs,v,h⟩;refine wpS_pure (q st'' v.pm ?_ v.fl);rw[v.ar,AAa]
  match rs,h,v.sr with
  |[],_,_=>exact .nil
  |[r],_,sr=>rw[List.flatten_cons,List.flatten_nil,AAa];exact(sr r AAP).2
end
end Tm
namespace Nk
open PySem PySem.Spec PyProof.Rows HT
open Classical in
noncomputable def cd(h:Heap)(ks:List Cs)(v:Value):Cs:=if z:∃k,k∈ks/\At h (csK k) v then choose z else ZK
theorem N3(m:k∈ks)(a:At h (csK k) v):cd h ks v=k:=by
 have z:∃k,k∈ks/\At h (csK k) v:=⟨k,m,a⟩;unfold cd;rw[dif_pos z];exact F3 (At.inj (Classical.choose_spec z).2 a)
theorem Ats.cds(kp:∀k v,At h k v->At g k v):∀{js:List Cs} {vs:List Value},(∀j∈js,j∈ks)->Ats h (js.map csK) vs->vs.map (cd g ks)=js
 |[],_,_,a=>by
  unfold List.map Ats at a;subst a;rfl
 |j::js,_,m,a=>by
  unfold List.map Ats at a;obtain⟨v,vs,rfl,a1,a2⟩:=a;rw[AAW,N3 (m j AAP) (kp _ _ a1),Ats.cds kp (λx hx=>m x (AAQ _ hx)) a2]
theorem Ats.mem{h:Heap}{ks:List Cs}(a:Ats h (ks.map csK) vs)(hv:v∈vs):∃k∈ks,At h (csK k) v:=by
 obtain⟨i,hi,e⟩:=List.mem_iff_getElem.mp hv;have hl:vs.length=ks.length:=by have:=a.len;simpa using this
 obtain⟨v',e1,e2⟩:=a.get i (csK (ks[i]'(by omega))) (by rw[AAV,AAt (by omega)];rfl);rw[AAt hi,e] at e1;cases e1;exact⟨_,List.getElem_mem _,e2⟩
theorem EO:∀{xs:List α},(xs.map f).Nodup->xs.Nodup
 |[],_=>List.nodup_nil
 |x::xs,h=>by
  rw[AAW] at h;obtain⟨a,b⟩:=List.nodup_cons.mp h;exact List.nodup_cons.mpr ⟨λz=>a (AAL.mpr ⟨x,z,rfl⟩),EO b⟩
theorem MS{α β:Type}{f:α->β}{xs:List α}(h:(xs.map f).Nodup){a b:α}(ha:a∈xs)(hb:b∈xs)(e:f a=f b):a=b:=by
 obtain⟨i,hi,rfl⟩:=List.mem_iff_getElem.mp ha;obtain⟨j,hj,rfl⟩:=List.mem_iff_getElem.mp hb;have:i=j:=(List.getElem_inj (h₀:=by rw[AAF];exact hi) (h₁:=by rw[AAF];exact hj) h).mp (by rw[List.getElem_map,List.getElem_map];exact e);subst this;rfl
section
variable{prog:Program}{w:World}{A:Around}{E:Value->Shared->Prop}{s:Shared}
theorem YX{ks:List Cs}{vs:List Value}(hu:A.units+8<cLine)(hk:Ats s.heap (ks.map csK) vs)(nd:ks.Nodup):Tm.Cp prog w A E s (tuples' true) (λx y=>cLt (cd s.heap ks x.1) (cd s.heap ks y.1)) (λx=>x.1=x.2/\x.1∈vs) where
 lt:=λ{st x y Q} hkd sx sy q=>by
  obtain⟨a,ma,aa⟩:=hk.mem sx.2;obtain⟨b,mb,ab⟩:=hk.mem sy.2;rw[N3 ma aa,N3 mb ab] at q;rw[lt'_eq];refine wpS_bind (wpS_get ?_);rw[hkd];refine wpS_bind (wpS_lift (wpAny_attempt (YW hu aa ab ⟨rfl,?_⟩)));exact wpS_pure q
 tot:=λ{x y} sx sy ne q=>by
  have ev:=hk.cds (ks:=ks) (g:=s.heap) (λ_ _ z=>z) λ_ z=>z;have hne:cd s.heap ks x.1≠cd s.heap ks y.1:=λe=>ne (by
   have:=MS (f:=cd s.heap ks) (by rw[ev];exact nd) sx.2 sy.2 e;exact Prod.ext this (by rw[←sx.1,←sy.1];exact this))
  exact(J9 λz=>hne (LU z)).elim (λz=>by have q':_=false:=q;rw[show cLt _ _=true from z] at q';cases q') id
 tr:=λh g=>ML h g
 irr:=λx=>G5 _
theorem Pq{a:Addr}{vs:List Value}(hu:A.units+8<cLine)(ho:s.heap.get? a=some (seqObj "list" vs.toArray n))(hk:Ats s.heap (ks.map csK) vs)(nd:ks.Nodup)(hle:vs.length<=1000)
  (h:∀(out:List Value) (ks':List Cs),Ats s.heap (ks'.map csK) out->ks'.Perm ks->ks'.Pairwise (λx y=>cLt x y=true)->(∀v∈out,v∈vs)->P (.done (.ret .none)) { s with heap:=sortedHeap s.heap a vs out.toArray }) :
  wpAny (model prog w) A (Builtin.«list.sort» ⟨[.ref a],[]⟩) P E s:=by
 have hlen:vs.length=ks.length:=by have:=hk.len;simpa using this
 have ha:a<s.heap.objs.size:=Heap.lt_size ho;have ho1:=get?_update_seq ho (λ_=>(#[]:Array Value));rw[list_sort_plain];refine AAA (listItems_at ho rfl (AAA (listUpdate_at ho rfl ?_ (by rw[List.size_toArray,sizeLine_eq];omega) (AAk _))));refine AAA (seqEpoch_at ho1 rfl (AAA (wpAny_newTuple ?_ (by show vs.length<=_;rw[sizeLine_eq];omega))));refine AAA (wpAny_newList ?_ (AAk _));refine AAp ?_;show wpAny (model prog w) A _ P E { s with heap:=((s.heap.update a (Obj.mapSeq λ_=>(#[]:Array Value))).push (seqObj "tuple" vs.toArray 0)).push (seqObj "list" #[] 0) };generalize hG:((s.heap.update a (Obj.mapSeq λ_=>(#[]:Array Value))).push (seqObj "tuple" vs.toArray 0)).push (seqObj "list" #[] 0)=G;have ho6:G.get? a=(s.heap.update a (Obj.mapSeq λ_=>(#[]:Array Value))).get? a:=by
  rw[←hG,Heap.get?_push_ne _ _ _ (by rw[size_push',Heap.size_update];exact AAe (AAi ha)),Heap.get?_push_ne _ _ _ (by rw[Heap.size_update];exact AAe ha)]
 rw[ho1] at ho6;have kp:∀b o items m,s.heap.get? b=some o->o.cls=.type "tuple" -> o.data=.seq items m->G.get? b=some o:=λb o items m e c _=>by
  have hb:b<s.heap.objs.size:=Heap.lt_size e;have hne:b≠a:=λz=>by
   subst z;rw[ho] at e;cases e;exact absurd (show (Value.type "list")=.type "tuple" from c) (by decide)
  rw[←hG,Heap.get?_push_ne _ _ _ (by rw[size_push',Heap.size_update];exact AAe (AAi hb)),Heap.get?_push_ne _ _ _ (by rw[Heap.size_update];exact AAe hb),Heap.get?_update_ne _ _ _ _ hne];exact e
 have hkG:Ats G (ks.map csK) vs:=hk.kept kp;have fin:∀out:List Value,sortedHeap s.heap a vs out.toArray=G.update a (Obj.mapSeq λ_=>out.toArray):=λout=>by rw[←hG];rfl
 dsimp only;by_cases h2:vs.toArray.size<2
 ·rw[if_pos h2,if_pos h2];have h2':vs.length<2:=by simpa using h2
  refine AAA (AAB ?_);rw[StateT.run_pure];refine AAA (AAB ?_);dsimp only;have ex:(arrOf (SortSt.mk' general' (vs.toArray.zip vs.toArray) #[] 7 none)).map (·.2)=vs.toArray:=by
   show (vs.toArray.zip vs.toArray).map (·.2)=vs.toArray;apply Array.toList_inj.mp;rw[Array.toList_map,Array.toList_zip];exact List.map_snd_zip (by simp)
  refine AAA (seqEpoch_at ho6 rfl (AAA (listUpdate_at ho6 rfl ?_ (AAk _) (by rw[ex,List.size_toArray,sizeLine_eq];omega))));simp only[bne_self_eq_false,Bool.false_eq_true,if_false];have:=h vs ks hk (List.Perm.refl _) (by
   match ks,hlen with
   |[],_=>exact List.Pairwise.nil
   |[x],_=>exact List.pairwise_singleton _ _
   |_::_::_,e=>simp at e;omega) (λ_ z=>z)
  rw[fin vs] at this;refine AAB ?_;rw[ex];exact this
 ·rw[if_neg h2,if_neg h2];have h2':2<=vs.length:=by simpa using h2
  obtain⟨fs,fl,ft,fi⟩:=Dw (s:={ s with heap:=G }) hkG;refine AAA (PySem.W.kat_kind (T:=.type "int") ft (by omega) (λv hv=>by
   obtain⟨i,t,rfl⟩:=fi v hv;exact PySem.W.Looks.of_pure rfl) rfl ?_)
  have ev:=hkG.cds (ks:=ks) (g:=G) (λ_ _ z=>z) λ_ z=>z;have ndv:vs.Nodup:=EO (f:=cd G ks) (by rw[ev];exact nd);have tl:(vs.toArray.zip vs.toArray).toList=vs.map λv=>(v,v):=by
   rw[Array.toList_zip];show vs.zip vs=_;rw[List.zip_eq_zipWith];exact List.zipWith_self
  have C:=YX (prog:=prog) (w:=w) (E:=E) (s:={ s with heap:=G }) hu hkG nd;refine AAA (AAj (Tm.sort_of (T:=vs.map λv=>(v,v)) (st:=SortSt.mk' (tuples' (Value.type "int" != Value.type "tuple")) (vs.toArray.zip vs.toArray) #[] 7 none) (Q:=λ_ st'=>(arrOf st').toList.Perm (vs.map λv=>(v,v))/\(arrOf st').toList.Pairwise (Tm.Lt λx y=>cLt (cd G ks x.1) (cd G ks y.1))/\failedOf st'=none) C rfl rfl rfl tl (λu hu=>by obtain⟨v,hv,rfl⟩:=AAL.mp hu;exact⟨rfl,hv⟩) (EO (f:=Prod.fst) (by rw[List.map_map];show (vs.map id).Nodup;rw[List.map_id];exact ndv)) λst' h1 h2 h3=>⟨h1,h2,h3⟩) ?_ λ_ _ e=>e);rintro⟨⟨⟩,st'⟩ s' ⟨rfl,h1,h2,h3⟩;dsimp only at h1 h2 h3 ⊢;have har:(arrOf st').map (·.2)=((arrOf st').toList.map (·.2)).toArray:=by apply Array.toList_inj.mp;rw[Array.toList_map]
  have po:((arrOf st').toList.map (·.2)).Perm vs:=by
   have:=h1.map Prod.snd;rw[List.map_map,show vs.map (Prod.snd ∘ λv=>(v,v))=vs from List.map_id vs] at this;exact this
  have hsz:((arrOf st').map (·.2)).size=vs.length:=by rw[har,List.size_toArray,po.length_eq]
  refine AAA (seqEpoch_at ho6 rfl (AAA (listUpdate_at ho6 rfl ?_ (AAk _) (by rw[hsz,sizeLine_eq];omega))));rw[h3];simp only[bne_self_eq_false,Bool.false_eq_true,if_false];have eq12:∀x∈(arrOf st').toList,x.1=x.2:=λx hx=>by
   obtain⟨v,_,rfl⟩:=AAL.mp (h1.mem_iff.mp hx);rfl
  have sub:∀v∈(arrOf st').toList.map (·.2),v∈vs:=λv hv=>po.mem_iff.mp hv;have oa:Ats s.heap ((((arrOf st').toList.map (·.2)).map (cd G ks)).map csK) ((arrOf st').toList.map (·.2)):=by
   generalize (arrOf st').toList.map (·.2)=out at sub
   induction out with
   |nil=>unfold List.map Ats;rfl
   |cons v out ih=>
    obtain⟨k,mk,ak⟩:=hk.mem (sub v AAP);rw[AAW,AAW];unfold Ats;exact⟨v,out,rfl,by rw[N3 mk (ak.kept kp)];exact ak,ih λx hx=>sub x (AAQ _ hx)⟩
  have:=h _ _ oa (by have:=po.map (cd G ks);rw[ev] at this;exact this) (by
   rw[List.map_map,List.pairwise_map];refine List.Pairwise.imp_of_mem (λ{x y} hx hy z=>?_) h2;show cLt (cd G ks x.2) (cd G ks y.2)=true;rw[←eq12 x hx,←eq12 y hy];exact z) sub
  rw[fin _,←har] at this;exact AAB this
end
section
variable{prog:Program}{w:World}{A:Around}{E:Value->Shared->Prop}{s:Shared}
theorem Jl(hh:A.handled=none)(hu:A.units+16<cLine)(lo:(d==sysModules)=false)(ho:s.heap.get? d=some o)(ex:o.ExactDict)(hd:o.data=.dict es ep)
  (hk:Ats s.heap (ks.map csK) (es.toList.map (·.key))) (nd:ks.Nodup) (hle:es.size<=1000)
  (q:∀(h1 h':Heap) tk c (out:List Value) (ks':List Cs),(∀b o,s.heap.get? b=some o->h1.get? b=some o)->(∀b o,h1.get? b=some o->h'.get? b=some o)->h'.get? h1.objs.size=some (seqObj "list" out.toArray c)->Ats h1 (ks'.map csK) out->ks'=Gp ks->(∀v∈out,v∈es.toList.map (·.key))->Q (.ref h1.objs.size) { s with heap:=h',toks:=tk }) :
  wpAny (model prog w) A (call (.builtin "sorted") [.ref d]) Q E s:=by
 refine Calls.call_function_entry kind_sorted plain_sorted entry_sorted (args_sorted1 _) ?_;unfold Builtin.«sorted»;refine AAA (wpAny_of_eq (a:=()) rfl ?_);refine AAA (PySem.W.kdu_collect (A:=A.in1) (Kp lo ex hd) hh ho (by rw[sizeLine_eq];omega) λh1 t1 acc k1 it=>?_);have ek:=Ho it;have hlen:acc.toList.length=es.size:=by rw[Array.length_toList];exact it.1
 refine AAA (wpAny_newList ?_ (by rw[sizeLine_eq];omega));have hL:(h1.push (seqObj "list" acc.toList.toArray 0)).get? h1.objs.size=some (seqObj "list" acc.toList.toArray 0):=AAD _ rfl;have kL:∀b o,h1.get? b=some o->(h1.push (seqObj "list" acc.toList.toArray 0)).get? b=some o:=λb o e=>AAC _ e;have hk1:Ats h1 (ks.map csK) acc.toList:=by rw[ek];exact hk.kept λb o items n e _ _=>k1 b o e
 have hkL:Ats (h1.push (seqObj "list" acc.toList.toArray 0)) (ks.map csK) acc.toList:=hk1.kept λb o items n e _ _=>kL b o e;refine AAA (AAp (AAd slot_list_sort ⟨_,hL,rfl⟩ entry_list_sort (Pq (s:={ s with heap:=h1.push (seqObj "list" acc.toList.toArray 0),toks:=t1 }) (by show A.units+1+1+8<cLine;omega) hL hkL nd (by omega) λout ks' a1 a2 a3 a4=>⟨_,rfl,?_⟩) (args_list_sort _)));obtain⟨c,hc⟩:=sortedHeap_at (out:=out.toArray) hL;have em:=S7 nd a2 a3;have a1':Ats h1 (ks'.map csK) out:=by
  refine Ats.of_get (by have:=a1.len;simpa using this) λi k v e1 e2=>?_;obtain⟨v',f1,f2⟩:=a1.get i k e1;rw[e2] at f1;cases f1;obtain⟨j,mj,aj⟩:=hk1.mem (a4 v (AAU e2));have same:=At.inj (aj.kept λb o items n e _ _=>kL b o e) f2;rw[←same];exact aj
 exact AAB ⟨_,rfl,q h1 _ _ c out ks' k1 (λb o e=>by rw[sortedHeap_old (AAe (Heap.lt_size e)) (Heap.lt_size (kL b o e))];exact kL b o e) hc a1' em (λv hv=>by rw[←ek];exact a4 v hv)⟩
end
end Nk
namespace Mi
open PySem L2 Ht Nk
section
variable{X:Cx}{e:Expr}
theorem Lf(hr:Room k0 X.A)(hc:X.calm=true):CU X (.builtin "sorted") (λxs H Q=>∃p l Y k,xs=[.ref p]/\H p=some (D6 p l)/\(∀y∈l,Is X.kw Y k H (csD y.1) (.ref y.2.1))/\l.length<1000/\∀q vs,H q=none->IsL X.kw Y k H ((Gp (l.map (·.1))).map csD) vs->Q (.ref q) (upd H q (.lst vs))):=by
 intro w4 s O H xs us Q I r h;obtain⟨p,l,Y,k,rfl,hp,hi,h64,q⟩:=h;obtain⟨u,rfl,ru⟩:=Eb r;cases ru;obtain⟨us,o,es,ep,h0,h1,h2,h3,h4,h5,h6,h7⟩:=Rr I.hok hp;have hl:l.length=us.length:=by have:=h0.length;simpa using this
 have hsz:es.size=l.length:=by rw[←Array.length_toList,h4,AAF,List.length_zip];omega
 have ek:=Nx hl h4;refine Jl (ks:=l.map (·.1)) (I.ok.hd hc) (by have:=hr.units;omega) h7 h1 h2 h3 (by rw[ek];exact Lj I hi) h5 (by omega) λg1 h' tk c out ks' k1 k2 e1 at' em sub=>?_;subst em;obtain⟨vs,rv,iv⟩:=Qi I k1 hi at' (by rw[←ek];exact sub);have I1:=I.kept (t':=tk) k1;have hz:vs.length<=sizeLine:=by
  have:=iv.length;rw[this,AAF,(DR _).length_eq,AAF,sizeLine_eq];omega
 exact⟨.ref g1.objs.size,_,I1.laid (t':=tk) (o:=.lst vs) k2 (AAE _) ⟨hz,out,c,rv,e1⟩,rfl,q _ vs (I1.hok.fresh (AAE _)) iv⟩
noncomputable def L5:List D->M D
 |[d]=>bnd (Ie d) λr=>λZ=>if r.2.length<1000 then some (.lst ((Gp (r.2.map (·.1))).map csD),Z) else none
 |_=>BQ
theorem R8(hr:Room k0 X.A)(hc:X.calm=true):CU X (.builtin "sorted") (rMA X.kw L5):=λw4 s O H xs us Q I r h=>by
 obtain⟨Y,Z,as,d,Z',R,ia,e,q⟩:=h;unfold L5 at e;split at e
 ·obtain⟨rr,w5,e1,e2⟩:=AE e;obtain⟨v,rfl,i1⟩:=Ew ia;obtain⟨hm,_,g1,rfl,kvs,g2,g3⟩:=FK R i1 e1;subst hm;split at e2
  ·rename_i hlt;cases e2;have hkl:kvs.length=rr.2.length:=by have:=congrArg List.length g3.keys;simpa using this
   refine Lf hr hc w4 s O H _ us Q I r ⟨_,kvs,Y,_,rfl,g2,g3.at,by omega,λp vs hp iv=>?_⟩;rw[g3.keys] at iv;exact Na R iv q p hp
  ·cases e2
 ·cases e
end
end Mi
namespace L2
open PySem PySem.Spec PyProof.Rows
section
variable{X:Cx}{scope:Scope}{tgs:List Str}{ix:List Nat}
theorem K9{i:Nat}{y:Str}{py:Pos}{elt tg iter:Expr}(co:Option Expr){pos spos:Pos}{wi:TI}{g:TG}{tc:TT}{te:TE}(hN:X.N.Nodup)(hiN:X.N[i]?=some y)(hy:X.env.scope.names.lookup y=some .local)
  (S:BScope X scope tgs ix) (hc:X.calm=true) (hi:PI X tg iter wi) (hg:∀fp C s H,PG (cxB X scope tgs fp C s H) tg g) (hgk:GK tgs.length g)
  (hif:∀fp C s H,O3 (cxB X scope tgs fp C s H) co tc) (he:∀fp C s H,PE (cxB X scope tgs fp C s H) elt te)
  (hsw:swapsWith (.ListComp elt [⟨tg,iter,co.toList,0⟩] scope pos) (some (.Name y py)) spos.line X.env=pure true:=by rfl) (hs:∀x,foldedSetIterable iter X.env x=pure x:=by intro _;rfl) :
  PS X (.Assign [.Name y py] (.ListComp elt [⟨tg,iter,co.toList,0⟩] scope pos) spos) (S6 (Po tgs ix wi g tc te) (Gh i)):=by
 intro w4 s O H D0 I h;rw[exec_Assign_Name_used _ _ _ _ hsw];refine AAA (wpAny_standAt (AAA ?_));show wpAny _ X.A (do let _ ←comprehension (.ListComp elt [⟨tg,iter,co.toList,0⟩] scope pos) scope X.env _ (newList []) false (eval iter X.env) (some (assign (.Name y py) X.env))) _ _ s;refine AAA (AAj (wpAny_comprehension_free (use:=some (assign (.Name y py) X.env)) (Q:=λ_ s'=>SP X w4 D0 .next s') rfl hs (D8 (S.cells I.ok)) S.kind S.loc ?_) (λ_ s' hq=>AAB (AAB hq)) λ_ _ e=>e);refine thn (hi w4 s O H _ I h) λv s1 h1=>thn h1 λitv s2 h2=>?_;obtain⟨it,fp,tn,J,H2,e,I2,T,t0,f2,W,w0,turn⟩:=h2;subst e;refine Gk (Q:=λx H1=>Gh i x O H1 D0.nx) (RR:=λacc C=>compPost (model X.prog X.w) X.A X.xe (some (assign (.Name y py) X.env)) (λ_ s'=>SP X w4 D0 .next s') acc C) S hc hg hgk hif he I2 T t0 f2 W w0 turn ?_;intro D C s' H' m J1 q hn fC;obtain⟨f0,f1,f2,f3,f4,f5⟩:=fC;show wpAny _ X.A (assign (.Name y py) X.env (.ref D)) _ _ _;refine wpAny_assign_Name (Il (v:=.ref D) J1 hN hiN (.inl hy) rfl (λs'' I'' hsb=>?_) (.inr hy));obtain⟨a,sb,ha⟩:=hsb;have hCa:C≠a:=by
  rcases ha with z|z
  ·rw[z];exact f1
  ·exact Ne.symm (f4 y a z)
 exact⟨m,hn.sameBut sb hCa,λh' sb'=>⟨_,H',I''.turned (t':=s''.toks) (λb o hb e=>(sb'.2 b hb).trans e) f0 f1 f3 f4 f5,q⟩⟩
end
end L2
namespace Mi
open PySem L2
section
variable{X:Cx}{K:KW}{scope:Scope}{tgs:List Str}{ix:List Nat}{elt tg iter:Expr}{pos:Pos}{bf:D->Sl->M Sl}{g:TG}{src:Sl->M (List D)}{mc:Sl->M Bool}{me:Sl->M D}{fin:List D->M D}{n:Nat}
structure Tg(n:Nat)(K:KW)(bf:D->Sl->M Sl)(g:TG):Prop where
 gk:GK n g
 gb:∀v O H Q,tG K bf v O H Q->g v O H Q
 mu:∀d B x8 Z Z',bf d B Z=some (x8,Z')->Z'=Z
theorem Cj(h:i<n:=by decide):Tg n K (AO i) (Gh i):=⟨UB h,λ_ _ _ _ h=>Jh h,λd B x8 Z Z' e=>by cases e;rfl⟩
def IQ(K:KW)(fin:List D->M D):Prop:=∀Y Z Z' H ds vs d (Q:VK),RelH K Y Z H->IsL K Y Z.length H ds vs->fin ds Z=some (d,Z')->(Aft K Y Z H Z' λY' H'=>∀v,Is K Y' Z'.length H' d v->Q v H')->
 vs.length<=sizeLine/\∀p,H p=none->Q (.ref p) (upd H p (.lst vs))
theorem H9:IQ K B9:=λ_ _ _ _ _ _ _ _ R i e q=>G4 R i e q
def ItX(C:Mh->Mh->Prop)(K:KW)(J:It)(ds:List D)(Y:Nat->Addr)(Z:Mh)(H:Hp):Prop:=∀Y' (Z':Mh) H',C Z Z'->Ext Y Z.length H Y' Z'.length H'->RelH K Y' Z' H'->
 (∀i,i<ds.length->J.go i H')/\J.stop ds.length H'/\∀(i:Nat) x H2 d,ds[i]?=some d->J.yld i H' x H2->Ext Y' Z'.length H' Y' Z'.length H2/\RelH K Y' Z' H2/\Is K Y' Z'.length H2 d x
noncomputable def tIX(C:Mh->Mh->Prop)(K:KW)(m:Sl->M (List D)):TI:=λO H R=>∃Y Z B ds Z',RelH K Y Z H/\RelS K Y Z.length H B O/\m B Z=some (ds,Z') /\
 Aft K Y Z H Z' λY' H'=>∀J,ItX C K J ds Y' Z' H'->R J H'
theorem Xm(h:RI X tg iter src):PI X tg iter (tIX (λ_ _=>True) X.kw src):=PI.wk h.pe λO H R q=>by
 obtain⟨Y,Z,B,ds,Z',R0,S,e,q⟩:=q;exact⟨Y,Z,B,ds,Z',R0,S,e,λx3 H1 E1 R1 J it=>q x3 H1 E1 R1 J λx4 w6 H2 _ E2 R2=>it x4 w6 H2 E2 R2⟩
theorem Y7(h:RIP X tg iter src):PI X tg iter (tIX (λa b=>b=a) X.kw src):=PI.wk h.pe λO H R q=>by
 obtain⟨Y,Z,B,ds,Z',R0,S,e,q⟩:=q;exact⟨Y,Z,B,ds,Z',R0,S,e,λx3 H1 E1 R1 J it=>q x3 H1 E1 R1 J λx4 w6 H2 z E2 R2=>by subst z;exact it x4 H2 E2 R2⟩
theorem UX(rf:∀a,C a a)(tr:∀a b c,C a b->C b c->C a c)(T:Tg tgs.length K bf g)(pc:∀B Z b Z',mc B Z=some (b,Z')->C Z Z')(pm:∀B Z b Z',me B Z=some (b,Z')->C Z Z')(hn:tgs.length=n)(hf:IQ K fin)
  (h:tE K (B2 n ix src bf mc me fin) O H Q):Po tgs ix (tIX C K src) g (tT K mc) (tE K me) O H Q:=by
 subst hn;obtain⟨Y,Z,B,d,Z',R,S,e,q⟩:=h;obtain⟨ds,w5,e1,e5⟩:=AE e;obtain⟨u,w6,e2,e6⟩:=AE e5;obtain⟨zs,x6,e3,e7⟩:=AE e6;obtain⟨hl,e4⟩:=D1 e2;clear e e5 e6;subst e4;refine⟨Y,Z,B,ds,_,R,S,e1,λx3 H1 E1 R1 J it=>?_⟩
 let W:Nat->List V->Hp->Prop:=λi' ys H=>ys.length<=i'/\∃(Y:Nat->Addr) (Z:Mh) (as:List D),RelH K Y Z H/\RelS K Y Z.length H B O/\ItX C K J ds Y Z H/\IsL K Y Z.length H as ys/\EU bf mc me (EF tgs.length ix B) (ds.drop i') as Z=some (zs,x6) /\
  Aft K Y Z H Z' λY' H'=>∀v,Is K Y' Z'.length H' d v->Q v H'
 refine⟨λi' m ys H=>m=ds.length-i'/\i'<=ds.length/\W i' ys H,⟨ds.length,by simp,AAk _,AAE _,x3,_,[],R1,S.ext E1,it,.nil,e3,λx4 H2 E2 R2=>q x4 H2 (E1.trans E2) R2⟩,?_⟩;rintro i' m ys H ⟨hm,hil,hyl,Y,Z,as,R,S,it,ia,e3,q⟩;obtain⟨go,stop,yl⟩:=it Y Z H (rf _) R.ext0 R;by_cases hlt:i'<ds.length
 ·refine .inr ⟨go i' hlt,by omega,W (i'+1),λys' H' z=>⟨_,(by omega:ds.length-(i'+1)<m),rfl,hlt,z⟩,λx H2 y=>?_⟩;obtain⟨E2,R2,ix2⟩:=yl i' x H2 _ (AAt hlt) y;rw[List.drop_eq_getElem_cons hlt] at e3;obtain⟨w9,w5,e1,e5⟩:=AE e3;obtain⟨cc,w6,e2,e6⟩:=AE e5;cases T.mu _ _ _ _ _ e1;have c2:=pc _ _ _ _ e2;have S2:=(S.ext E2).block (tgs:=tgs) (ix:=ix);refine T.gb _ _ _ _ ⟨Y,_,_,_,w9,_,R2,S2,ix2,e1,λι0 H0 E0 R0 σ0 S0=>⟨ι0,_,_,cc,w6,R0,S0,e2,λx9 H3 E3 R3=>?_⟩⟩;have E13:=(E2.trans E0).trans E3;have ex:∀{u3 y9 H4},C Z y9->Ext Y Z.length H u3 y9.length H4->ItX C K J ds u3 y9 H4:=λc E u5 v7 H5 c5 E5 R5=>it u5 v7 H5 (tr _ _ _ c c5) (E.trans E5) R5;cases cc with
  |false=>exact⟨by omega,x9,w6,as,R3,S.ext E13,ex c2 E13,ia.ext E13,e6,λu5 H5 E5 R5=>q u5 H5 (E13.trans E5) R5⟩
  |true=>
   obtain⟨y',y9,e4,e8⟩:=AE e6;refine⟨x9,w6,_,y',y9,R3,S0.ext E3,e4,λu3 H4 E4 R4 v iv=>?_⟩;have E14:=E13.trans E4;exact⟨by simp;omega,u3,y9,as++[y'],R4,S.ext E14,ex (tr _ _ _ c2 (pm _ _ _ _ e4)) E14,(ia.ext E14).append (.one iv),e8,λu5 H5 E5 R5=>q u5 H5 (E14.trans E5) R5⟩
 ·have hi':i'=ds.length:=by omega
  subst hi';rw[List.drop_length] at e3;cases e3;obtain⟨z1,z2⟩:=hf Y _ Z' H _ ys d Q R ia e7 q;exact .inl ⟨stop,z1,z2⟩
structure Cp(X:Cx)(scope:Scope)(tgs:List Str)(ix:List Nat)(tg elt:Expr)(co:Option Expr)(bf:D->Sl->M Sl)(mc:Sl->M Bool)(me:Sl->M D):Prop where
 S:BScope X scope tgs ix
 hc:X.calm=true
 T:∃g,Tg tgs.length X.kw bf g/\∀fp C s H,PG (cxB X scope tgs fp C s H) tg g
 t:∀fp C s H,O3 (cxB X scope tgs fp C s H) co (tT X.kw mc)
 e:∀fp C s H,RE (cxB X scope tgs fp C s H) elt me
theorem Ug(rf:∀a,C a a)(tr:∀a b c,C a b->C b c->C a c)(pc:∀B Z b Z',mc B Z=some (b,Z')->C Z Z')(pm:∀B Z b Z',me B Z=some (b,Z')->C Z Z')(c:Cp X scope tgs ix tg elt co bf mc me)(hi:PI X tg iter (tIX C X.kw src))(hf:IQ X.kw fin)(hn:tgs.length=n)(hs:∀x,foldedSetIterable iter X.env x=pure x):RE X (.ListComp elt [⟨tg,iter,co.toList,0⟩] scope pos) (B2 n ix src bf mc me fin):=by
 obtain⟨g,T,hg⟩:=c.T;exact RE.wk (Qf co (te:=tE X.kw me) c.S c.hc hi hg T.gk c.t (λfp C s H=>(c.e fp C s H).pe) hs) λ_ _ _ h=>UX rf tr T pc pm hn hf h
theorem XY(rf:∀a,C a a)(tr:∀a b c,C a b->C b c->C a c)(pc:∀B Z b Z',mc B Z=some (b,Z')->C Z Z')(pm:∀B Z b Z',me B Z=some (b,Z')->C Z Z')(c:Cp X scope tgs ix tg elt co bf mc me)(hi:PI X tg iter (tIX C X.kw src))(hf:IQ X.kw fin)(hN:X.N.Nodup)(hiN:X.N[k]?=some y)(hy:X.env.scope.names.lookup y=some .local)(hn:tgs.length=n)
  (hsw:swapsWith (.ListComp elt [⟨tg,iter,co.toList,0⟩] scope pos) (some (.Name y py)) spos.line X.env=pure true) (hs:∀x,foldedSetIterable iter X.env x=pure x):RS X (.Assign [.Name y py] (.ListComp elt [⟨tg,iter,co.toList,0⟩] scope pos) spos) (Ab (B2 n ix src bf mc me fin) (AO k)):=by
 obtain⟨g,T,hg⟩:=c.T;refine RS.wk (K9 co (te:=tE X.kw me) hN hiN hy c.S c.hc hi hg T.gk c.t (λfp C s H=>(c.e fp C s H).pe) hsw hs) λDn O H h=>?_;obtain⟨Y,Z,B,f,x8,Z',R,S,e,q⟩:=h;obtain⟨x,w5,e1,e⟩:=AE e;obtain⟨w9,w6,e2,e⟩:=AE e;cases e2;cases e;exact UX rf tr T pc pm hn hf ⟨Y,Z,B,x,_,R,S,e1,λx3 H1 E1 R1 v i1=>q x3 H1 E1 R1 _ ((S.ext E1).set k i1)⟩
theorem TM(c:Cp X scope tgs ix tg elt co bf mc me)(hi:RI X tg iter src)(hf:IQ X.kw fin)(hn:tgs.length=n:=by rfl)(hs:∀x,foldedSetIterable iter X.env x=pure x:=by intro _;rfl):RE X (.ListComp elt [⟨tg,iter,co.toList,0⟩] scope pos) (B2 n ix src bf mc me fin):=
 Ug (λ_=>trivial) (λ_ _ _ _ _=>trivial) (λ_ _ _ _ _=>trivial) (λ_ _ _ _ _=>trivial) c (Xm hi) hf hn hs
theorem Yz(pc:Pu mc)(pm:Pu me)(c:Cp X scope tgs ix tg elt co bf mc me)(hi:RIP X tg iter src)(hf:IQ X.kw fin)(hn:tgs.length=n:=by rfl)(hs:∀x,foldedSetIterable iter X.env x=pure x:=by intro _;rfl):RE X (.ListComp elt [⟨tg,iter,co.toList,0⟩] scope pos) (B2 n ix src bf mc me fin):=
 Ug (C:=λa b=>b=a) (λ_=>rfl) (λ_ _ _ a b=>b.trans a) pc pm c (Y7 hi) hf hn hs
theorem OO(c:Cp X scope tgs ix tg elt co bf mc me)(hi:RI X tg iter src)(hf:IQ X.kw fin)(hN:X.N.Nodup)(hiN:X.N[k]?=some y:=by rfl)(hy:X.env.scope.names.lookup y=some .local:=by rfl)(hn:tgs.length=n:=by rfl)
  (hsw:swapsWith (.ListComp elt [⟨tg,iter,co.toList,0⟩] scope pos) (some (.Name y py)) spos.line X.env=pure true:=by rfl) (hs:∀x,foldedSetIterable iter X.env x=pure x:=by intro _;rfl):RS X (.Assign [.Name y py] (.ListComp elt [⟨tg,iter,co.toList,0⟩] scope pos) spos) (Ab (B2 n ix src bf mc me fin) (AO k)):=
 XY (λ_=>trivial) (λ_ _ _ _ _=>trivial) (λ_ _ _ _ _=>trivial) (λ_ _ _ _ _=>trivial) c (Xm hi) hf hN hiN hy hn hsw hs
end
end Mi
namespace K15
open PySem L2 Mi Nk
open K13 (BI BM Bm Bn CK Bo Cd C9 DA DZ DB Aj Aa BR BL BF BE Bb B4 B5 CH B6)
open K16 (Bq Bp Ba C8 BP Av Ar A6 BH CF Af BA Ay A7 Bj Aw Bd BG Ez Cu)
noncomputable def Ep(Zt:List D->M D):Sl->M (Fl×Sl):=
  (A5 (AG FT (AC (AG L5 (AC (AG Zt (AC (AA 0) AK)) AK)) AK)))
noncomputable def B3:List D->M D:=A3 .drop 1 1 (Ep Bj)
noncomputable def Ax:List D->M D:=A3 .drop 2 2 (Ar A7 B3)
noncomputable def BN:List D->M D:=A3 .drop 5 4 (BH A7 B3 Aa)
end K15
namespace Pk
open PySem PySem.Spec PyProof.Rows L2 Mi PySem.MeetsSeq PySem.SeqAt
mutual
def draws:D->Nat
 | .tup ks=>drawsL ks+1
 |_=>1
def drawsL:List D->Nat
 |[]=>0
 |k::ks=>draws k+drawsL ks
end
mutual
def At(h:Heap):D->Value->Prop
 | .non,v=>v=.none
 | .int i,v=>∃t,v=.int i t
 | .str x,v=>∃t,v=.str x t
 | .tup ks,v=>∃a o items n,v=.ref a/\h.get? a=some o/\o.cls=.type "tuple" /\ o.data=.seq items n/\Ats h ks items.toList
 |_,_=>False
def Ats(h:Heap):List D->List Value->Prop
 |[],vs=>vs=[]
 |k::ks,vs=>∃v vs',vs=v::vs'/\At h k v/\Ats h ks vs'
end
theorem Mf(a:At h .non v):v=.none:=by unfold At at a;exact a
theorem Ka(a:At h (.int i) v):∃t,v=.int i t:=by unfold At at a;exact a
theorem KZ(a:At h (.str x) v):∃t,v=.str x t:=by unfold At at a;exact a
theorem Fd(a:At h (.tup ks) v):∃a o items n,v=.ref a/\h.get? a=some o/\o.cls=.type "tuple" /\ o.data=.seq items n/\Ats h ks items.toList:=by unfold At at a;exact a
theorem At.shape:∀{k:D},At h k v->(k=.non/\v=.none)∨(∃i t,k=.int i/\v=.int i t)∨(∃x t,k=.str x/\v=.str x t)∨∃ks a,k=.tup ks/\v=.ref a
 | .non,a=>.inl ⟨rfl,Mf a⟩
 | .int i,a=>.inr (.inl ⟨i,(Ka a).choose,rfl,(Ka a).choose_spec⟩)
 | .str i,a=>.inr (.inr (.inl ⟨i,(KZ a).choose,rfl,(KZ a).choose_spec⟩))
 | .tup ks,a=>.inr (.inr (.inr (by obtain⟨x,_,_,_,e,_⟩:=Fd a;exact⟨ks,x,rfl,e⟩)))
 | .bl _,a | .ty _,a | .scr _,a | .lst _,a | .ref _,a=>by unfold At at a;exact a.elim
mutual
theorem At.inj:∀{k j:D} {v:Value},At h k v->At h j v->k=j
 | .tup ks,j,v,a,b=>by
  rcases b.shape with ⟨rfl,e⟩|⟨i,t,rfl,e⟩|⟨x,t,rfl,e⟩|⟨js,y,rfl,e⟩
  ·obtain⟨_,_,_,_,e2,_⟩:=Fd a;rw[e] at e2;cases e2
  ·obtain⟨_,_,_,_,e2,_⟩:=Fd a;rw[e] at e2;cases e2
  ·obtain⟨_,_,_,_,e2,_⟩:=Fd a;rw[e] at e2;cases e2
  ·obtain⟨x,o,items,n,rfl,h1,_,h3,h4⟩:=Fd a;obtain⟨x',o',items',n',e',h1',_,h3',h4'⟩:=Fd b;cases e';rw[h1] at h1';cases h1';rw[h3] at h3';cases h3';rw[Ats.inj h4 h4']
 | .non,j,v,a,b=>by
  cases Mf a;rcases b.shape with ⟨rfl,e⟩|⟨i,t,rfl,e⟩|⟨x,t,rfl,e⟩|⟨js,y,rfl,e⟩<;>first|rfl|cases e
 | .int i,j,v,a,b=>by
  obtain⟨t,rfl⟩:=Ka a;rcases b.shape with ⟨rfl,e⟩|⟨i,t,rfl,e⟩|⟨x,t,rfl,e⟩|⟨js,y,rfl,e⟩
  ·cases e
  ·injection e with e1 _;rw[e1]
  ·cases e
  ·cases e
 | .str i,j,v,a,b=>by
  obtain⟨t,rfl⟩:=KZ a;rcases b.shape with ⟨rfl,e⟩|⟨i,t,rfl,e⟩|⟨x,t,rfl,e⟩|⟨js,y,rfl,e⟩
  ·cases e
  ·cases e
  ·injection e with e1 _;rw[e1]
  ·cases e
 | .bl _,_,_,a,_ | .ty _,_,_,a,_ | .scr _,_,_,a,_ | .lst _,_,_,a,_ | .ref _,_,_,a,_=>by unfold At at a;exact a.elim
theorem Ats.inj:∀{ks js:List D} {vs:List Value},Ats h ks vs->Ats h js vs->ks=js
 |[],[],_,_,_=>rfl
 |[],_::_,vs,a,b=>by
  unfold Ats at a b;subst a;obtain⟨_,_,e,_⟩:=b;cases e
 |_::_,[],vs,a,b=>by
  unfold Ats at a b;subst b;obtain⟨_,_,e,_⟩:=a;cases e
 |k::ks,j::js,vs,a,b=>by
  unfold Ats at a b;obtain⟨v,vs',rfl,a1,a2⟩:=a;obtain⟨v',vs'',e,b1,b2⟩:=b;cases e;rw[At.inj a1 b1,Ats.inj a2 b2]
end
mutual
theorem At.kept:∀{k:D} {v:Value},At h k v->(∀a o items n,h.get? a=some o->o.cls=.type "tuple" -> o.data=.seq items n->h'.get? a=some o)->At h' k v
 | .non,v,a,_ | .int i,v,a,_ | .str i,v,a,_=>by unfold At at a ⊢;exact a
 | .tup ks,v,a,kp=>by
  unfold At at a ⊢;obtain⟨x,o,items,n,rfl,h1,h2,h3,h4⟩:=a;exact⟨x,o,items,n,rfl,kp x o items n h1 h2 h3,h2,h3,Ats.kept h4 kp⟩
 | .bl _,_,a,_ | .ty _,_,a,_ | .scr _,_,a,_ | .lst _,_,a,_ | .ref _,_,a,_=>by unfold At at a;exact a.elim
theorem Ats.kept:∀{ks:List D} {vs:List Value},Ats h ks vs->(∀a o items n,h.get? a=some o->o.cls=.type "tuple" -> o.data=.seq items n->h'.get? a=some o)->Ats h' ks vs
 |[],vs,a,_=>by unfold Ats at a ⊢;exact a
 |k::ks,vs,a,kp=>by
  unfold Ats at a ⊢;obtain⟨v,vs',rfl,a1,a2⟩:=a;exact⟨v,vs',rfl,At.kept a1 kp,Ats.kept a2 kp⟩
end
section
variable{prog:Program}{w:World}
theorem Om(hu:A.units<cLine)(q:Q 0xFCA86420 { s with toks:=s.toks+1 }):wpAny (model prog w) A (pyHash .none) Q E s:=by
 show wpAny _ _ (pyHashByItsType .none) Q E s;refine PySem.W.pyHash_slot (T := "NoneType") rfl F.slot_NoneType_hash F.entry_NoneType_hash (F.args_NoneType_hash_1 _) (beq_builtin_none _) (.inr hu) (AAA (AAB ?_));refine AAA (wpAny_mkInt (AAB ⟨0xFCA86420,_,rfl,?_⟩));exact q
mutual
theorem At.hash:∀{k:D} {v:Value} {A:Around} {E:Value->Shared->Prop} {s:Shared} {Q:Int->Shared->Prop},A.units+deep k<cLine->At s.heap k v->Q (hD w k) { s with toks:=s.toks+draws k }->wpAny (model prog w) A (pyHash v) Q E s
 | .non,v,A,E,s,Q,hu,hk,q=>by
  unfold At at hk;subst hk;exact Om (by omega) q
 | .int i,v,A,E,s,Q,hu,hk,q=>by
  unfold At at hk;obtain⟨t,rfl⟩:=hk;exact wpAny_pyHash_int q
 | .str i,v,A,E,s,Q,hu,hk,q=>by
  unfold At at hk;obtain⟨t,rfl⟩:=hk;exact wpAny_pyHash_str q
 | .tup ks,v,A,E,s,Q,hu,hk,q=>by
  unfold At at hk;obtain⟨a,o,items,n,rfl,h1,h2,h3,h4⟩:=hk;have hu':A.units+(deeps ks+1)<cLine:=hu;refine Nk.hash_tup (hs:=hDs w ks) (d:=drawsL ks) (by omega) h1 h2 h3 (λP p=>?_) q;exact Ats.hash (A:=A.in1) (by show A.units+1+deeps ks<cLine;omega) h4 (acc:=#[]) (by simpa using p)
 | .bl _,_,_,_,_,_,_,a,_ | .ty _,_,_,_,_,_,_,a,_ | .scr _,_,_,_,_,_,_,a,_ | .lst _,_,_,_,_,_,_,a,_ | .ref _,_,_,_,_,_,_,a,_=>by unfold At at a;exact a.elim
theorem Ats.hash:∀{ks:List D} {vs:List Value} {A:Around} {E:Value->Shared->Prop} {s:Shared} {acc:Array Int} {P:Array Int->Shared->Prop},A.units+deeps ks<cLine->Ats s.heap ks vs->P (acc++(hDs w ks).toArray) { s with toks:=s.toks+drawsL ks }->
  wpAny (model prog w) A (forIn vs acc λx r=>do let y ←pyHash x;pure (ForInStep.yield (r.push y))) P E s
 |[],vs,A,E,s,acc,P,hu,hk,q=>by
  unfold Ats at hk;subst hk;rw[List.forIn_nil];exact AAB (by simpa[hDs,drawsL] using q)
 |k::ks,vs,A,E,s,acc,P,hu,hk,q=>by
  unfold Ats at hk;obtain⟨v,vs',rfl,a1,a2⟩:=hk;rw[List.forIn_cons];have hu':A.units+max (deep k) (deeps ks)<cLine:=hu;refine AAA (AAA (At.hash (by omega) a1 (AAB ?_)));refine Ats.hash (by omega) (s:={ s with toks:=s.toks+draws k }) a2 ?_;simpa[hDs,drawsL,Nat.add_assoc] using q
end
end
theorem Ats.len:∀{ks:List D} {vs:List Value},Ats h ks vs->vs.length=ks.length
 |[],_,a=>by unfold Ats at a;subst a;rfl
 |k::ks,_,a=>by
  unfold Ats at a;obtain⟨v,vs',rfl,_,a2⟩:=a;simp[Ats.len a2]
noncomputable def Da(ks js:List D)(j:Nat):Bool:=decide (ks[j]?=js[j]?)
theorem GH:((List.range (min ks.length js.length)).all (Da ks js)&&ks.length==js.length)=decide (D.tup ks=D.tup js):=by
 by_cases e:ks=js
 ·subst e;rw[AAO rfl,beq_self_eq_true,Bool.and_true,List.all_eq_true];intro j _;exact AAO rfl
 ·rw[AAN (λz=>e (D.tup.inj z))];by_cases hl:ks.length=js.length
  ·rw[beq_iff_eq.mpr hl,Bool.and_true,←Bool.not_eq_true];intro z;rw[List.all_eq_true] at z;refine e (List.ext_getElem? λj=>?_);by_cases hj:j<ks.length
   ·exact of_decide_eq_true (z j (List.mem_range.mpr (by omega)))
   ·rw[List.getElem?_eq_none (by omega),List.getElem?_eq_none (by omega)]
  ·rw[AAf.mpr hl,Bool.and_false]
theorem Nh(a:At h (.tup ks) v):∃x items,v=.ref x/\h.IsTuple x items:=by
 unfold At at a;obtain⟨x,o,items,n,rfl,h1,h2,h3,_⟩:=a;exact⟨x,items,rfl,o,h1,h2,n,h3⟩
mutual
theorem At.eq:∀{k j:D} {u v:Value} {A:Around} {s:Shared},A.units+deep k<cLine->At s.heap k u->At s.heap j v->EqAt A s u v (decide (k=j))
 | .non,j,u,v,A,s,hu,a,b=>by
  have hu':A.units<cLine:=AAr (Nat.le_add_right _ _) hu;unfold At at a;subst a;cases j with
  |non=>unfold At at b;subst b;rw[AAO rfl];exact EqAt.same _
  |int i=>unfold At at b;obtain⟨t,rfl⟩:=b;rw[AAN (by intro z;cases z)];exact EqAt.none_int i t
  |str i=>unfold At at b;obtain⟨t,rfl⟩:=b;rw[AAN (by intro z;cases z)];exact EqAt.none_str i t
  |tup ks=>obtain⟨x,its,rfl,h⟩:=Nh b;rw[AAN (by intro z;cases z)];exact EqAt.none_tuple h hu'
  |_=>unfold At at b;exact b.elim
 | .int i,j,u,v,A,s,hu,a,b=>by
  have hu':A.units<cLine:=AAr (Nat.le_add_right _ _) hu;unfold At at a;obtain⟨t,rfl⟩:=a;cases j with
  |non=>unfold At at b;subst b;rw[AAN (by intro z;cases z)];exact EqAt.int_none i t
  |int j=>
   unfold At at b;obtain⟨t',rfl⟩:=b;have:decide (D.int i=D.int j)=(i==j):=by
    by_cases e:i=j
    ·subst e;simp
    ·rw[AAN (λz=>e (D.int.inj z)),AAf.mpr e]
   rw[this];exact EqAt.int_int i t j t'
  |str j=>unfold At at b;obtain⟨t',rfl⟩:=b;rw[AAN (by intro z;cases z)];exact EqAt.int_str i t j t'
  |tup ks=>obtain⟨x,its,rfl,h⟩:=Nh b;rw[AAN (by intro z;cases z)];exact EqAt.int_tuple i t h hu'
  |_=>unfold At at b;exact b.elim
 | .str i,j,u,v,A,s,hu,a,b=>by
  have hu':A.units<cLine:=AAr (Nat.le_add_right _ _) hu;unfold At at a;obtain⟨t,rfl⟩:=a;cases j with
  |non=>unfold At at b;subst b;rw[AAN (by intro z;cases z)];exact EqAt.str_none i t
  |str j=>
   unfold At at b;obtain⟨t',rfl⟩:=b;have:decide (D.str i=D.str j)=(i==j):=by
    by_cases e:i=j
    ·subst e;simp
    ·rw[AAN (λz=>e (D.str.inj z)),AAf.mpr e]
   rw[this];exact EqAt.str_str i t j t'
  |int j=>unfold At at b;obtain⟨t',rfl⟩:=b;rw[AAN (by intro z;cases z)];exact EqAt.str_int i t j t'
  |tup ks=>obtain⟨x,its,rfl,h⟩:=Nh b;rw[AAN (by intro z;cases z)];exact EqAt.str_tuple i t h hu'
  |_=>unfold At at b;exact b.elim
 | .tup ks,j,u,v,A,s,hu,a,b=>by
  have hu0:A.units<cLine:=AAr (Nat.le_add_right _ _) hu;obtain⟨x0,its0,e0,h0⟩:=Nh a;cases j with
  |non=>unfold At at b;subst b e0;rw[AAN (by intro z;cases z)];exact EqAt.tuple_none h0 hu0
  |int j=>unfold At at b;obtain⟨t',rfl⟩:=b;subst e0;rw[AAN (by intro z;cases z)];exact EqAt.tuple_int j t' h0 hu0
  |str j=>unfold At at b;obtain⟨t',rfl⟩:=b;subst e0;rw[AAN (by intro z;cases z)];exact EqAt.tuple_str j t' h0 hu0
  |tup js=>
   have a':=a;have b':=b;unfold At at a b;obtain⟨x,o,items,n,rfl,h1,h2,h3,h4⟩:=a;obtain⟨y,o',items',n',rfl,h1',h2',h3',h4'⟩:=b;have hu':A.units+(deeps ks+1)<cLine:=hu;by_cases e:x=y
   ·subst e;rw[At.inj a' b',AAO rfl];exact EqAt.same _
   ·rw[←GH];have l1:=h4.len;have l2:=h4'.len;rw[Array.length_toList] at l1 l2;rw[←l1,←l2];refine EqAt.of_refs e (RcAt.tuples ⟨o,h1,h2,n,h3⟩ ⟨o',h1',h2',n',h3'⟩ (by omega) λj g1 g2=>?_);have:=Ats.eqs (A:=A.in1) (by show A.units+1+deeps ks<cLine;omega) h4 h4' j (by simpa using g1) (by simpa using g2);simpa using this
  |_=>unfold At at b;exact b.elim
 | .bl _,_,_,_,_,_,_,a,_ | .ty _,_,_,_,_,_,_,a,_ | .scr _,_,_,_,_,_,_,a,_ | .lst _,_,_,_,_,_,_,a,_ | .ref _,_,_,_,_,_,_,a,_=>by unfold At at a;exact a.elim
theorem Ats.eqs:∀{ks js:List D} {us vs:List Value} {A:Around} {s:Shared},A.units+deeps ks<cLine->Ats s.heap ks us->Ats s.heap js vs->∀(j:Nat) (h1:j<us.length) (h2:j<vs.length),EqAt A s us[j] vs[j] (Da ks js j)
 |[],js,us,vs,A,s,hu,a,b,j,h1,h2=>by unfold Ats at a;subst a;simp at h1
 |k::ks,[],us,vs,A,s,hu,a,b,j,h1,h2=>by unfold Ats at b;subst b;simp at h2
 |k::ks,l::js,us,vs,A,s,hu,a,b,j,h1,h2=>by
  unfold Ats at a b;obtain⟨u,us',rfl,a1,a2⟩:=a;obtain⟨v,vs',rfl,b1,b2⟩:=b;have hu':A.units+max (deep k) (deeps ks)<cLine:=hu;cases j with
  |zero=>
   have:=At.eq (k:=k) (j:=l) (A:=A) (by omega) a1 b1;have e:Da (k::ks) (l::js) 0=decide (k=l):=by unfold Da;simp
   rw[e];exact this
  |succ j=>
   have:=Ats.eqs (A:=A) (by omega) a2 b2 j (by simpa using h1) (by simpa using h2);have e:Da (k::ks) (l::js) (j+1)=Da ks js j:=by unfold Da;simp
   rw[e];simpa using this
end
section
variable{prog:Program}{w:World}
theorem At.quiet:∀(d:Nat) {k:D} {v:Value} {A:Around} {E:Value->Shared->Prop} {s:Shared} {Q:Bool->Shared->Prop},deep k<=d->At s.heap k v->Q true s->wpAny (model prog w) A (eqIsQuiet d v) Q E s
 |d,.non,v,A,E,s,Q,hd,a,q=>by
  cases Mf a;unfold eqIsQuiet;exact AAB q
 |d,.int i,v,A,E,s,Q,hd,a,q=>by
  obtain⟨t,rfl⟩:=Ka a;unfold eqIsQuiet;exact AAB q
 |d,.str i,v,A,E,s,Q,hd,a,q=>by
  obtain⟨t,rfl⟩:=KZ a;unfold eqIsQuiet;exact AAB q
 |0,.tup ks,v,A,E,s,Q,hd,a,q=>by
  have hd':deeps ks+1<=0:=hd;omega
 |d'+1,.tup ks,v,A,E,s,Q,hd,a,q=>by
  have hd':deeps ks+1<=d'+1:=hd;obtain⟨x,o,items,n,rfl,h1,h2,h3,h4⟩:=Fd a;have hT:s.TypeIs (.ref x) "tuple" := ⟨o,h1,h2⟩;unfold eqIsQuiet;refine AAA (wpAny_specialOf hT PySem.F.slot_tuple_eq.lookup ?_);show wpAny _ _ (isInstance (.ref x) (.type "tuple") >>= _) _ _ s;refine AAA (wpAny_isInstance hT isSubtype_tuple_tuple ?_);simp only[Bool.not_true,Bool.false_eq_true,if_false];refine AAA (wpAny_seqItems h1 h3 (AAA ?_));show wpAny _ _ (forIn items _ _) _ _ s;rw[←Array.forIn_toList];refine wpAny_forIn_list _ (λrest r s'=>r.1=none/\s'=s/\∃ks',deeps ks'<=d'/\Ats s.heap ks' rest) _ ?_ ?_ _ _ ⟨rfl,rfl,ks,by omega,h4⟩
  ·rintro y rest r s' ⟨hr,rfl,ks',hk,at'⟩;cases ks' with
   |nil=>unfold Ats at at';cases at'
   |cons k' ks'=>
    unfold Ats at at';obtain⟨_,_,e,a1,a2⟩:=at';cases e;have hk':max (deep k') (deeps ks')<=d':=hk;refine AAA (At.quiet d' (k:=k') (by omega) a1 ?_);simp only[Bool.not_true,Bool.false_eq_true,if_false];exact AAB ⟨rfl,rfl,ks',by omega,a2⟩
  ·rintro⟨r1,r2⟩ s' ⟨hr,rfl,_⟩;simp only at hr;subst hr;exact AAB q
 |_,.bl _,_,_,_,_,_,_,a,_|_,.ty _,_,_,_,_,_,_,a,_|_,.scr _,_,_,_,_,_,_,a,_|_,.lst _,_,_,_,_,_,_,a,_|_,.ref _,_,_,_,_,_,_,a,_=>by unfold At at a;exact a.elim
end
noncomputable def kind(prog:Program)(w:World):HeapKind prog w D where
 is:=λh k a=>At h k (.ref a)/\deep k<=8
 hash:=hD w
 draws:=draws
 room:=λA=>A.units+8<cLine
 inj:=λhx hy=>hx.1.inj hy.1
 keeps:=λ{h h' k a d o es ep} x ho hd hs=>⟨x.1.kept λb o' items n e _ e3=>by
  have hne:b≠d:=by
   intro z;subst z;rw[ho] at e;cases e;rw[hd] at e3;cases e3
  exact(hs.2 b hne).trans e,x.2⟩
 pyHash:=λhu hk h=>At.hash (by have:=hk.2;omega) hk.1 h
 eqBool:=λ{A E s x y a b Q} hu hx hy h=>At.eq (by have:=hx.2;omega) hx.1 hy.1 _ _ E Q h
 quiet:=λhk h=>At.quiet 8 hk.2 hk.1 h
section
variable{X:Cx}{w4:List (Addr×Obj)}{O:L2.St}{H:Hp}{s:Shared}{Y:Nat->Addr}{k:Nat}
mutual
theorem U6(I:Inv X w4 O H s):∀{d:D} {v:V} {u:Value},Kz d=true->Is X.kw Y k H d v->RelV v u->At s.heap d u
 | .non,v,u,_,i,r=>by unfold Is at i;subst i;unfold At;exact r
 | .int _,v,u,_,i,r=>by unfold Is at i;subst i;unfold At;exact r
 | .str _,v,u,_,i,r=>by unfold Is at i;subst i;unfold At;exact r
 | .tup ds,v,u,z,i,r=>by
  unfold Is at i;obtain⟨p,vs,rfl,h1,h2⟩:=i;cases r;obtain⟨its,rv,⟨o,g1,g2,n,g3⟩,_⟩:=I.tuple h1;unfold At;exact⟨p,o,_,n,rfl,g1,g2,g3,SF I z h2 rv⟩
 | .bl _,_,_,z,_,_ | .ty _,_,_,z,_,_ | .scr _,_,_,z,_,_ | .lst _,_,_,z,_,_ | .ref _,_,_,z,_,_=>by cases z
theorem SF(I:Inv X w4 O H s):∀{ds:List D} {vs:List V} {us:List Value},KzL ds=true->Mi.IsL X.kw Y k H ds vs->Vals vs us->Ats s.heap ds us
 |[],vs,us,_,i,r=>by unfold Mi.IsL at i;subst i;cases r;unfold Ats;rfl
 |d::ds,vs,us,z,i,r=>by
  unfold Mi.IsL at i;obtain⟨v,vs',rfl,i1,i2⟩:=i;cases r with
  |cons e t=>
   unfold KzL at z;rw[Bool.and_eq_true] at z;unfold Ats;exact⟨_,_,rfl,U6 I z.1 i1 e,SF I z.2 i2 t⟩
end
theorem isP(I:Inv X w4 O H s)(z:Kz d=true)(hd:deep d<=8)(i:Is X.kw Y k H d (.ref a)):(kind X.prog X.w).is s.heap d a:=⟨U6 I z i rfl,hd⟩
end
noncomputable def B7(l:List (D×Addr×V))(us:List Value):List (D×Addr×Value):=(l.zip us).map λx=>(x.1.1,x.1.2.1,x.2)
theorem Ff(h:l.length=us.length):(B7 l us).map (·.1)=l.map (·.1):=by
 unfold B7;rw[List.map_map];have:((λy:D×Addr×Value=>y.1) ∘ λx:(D×Addr×V)×Value=>(x.1.1,x.1.2.1,x.2))=(λy:D×Addr×V=>y.1) ∘ Prod.fst:=rfl;rw[this,←List.map_map,List.map_fst_zip (by omega)]
theorem CN(h:l.length=us.length):(atKey (B7 l us) c).isSome=l.any λy=>decide (y.1=c):=by
 have e:(atKey (B7 l us) c).isSome=((B7 l us).map (·.1)).any λy=>decide (y=c):=by
  unfold atKey;rw[Option.isSome_map,List.any_map];rw[Bool.eq_iff_iff,List.find?_isSome,List.any_eq_true];rfl
 rw[e,Ff h,List.any_map];rfl
theorem YT(hk:HOk P w H h)(e:H p=some (De w' p l)):∃(us:List Value) (o:Obj) (es:Array DictEntry) (ep:Nat),Vals (l.map (·.2.2)) us/\h.get? p=some o/\o.ExactDict/\o.data=.dict es ep /\
  es.toList=(l.zip us).map (λx=>{ key:=.ref x.1.2.1,hash:=hD w' x.1.1,val:=x.2 })/\(l.map (·.1)).Nodup/\l.length<=sizeLine/\(p==sysModules)=false:=(hk p _ e).1
theorem Rq (x:∃(us:List Value) (o:Obj) (es:Array DictEntry) (ep:Nat),Vals (l.map (·.2.2)) us/\h.get? p=some o/\o.ExactDict/\o.data=.dict es ep /\
  es.toList=(l.zip us).map (λx=>{ key:=.ref x.1.2.1,hash:=hD w' x.1.1,val:=x.2 })/\(l.map (·.1)).Nodup/\l.length<=sizeLine/\(p==sysModules)=false):ObjOk P w H h p (De w' p l):=by
 refine⟨x,?_,?_⟩
 ·obtain⟨us,o,es,ep,_,h1,_⟩:=x;exact⟨o,h1⟩
 ·rintro h1 h2 ⟨us,o,es,ep,a1,a2,a3⟩ k;exact⟨us,o,es,ep,a1,k o a2,a3⟩
theorem YU(hl:l.length=us.length)(h1:h.get? p=some o)(h2:o.ExactDict)(h3:o.data=.dict es ep)
  (h4:es.toList=(l.zip us).map (λx=>{ key:=.ref x.1.2.1,hash:=hD w x.1.1,val:=x.2 })) (h5:(l.map (·.1)).Nodup) (hi:∀y∈l,(kind P w).is h y.1 y.2.1):h.DictOfH (kind P w) p (B7 l us):=by
 refine⟨o,es,ep,h1,h2,h3,?_,?_,?_⟩
 ·rw[h4];unfold B7;rw[List.map_map];rfl
 ·intro x hx;unfold B7 at hx;obtain⟨y,hy,rfl⟩:=AAL.mp hx;exact hi y.1 (List.of_mem_zip (a:=y.1) (b:=y.2) hy).1
 ·rw[Ff hl];exact h5
end Pk
namespace Mi
open PySem L2 Pk
section
variable{K:KW}{Y:Nat->Addr}{k:Nat}{H:Hp}
theorem PVs.keys:∀{l:List (D×D)} {r:List (D×Addr×V)},PVs K Y k H l r->r.map (·.1)=l.map (·.1)
 |[],_,h=>by cases h;rfl
 |(y,d)::l,_,h=>by
  obtain⟨a,v,r',rfl,_,_,h3⟩:=h;rw[AAW,AAW,PVs.keys h3]
theorem PVs.at:∀{l:List (D×D)} {r:List (D×Addr×V)},PVs K Y k H l r->∀y∈r,Kz y.1=true/\deep y.1<=8/\Is K Y k H y.1 (.ref y.2.1)
 |[],_,h,y,hy=>by cases h;cases hy
 |(z,d)::l,_,h,y,hy=>by
  obtain⟨a,v,r',rfl,h1,_,h3⟩:=h;rcases AAI.mp hy with rfl|hy
  ·exact h1
  ·exact PVs.at h3 y hy
theorem PVs.app(h1:Kz c=true/\deep c<=8/\Is K Y k H c (.ref a))(h2:Is K Y k H d v):∀{l:List (D×D)} {r:List (D×Addr×V)},PVs K Y k H l r->PVs K Y k H (l++[(c,d)]) (r++[(c,a,v)])
 |[],_,h=>by cases h;exact⟨a,v,[],rfl,h1,h2,rfl⟩
 |(z,e)::l,_,h=>by
  obtain⟨b,w,r',rfl,g1,g2,g3⟩:=h;exact⟨b,w,_,rfl,g1,g2,PVs.app h1 h2 g3⟩
noncomputable def B8(l:List (D×D))(c:D):Option D:=(l.find? λz=>decide (z.1=c)).map (·.2)
theorem PVs.val:∀{l:List (D×D)} {r:List (D×Addr×V)} {d:D} {us:List Value},PVs K Y k H l r->Vals (r.map (·.2.2)) us->B8 l c=some d->∃v u p,Is K Y k H d v/\RelV v u/\atKey (B7 r us) c=some (p,u)
 |[],_,d,us,h,_,e=>by cases e
 |(z,x)::l,_,d,us,h,vs,e=>by
  obtain⟨b,v,r',rfl,g1,g2,g3⟩:=h;rw[AAW] at vs;cases vs with
  |@cons _ u _ us' rv t=>
   by_cases hz:z=c
   ·subst hz;have:d=x:=by simpa[B8] using e.symm
    subst this;exact⟨v,u,b,g2,rv,by simp[atKey,B7]⟩
   ·have e':B8 l c=some d:=by simpa[B8,hz] using e
    obtain⟨v',u',p,i1,i2,i3⟩:=PVs.val g3 t e';refine⟨v',u',p,i1,i2,?_⟩;simpa[atKey,B7,hz] using i3
end
theorem GZ{α β:Type}{l:List (D×α)}{r:List (D×β)}(h:r.map (·.1)=l.map (·.1))(c:D):(r.any λy=>decide (y.1=c))=l.any λy=>decide (y.1=c):=by
 have e1:(r.any λy=>decide (y.1=c))=(r.map (·.1)).any λy=>decide (y=c):=by rw[List.any_map];rfl
 have e2:(l.any λy=>decide (y.1=c))=(l.map (·.1)).any λy=>decide (y=c):=by rw[List.any_map];rfl
 rw[e1,e2,h]
noncomputable def Lm:D->M (Nat×List (D×D))
 | .ref n=>λZ=>match Z[n]? with
  |some (.dP l)=>some ((n,l),Z)
  |_=>none
 |_=>BQ
theorem FJ(R:RelH K Y Z H)(i:Is K Y Z.length H d v)(e:Lm d Z=some (r,Z')):Z'=Z/\d=.ref r.1/\Z[r.1]?=some (.dP r.2)/\v=.ref (Y r.1)/\∃kvs,H (Y r.1)=some (De K.w (Y r.1) kvs)/\PVs K Y Z.length H r.2 kvs:=by
 cases d with
 |ref n=>
  unfold Lm at e;dsimp only at e;split at e
  ·rename_i l hq;cases e;unfold Is at i;obtain⟨u,h1,kvs,rfl,h2⟩:=R.obj n _ hq;exact⟨rfl,rfl,hq,i.2,kvs,h1,h2⟩
  ·cases e
 |_=>cases e
section
variable{X:Cx}{e o i:Expr}{pos pos':Pos}
noncomputable def Qu:Sl->M D:=λ_ Z=>some (.ref Z.length,Z++[.dP []])
theorem Qc:PE X (.Dict [] [] pos) (λ_ H Q=>∀p,H p=none->Q (.ref p) (upd H p (De w p []))):=λw4 s O H Q I h=>
 wpAny_Dict_empty ⟨.ref s.heap.objs.size,_,I.laid (a:=s.heap.objs.size) (o:=De w s.heap.objs.size []) (t':=s.toks) (λ_ _ q=>AAC _ q) (AAE _)
  (Rq ⟨[],_,#[],0,.nil,AAD _ rfl,⟨rfl,rfl,rfl⟩,rfl,rfl,List.nodup_nil,AAk _,AAf.mpr (Ne.symm (AAe I.big))⟩),rfl,h _ (I.hok.fresh (AAE _))⟩
theorem P8:RE X (.Dict [] [] pos) Qu:=RE.wk (Qc (w:=X.w)) λO H Q h=>by
 obtain⟨Y,Z,B,d,Z',R,S,e,q⟩:=h;cases e;intro p hp;obtain⟨Y',E1,R1,e0⟩:=R.grown (m:=.dP []) (o:=De X.w p []) hp ⟨[],rfl,rfl⟩;exact q Y' _ E1 R1 _ (by unfold Is;exact⟨by simp,by rw[e0]⟩)
theorem NC(hr:Room k X.A):(Pk.kind X.prog X.w).room X.A.in1:=by
 have:=hr.units;show X.A.units+1+8<cLine;omega
theorem F2(I:Inv X w4 O H s)(h:H p=some (De X.w p l))(hi:∀y∈l,Kz y.1=true/\deep y.1<=8/\Is X.kw Y k H y.1 (.ref y.2.1)):
  ∃us,l.length=us.length/\Vals (l.map (·.2.2)) us/\s.heap.DictOfH (Pk.kind X.prog X.w) p (B7 l us)/\(l.map (·.1)).Nodup/\l.length<=sizeLine/\(p==sysModules)=false:=by
 obtain⟨us,o,es,ep,h0,h1,h2,h3,h4,h5,h6,h7⟩:=YT I.hok h;have hl:l.length=us.length:=by have:=h0.length;simpa using this
 exact⟨us,hl,h0,YU hl h1 h2 h3 h4 h5 λy hy=>isP I (hi y hy).1 (hi y hy).2.1 (hi y hy).2.2,h5,h6,h7⟩
noncomputable def EZ(d:D):Option D:=match d with
 | .tup ds=>if Kz (.tup ds)=true/\deep (.tup ds)<=8 then some (.tup ds) else none
 |_=>none
theorem FC(h:EZ d=some c):c=d/\(∃ds,d=.tup ds)/\Kz d=true/\deep d<=8:=by
 unfold EZ at h;split at h
 ·split at h
  ·rename_i ds z;cases h;exact⟨rfl,⟨ds,rfl⟩,z⟩
  ·cases h
 ·cases h
noncomputable def QR(neg:Bool)(y d:D):M D:=bnd (Lm d) λr=>λZ=>(EZ y).map λc=>(.bl (if neg then !(r.2.any λz=>decide (z.1=c)) else r.2.any λz=>decide (z.1=c)),Z)
theorem X1{k:Nat}(hr:Room k X.A):OpR X (compareOp .In) (rM X.kw (QR false)):=λw4 s O H x y v u Q I rx ry h=>by
 obtain⟨Y,Z,a,b,d,Z',R,ia,ib,e,q⟩:=h;obtain⟨r,w5,e1,e2⟩:=AE e;obtain⟨hm,_,g1,rfl,kvs,g2,g3⟩:=FJ R ib e1;subst hm;cases hc:EZ a with
 |none=>rw[hc] at e2;cases e2
 |some c=>
  rw[hc] at e2;cases e2;obtain⟨rfl,⟨ds,rfl⟩,kz,kd⟩:=FC hc;have ia':=ia;unfold Is at ia';obtain⟨pa,_,rfl,_⟩:=ia';cases rx;cases ry;obtain⟨us,hl,_,dd,_,_,lo⟩:=F2 I g2 g3.at;refine wpAny_in_heap (NC hr) (isP I kz kd ia) lo dd ?_;rw[Pk.CN hl,GZ g3.keys];exact⟨.bl _,H,I.tok _,rfl,q Y H R.ext0 R _ (ofB _)⟩
noncomputable def LA(d y:D):M D:=bnd (Lm d) λr=>λZ=>((EZ y).bind (B8 r.2)).map λv=>(v,Z)
theorem NF(hr:Room k X.A)(ho:RE X o mo)(hi:RE X i mi)(hs:UR i:=by exact λ_ _=>rfl):RE X (.Subscript o i pos) (mOp LA mo mi):=by
 refine RE.wk (t:=λO H Q=>tE X.kw mo O H λx H1=>tE X.kw mi O H1 λy H2=>∃(p:Addr) (l:List (D×D)×List (D×Addr×V)) (c d:D) (a:Addr) (Y:Nat->Addr) (k:Nat),x=.ref p/\y=.ref a/\H2 p=some (De X.w p l.2)/\PVs X.kw Y k H2 l.1 l.2/\Kz c=true/\deep c<=8/\Is X.kw Y k H2 c (.ref a)/\B8 l.1 c=some d/\∀v,Is X.kw Y k H2 d v->Q v H2) (λw4 s O H Q I h=>?_) λO H Q h=>?_
 ·refine M0 PySem.F.slot_dict_getitem.lookup hs (thn (ho.pe w4 s O H _ I h) λu s1 ⟨x,H1,I1,rx,q1⟩=>thn (hi.pe w4 s1 O H1 _ I1 q1) λiv s2 zq=>?_);obtain⟨y,H2,I2,ry,p,l,c,d,a,Y,k,ex,ey,e,pv,kz,kd,ic,vd,q2⟩:=zq;subst ex ey;cases rx;cases ry;obtain⟨us,hl,hvs,dd,_,_,lo⟩:=F2 I2 e pv.at;obtain⟨v,uu,pp,iv,rv,at_⟩:=pv.val hvs vd;refine⟨dd.typeIs,wpAny_getItem_heap (NC hr) (isP I2 kz kd ic) dd at_ ?_⟩;exact⟨v,H2,I2.tok _,rv,q2 v iv⟩
 ·obtain⟨Y,Z,B,d,Z',R,S,e,q⟩:=h;obtain⟨x,w5,e1,ee1⟩:=AE e;obtain⟨y,w6,e2,ee2⟩:=AE ee1;obtain⟨r,x6,e3,ee3⟩:=AE ee2;refine⟨Y,Z,B,x,w5,R,S,e1,λx3 H1 E1 R1 v1 i1=>⟨x3,w5,B,y,w6,R1,S.ext E1,e2,λx4 H2 E2 R2 v2 i2=>?_⟩⟩;obtain⟨hm,_,g1,rfl,kvs,g2,g3⟩:=FJ R2 (i1.ext E2) e3;subst hm;cases hc:EZ y with
  |none=>rw[hc] at ee3;cases ee3
  |some c=>
   rw[hc,Option.bind_some] at ee3;obtain⟨rfl,⟨ds,rfl⟩,kz,kd⟩:=FC hc;cases hv:B8 r.2 (.tup ds) with
   |none=>rw[hv] at ee3;cases ee3
   |some dv=>
    rw[hv] at ee3;cases ee3;have i2':=i2;unfold Is at i2';obtain⟨pa,_,rfl,_⟩:=i2';exact⟨_,(r.2,kvs),_,_,pa,x4,_,rfl,rfl,g2,g3,kz,kd,i2,hv,λv iv=>q x4 H2 (E1.trans E2) R2 v iv⟩
noncomputable def Kw(mo mi mv:Sl->M D):Sl->M (Fl×Sl):=λB=>bnd (mv B) λv=>bnd (mo B) λx=>bnd (mi B) λy=>bnd (Lm x) λr=>λZ=>match EZ y with
 |some c=>if r.2.length<sizeLine/\(r.2.any λz=>decide (z.1=c))=false then some ((.next,B),Z.set r.1 (.dP (r.2++[(c,v)]))) else none
 |none=>none
noncomputable def XH(td ty tv:TE)(K:KW)(w:World):TS:=λDn O H=>tv O H λv H1=>td O H1 λx H2=>ty O H2 λy H3=>∃p l c a Y k,x=.ref p/\y=.ref a/\H3 p=some (De w p l)/\(∀z∈l,Kz z.1=true/\deep z.1<=8/\Is K Y k H3 z.1 (.ref z.2.1))/\(Kz c=true/\deep c<=8/\Is K Y k H3 c (.ref a))/\l.length<sizeLine/\(l.any λz=>decide (z.1=c))=false/\Dn.nx O (upd H3 p (De w p (l++[(c,a,v)])))
theorem TY(hr:Room k0 X.A)(ho:PE X o td)(hi:PE X i ty)(hv:PE X value tv)(hs:swapsWith value (some (.Subscript o i pos')) pos.line X.env=pure false):
  PS X (.Assign [.Subscript o i pos'] value pos) (XH td ty tv X.kw X.w):=by
 intro w4 s O H D I h;refine wpAny_Assign_Subscript (thn (hv w4 s O H _ I h) λr s1 ⟨v,H1,I1,rv,q1⟩=>thn (ho w4 s1 O H1 _ I1 q1) λu s2 ⟨x,H2,I2,rx,q2⟩=>thn (hi w4 s2 O H2 _ I2 q2) λiv s3 zq=>?_) hs;obtain⟨y,H3,I3,ry,p,l,c,a,Y,k,ex,ey,e,hl,hc,hz,hn,q3⟩:=zq;subst ex ey;cases rx;cases ry;obtain⟨us,hlen,hvs,dd,nd,hs,lo⟩:=F2 I3 e hl;have hx:(B7 l us).length=l.length:=by unfold B7;rw[AAF,List.length_zip];omega
 have no:atKey (B7 l us) c=none:=by
  have:=Pk.CN (c:=c) hlen;rw[hn] at this;cases z:atKey (B7 l us) c with
  |none=>rfl
  |some _=>rw[z] at this;cases this
 refine wpAny_setItem_heap (hsz:=by omega) (NC hr) (isP I3 hc.1 hc.2.1 hc.2.2) dd λh' dd' sb=>⟨O,_,?_,q3⟩;rw[storedH_new no] at dd';obtain⟨o',es',ep',d1,d2,d3,d4,_,_⟩:=dd';refine FH I3 (by rw[e];exact True.intro) sb ⟨o',d1⟩ (Rq ⟨us++[r],o',es',ep',?_,d1,d2,d3,?_,?_,?_,lo⟩)
 ·rw[AAX];exact hvs.append (.cons rv .nil)
 ·rw[d4,List.zip_append hlen,AAX];unfold B7;rw[AAX,List.map_map];rfl
 ·rw[AAX];refine List.nodup_append.mpr ⟨nd,by simp,?_⟩;intro z hz' w hw;have hw':w=c:=by simpa using hw
  intro hzc;obtain⟨t,ht,et⟩:=AAL.mp hz';have et':t.1=c:=et.trans (hzc.trans hw');have:(l.any λz=>decide (z.1=c))=true:=List.any_eq_true.mpr ⟨t,ht,by simp[et']⟩;rw[hn] at this;cases this
 ·rw[AAG];simp;omega
theorem TC{value:Expr}{k:Nat}(hr:Room k X.A)(ho:RE X o mo)(hi:RE X i mi)(hv:RE X value mv)(hs:swapsWith value (some (.Subscript o i pos')) pos.line X.env=pure false:=by rfl):RS X (.Assign [.Subscript o i pos'] value pos) (Kw mo mi mv):=RS.wk (TY hr ho.pe hi.pe hv.pe hs) λDn O H h=>by
 obtain⟨Y,Z,B,f,x8,Z',R,S,e,q⟩:=h;obtain⟨v,w5,e1,ee1⟩:=AE e;obtain⟨x,w6,e2,ee2⟩:=AE ee1;obtain⟨y,x6,e3,ee3⟩:=AE ee2;obtain⟨r,y9,e4,ee4⟩:=AE ee3;refine⟨Y,Z,B,v,w5,R,S,e1,λx3 H1 E1 R1 v1 i1=>⟨x3,w5,B,x,w6,R1,S.ext E1,e2,λx4 H2 E2 R2 v2 i2=>⟨x4,w6,B,y,x6,R2,S.ext (E1.trans E2),e3,λx9 H3 E3 R3 v3 i3=>?_⟩⟩⟩;obtain⟨hm,hx,g1,hv2,kvs,g2,g3⟩:=FJ R3 (i2.ext E3) e4;subst hm;have E13:=(E1.trans E2).trans E3;cases hk:EZ y with
 |none=>rw[hk] at ee4;cases ee4
 |some c=>
  rw[hk] at ee4;have ee4:(if r.2.length<sizeLine/\(r.2.any λz=>decide (z.1=c))=false then some ((Fl.next,B),List.set y9 r.1 (MO.dP (r.2++[(c,v)]))) else none)=some ((f,x8),Z'):=ee4;split at ee4
  ·rename_i hl;cases ee4;obtain⟨rfl,⟨ds,rfl⟩,kz,kd⟩:=FC hk;have i3':=i3;unfold Is at i3';obtain⟨a,_,rfl,_⟩:=i3';have hlt:r.1<List.length y9:=(AAT.mp g1).1;have hkl:kvs.length=r.2.length:=by have:=congrArg List.length g3.keys;simpa using this
   obtain⟨E4,R4⟩:=R3.changed (m:=.dP (r.2++[(.tup ds,v)])) (o:=De X.w (x9 r.1) (kvs++[(.tup ds,a,v1)])) hlt ⟨_,rfl,PVs.app ⟨kz,kd,i3⟩ (i1.ext (E2.trans E3)) g3⟩;exact⟨_,kvs,_,a,x9,_,hv2,rfl,g2,g3.at,⟨kz,kd,i3⟩,by omega,by rw[GZ g3.keys];exact hl.2,q x9 _ (E13.trans E4) R4 O (S.ext (E13.trans E4))⟩
  ·cases ee4
end
noncomputable def FW(l:List (D×D))(c v:D):List (D×D):=l.map λz=>if z.1=c then (z.1,v) else z
noncomputable def IX(l:List (D×Addr×V))(c:D)(v:V):List (D×Addr×V):=l.map λz=>if z.1=c then (z.1,z.2.1,v) else z
noncomputable def TR(l:List (D×Addr×V))(us:List Value)(c:D)(u:Value):List Value:=(l.zip us).map λx=>if x.1.1=c then u else x.2
theorem OQ(l:List (D×Addr×V))(c:D)(v:V):(IX l c v).map (·.1)=l.map (·.1):=by
 unfold IX;rw[List.map_map];refine List.map_congr_left λz _=>?_;show (if z.1=c then (z.1,z.2.1,v) else z).1=z.1;split<;>rfl
theorem K7(r:RelV v u):∀{l:List (D×Addr×V)} {us:List Value},Vals (l.map (·.2.2)) us->Vals ((IX l c v).map (·.2.2)) (TR l us c u)
 |[],us,h=>by cases h;exact .nil
 |z::l,us,h=>by
  cases h with
  |cons a t=>
   have ih:=K7 (c:=c) r t;show Vals ((if z.1=c then (z.1,z.2.1,v) else z).2.2::(IX l c v).map (·.2.2)) ((if z.1=c then u else _)::TR l _ c u);split
   ·exact .cons r ih
   ·exact .cons a ih
theorem K8(g:D->Addr->Value->β):∀{l:List (D×Addr×V)} {us:List Value},l.length=us.length->((IX l c v).zip (TR l us c u)).map (λx=>g x.1.1 x.1.2.1 x.2)=(l.zip us).map (λx=>g x.1.1 x.1.2.1 (if x.1.1=c then u else x.2))
 |[],_,_=>rfl
 |z::l,[],h=>by cases h
 |z::l,y::us,h=>by
  have ih:=K8 (c:=c) (v:=v) (u:=u) g (l:=l) (us:=us) (Nat.succ.inj h);have hd:g (if z.1=c then (z.1,z.2.1,v) else z).1 (if z.1=c then (z.1,z.2.1,v) else z).2.1 (if z.1=c then u else y)=g z.1 z.2.1 (if z.1=c then u else y):=by
   by_cases e:z.1=c
   ·rw[if_pos e]
   ·rw[if_neg e]
  exact(congrArg (_::·) ih).trans (congrArg (·::_) hd)
section
variable{K:KW}{Y:Nat->Addr}{k:Nat}{H:Hp}
theorem PVs.put(h2:Is K Y k H d v):∀{l:List (D×D)} {r:List (D×Addr×V)},PVs K Y k H l r->PVs K Y k H (FW l c d) (IX r c v)
 |[],_,h=>by cases h;rfl
 |(z,e)::l,_,h=>by
  obtain⟨b,w,r',rfl,g1,g2,g3⟩:=h;have ih:=PVs.put (c:=c) h2 g3;show PVs K Y k H ((if z=c then (z,d) else (z,e))::FW l c d) ((if z=c then (z,b,v) else (z,b,w))::IX r' c v);by_cases y:z=c
  ·rw[if_pos y,if_pos y];exact⟨b,v,_,rfl,g1,h2,ih⟩
  ·rw[if_neg y,if_neg y];exact⟨b,w,_,rfl,g1,g2,ih⟩
end
section
variable{X:Cx}{e o i:Expr}{pos pos':Pos}
noncomputable def FP(mo mi mv:Sl->M D):Sl->M (Fl×Sl):=λB=>bnd (mv B) λv=>bnd (mo B) λx=>bnd (mi B) λy=>bnd (Lm x) λr=>λZ=>match EZ y with
 |some c=>if (r.2.any λz=>decide (z.1=c))=true then some ((.next,B),Z.set r.1 (.dP (FW r.2 c v))) else none
 |none=>none
noncomputable def XG(td ty tv:TE)(K:KW)(w:World):TS:=λDn O H=>tv O H λv H1=>td O H1 λx H2=>ty O H2 λy H3=>∃p l c a Y k,x=.ref p/\y=.ref a/\H3 p=some (De w p l)/\(∀z∈l,Kz z.1=true/\deep z.1<=8/\Is K Y k H3 z.1 (.ref z.2.1))/\(Kz c=true/\deep c<=8/\Is K Y k H3 c (.ref a))/\(l.any λz=>decide (z.1=c))=true/\Dn.nx O (upd H3 p (De w p (IX l c v)))
theorem TX(hr:Room k0 X.A)(ho:PE X o td)(hi:PE X i ty)(hv:PE X value tv)(hs:swapsWith value (some (.Subscript o i pos')) pos.line X.env=pure false):
  PS X (.Assign [.Subscript o i pos'] value pos) (XG td ty tv X.kw X.w):=by
 intro w4 s O H D I h;refine wpAny_Assign_Subscript (thn (hv w4 s O H _ I h) λr s1 ⟨v,H1,I1,rv,q1⟩=>thn (ho w4 s1 O H1 _ I1 q1) λu s2 ⟨x,H2,I2,rx,q2⟩=>thn (hi w4 s2 O H2 _ I2 q2) λiv s3 zq=>?_) hs;obtain⟨y,H3,I3,ry,p,l,c,a,Y,k,ex,ey,e,hl,hc,hn,q3⟩:=zq;subst ex ey;cases rx;cases ry;obtain⟨us,hlen,hvs,dd,nd,hs,lo⟩:=F2 I3 e hl;have hx:(B7 l us).length=l.length:=by unfold B7;rw[AAF,List.length_zip];omega
 obtain⟨w0,yes⟩:∃w0,atKey (B7 l us) c=some w0:=by
  have:=Pk.CN (c:=c) hlen;rw[hn] at this;cases z:atKey (B7 l us) c with
  |none=>rw[z] at this;cases this
  |some w0=>exact⟨w0,rfl⟩
 refine wpAny_setItem_heap (hsz:=by omega) (NC hr) (isP I3 hc.1 hc.2.1 hc.2.2) dd λh' dd' sb=>⟨O,_,?_,q3⟩;rw[storedH_old yes] at dd';obtain⟨o',es',ep',d1,d2,d3,d4,_,_⟩:=dd';refine FH I3 (by rw[e];exact True.intro) sb ⟨o',d1⟩ (Rq ⟨TR l us c r,o',es',ep',K7 rv hvs,d1,d2,d3,?_,?_,?_,lo⟩)
 ·rw[d4,K8 (λd a x=>({ key:=.ref a,hash:=hD X.w d,val:=x }:DictEntry)) hlen];unfold B7;rw[List.map_map,List.map_map];refine List.map_congr_left λx _=>?_;show _=({ key:=.ref x.1.2.1,hash:=hD X.w x.1.1,val:=if x.1.1=c then r else x.2 }:DictEntry);by_cases z:x.1.1=c
  ·rw[if_pos z];simp[putAt,z];rfl
  ·rw[if_neg z];simp[putAt,z];rfl
 ·rw[OQ];exact nd
 ·unfold IX;rw[AAF];exact hs
theorem M9(hr:Room k X.A)(ho:RE X o mo)(hi:RE X i mi)(hv:RE X value mv)(hs:swapsWith value (some (.Subscript o i pos')) pos.line X.env=pure false:=by rfl):RS X (.Assign [.Subscript o i pos'] value pos) (FP mo mi mv):=RS.wk (TX hr ho.pe hi.pe hv.pe hs) λDn O H h=>by
 obtain⟨Y,Z,B,f,x8,Z',R,S,e,q⟩:=h;obtain⟨v,w5,e1,ee1⟩:=AE e;obtain⟨x,w6,e2,ee2⟩:=AE ee1;obtain⟨y,x6,e3,ee3⟩:=AE ee2;obtain⟨r,y9,e4,ee4⟩:=AE ee3;refine⟨Y,Z,B,v,w5,R,S,e1,λx3 H1 E1 R1 v1 i1=>⟨x3,w5,B,x,w6,R1,S.ext E1,e2,λx4 H2 E2 R2 v2 i2=>⟨x4,w6,B,y,x6,R2,S.ext (E1.trans E2),e3,λx9 H3 E3 R3 v3 i3=>?_⟩⟩⟩;obtain⟨hm,hx,g1,hv2,kvs,g2,g3⟩:=FJ R3 (i2.ext E3) e4;subst hm;have E13:=(E1.trans E2).trans E3;cases hk:EZ y with
 |none=>rw[hk] at ee4;cases ee4
 |some c=>
  rw[hk] at ee4;have ee4:(if (r.2.any λz=>decide (z.1=c))=true then some ((Fl.next,B),List.set y9 r.1 (MO.dP (FW r.2 c v))) else none)=some ((f,x8),Z'):=ee4;split at ee4
  ·rename_i hl;cases ee4;obtain⟨rfl,⟨ds,rfl⟩,kz,kd⟩:=FC hk;have i3':=i3;unfold Is at i3';obtain⟨a,_,rfl,_⟩:=i3';have hlt:r.1<List.length y9:=(AAT.mp g1).1;obtain⟨E4,R4⟩:=R3.changed (m:=.dP (FW r.2 (.tup ds) v)) (o:=De X.w (x9 r.1) (IX kvs (.tup ds) v1)) hlt ⟨_,rfl,PVs.put (i1.ext (E2.trans E3)) g3⟩;exact⟨_,kvs,_,a,x9,_,hv2,rfl,g2,g3.at,⟨kz,kd,i3⟩,by rw[GZ g3.keys];exact hl,q x9 _ (E13.trans E4) R4 O (S.ext (E13.trans E4))⟩
  ·cases ee4
end
end Mi
namespace Mi
theorem Xj{n:Bool}:Pu2 (Ej n):=λx y Z a Z' e=>by
 cases y with
 |non=>cases e;rfl
 |_=>cases e
end Mi
local macro_rules | `(tactic| wtm_at "k")=>`(tactic| repeat first|exact Mi.NN|exact Mi.Xk|exact Mi.pu_true|exact Mi.Ul|exact Mi.Xj|exact Mi.QJ|apply Mi.NM|apply Mi.Uk|apply Mi.Uj|apply Mi.pu_and|apply Mi.pu_not)
namespace L2
open PySem PySem.Spec PyProof.Rows Sem
end L2
namespace L2
open PySem PySem.Spec PyProof.Rows
end L2
namespace Mi
open PySem L2
mutual
def clB(k:Nat):D->Bool
 | .tup ds=>F4 k ds
 | .lst ds=>F4 k ds
 | .ref n=>Nat.blt n k
 |_=>true
def F4(k:Nat):List D->Bool
 |[]=>true
 |d::ds=>match clB k d with
  |true=>F4 k ds
  |false=>false
end
noncomputable def Yc(k:Nat):MO->Bool
 | .lst ds=>F4 k ds
 | .dK l=>F4 k (l.map (·.2))
 | .dC l=>F4 k (l.map (·.2))
 | .ins _ l=>F4 k (l.map (·.2))
 | .dP l=>F4 k (l.map (·.1))&&F4 k (l.map (·.2))
 | .exc _ _=>true
mutual
theorem Rz:∀{d:D},clB k d=true->Cl k d
 | .tup ds,h=>by unfold clB at h;unfold Cl;exact DD h
 | .lst ds,h=>by unfold clB at h;unfold Cl;exact DD h
 | .ref n,h=>by unfold clB at h;unfold Cl;exact Nat.blt_eq.mp h
 | .non,_ | .bl _,_ | .int _,_ | .str _,_ | .ty _,_ | .scr _,_=>by unfold Cl;trivial
theorem DD:∀{ds:List D},F4 k ds=true->ClL k ds
 |[],_=>by unfold ClL;trivial
 |d::ds,h=>by
  unfold F4 at h;unfold ClL;cases e:clB k d with
  |true=>rw[e] at h;exact⟨Rz e,DD h⟩
  |false=>rw[e] at h;cases h
end
theorem UJ(h:Yc k o=true):ClO k o:=by
 cases o with
 |lst ds=>exact DD h
 |dK l=>exact DD h
 |dC l=>exact DD h
 |ins _ l=>exact DD h
 |dP l=>
  have h:(F4 k (l.map (·.1))&&F4 k (l.map (·.2)))=true:=h;rw[Bool.and_eq_true] at h;exact⟨DD h.1,DD h.2⟩
 |exc c n=>exact trivial
noncomputable def Dw(k:Nat):Nat->Mh->Option Mh
 |0,_=>some []
 |_+1,[]=>none
 |n+1,o::Z=>match Yc k o with
  |true=>match Dw k n Z with
   |some r=>some (o::r)
   |none=>none
  |false=>none
theorem GP:∀{n:Nat} {Z r:Mh},Dw k n Z=some r->(∃g,Z=r++g)/\List.length r=n/\∀o∈r,ClO k o
 |0,Z,r,h=>by cases h;exact⟨⟨Z,rfl⟩,rfl,λo ho=>by cases ho⟩
 |_+1,[],r,h=>by cases h
 |n+1,o::Z,r,h=>by
  unfold Dw at h;split at h
  ·rename_i hc;split at h
   ·rename_i r' hr;cases h;obtain⟨⟨g,rfl⟩,h2,h3⟩:=GP hr;refine⟨⟨g,rfl⟩,by rw[AAH,h2],λp hp=>?_⟩;rcases AAI.mp hp with rfl|hp
    ·exact UJ hc
    ·exact h3 p hp
   ·cases h
  ·cases h
noncomputable def V3(Z:Mh)(hw:How)(d:D)(w6:Mh):Option (D×Mh):=match hw with
 | .all=>some (d,w6)
 | .drop=>match clB (List.length Z) d with
  |true=>match Dw (List.length Z) (List.length Z) w6 with
   |some r=>some (d,r)
   |none=>none
  |false=>none
 | .frz=>match d with
  | .ref n=>match Nat.ble (List.length Z) n with
   |true=>match w6[n]? with
    |some (.lst ds)=>match F4 (List.length Z) ds with
     |true=>match Dw (List.length Z) (List.length Z) w6 with
      |some r=>some (.lst ds,r)
      |none=>none
     |false=>none
    |_=>none
   |false=>none
  |d=>match clB (List.length Z) d with
   |true=>match Dw (List.length Z) (List.length Z) w6 with
    |some r=>some (d,r)
    |none=>none
   |false=>none
theorem Tn(h:V3 Z hw d' w6=some (d,Z')):(Z'=w6/\d=d')∨EC Z w6 Z' d' d:=by
 have dr:∀{d' d:D} {Z':Mh},(match clB (List.length Z) d' with|true=>(match Dw (List.length Z) (List.length Z) w6 with|some r=>some (d',r)|none=>none)|false=>none)=some (d,Z')->EC Z w6 Z' d' d:=by
  intro d' d Z' h;split at h
  ·rename_i hc;split at h
   ·rename_i r hr;cases h;obtain⟨g,hl,ho⟩:=GP hr;exact⟨g,by rw[hl];exact AAE _,λn o e=>.inr (by rw[hl];exact ho o (AAU e)),.inl ⟨rfl,by rw[hl];exact Rz hc⟩⟩
   ·cases h
  ·cases h
 unfold V3 at h;split at h
 ·cases h;exact .inl ⟨rfl,rfl⟩
 ·exact .inr (dr h)
 ·split at h
  ·split at h
   ·rename_i n hn;split at h
    ·rename_i ds hq;split at h
     ·rename_i hc;split at h
      ·rename_i r hr;cases h;obtain⟨g,hl,ho⟩:=GP hr;exact .inr ⟨g,by rw[hl];exact AAE _,λn o e=>.inr (by rw[hl];exact ho o (AAU e)),.inr ⟨_,ds,rfl,hq,by rw[hl];exact Nat.le_of_ble_eq_true hn,rfl,by rw[hl];exact DD hc⟩⟩
      ·cases h
     ·cases h
    ·cases h
   ·cases h
  ·exact .inr (dr h)
noncomputable def Uw:Fl->Bool
 | .next=>true
 | .rt _=>true
 |_=>false
theorem RJ(h:Uw f=true):f=.next∨∃d,f=.rt d:=by
 cases f with
 |next=>exact .inl rfl
 |rt d=>exact .inr ⟨d,rfl⟩
 |_=>cases h
noncomputable def Gm(hw:How)(n ps:Nat)(mb:Sl->M (Fl×Sl)):List D->M D:=λds Z=>match Nat.beq (List.length ds) ps with
 |true=>match mb (Bh n ds) Z with
  |some ((fl,_),w6)=>match Uw fl with
   |true=>V3 Z hw (Dv fl) w6
   |false=>none
  |none=>none
 |false=>none
theorem IJ(h:Gm hw n ps mb ds Z=some (d,Z')):
  ds.length=ps/\∃fl x5 w6,mb (Bh n ds) Z=some ((fl,x5),w6)/\(fl=.next∨∃d,fl=.rt d)/\((Z'=w6/\d=Dv fl)∨EC Z w6 Z' (Dv fl) d):=by
 unfold Gm at h;split at h
 ·rename_i hl;split at h
  ·rename_i fl x5 w6 e;split at h
   ·rename_i hf;exact⟨Nat.eq_of_beq_eq_true hl,fl,x5,w6,e,RJ hf,Tn h⟩
   ·cases h
  ·cases h
 ·cases h
section
variable{P:Program}{w:World}{K:PySem.W.Frag}{mg:Str->Option Value}{base:Heap}
theorem Oq(hw:How)(F:Fun K x qual st f fd)(S:Ac N ps (AQ st))
  (body:∀(cdv:Value) (A:Around) (outer:List Env) (s:Shared) (H:Hp) (E:XK),Room k (A.deeper (PyProof.Rows.envOfC qual (AQ st) s.heap.objs.size f cdv))->RSs (GT CX0 P w K mg base N qual (AQ st) f cdv A outer s H E).nox (CM st) mb) :
  FnOk P w K mg base CX0 (k+1) f fd ps (spM ⟨K,w⟩ ps.length (Gm hw N.length ps.length mb)):=by
 refine F.ok S (λvs H Q E h=>h.1) (λcdv A outer s H vs Q E hr h=>⟨_,(body cdv A outer s H E hr).pe,?_⟩);obtain⟨hl,Y,Z,ds,d,Z',R,i,e,q⟩:=h;obtain⟨_,fl,x5,w6,e2,hfl,t⟩:=IJ e;refine⟨Y,Z,_,fl,x5,w6,R,RelS.start i,e2,λx4 H2 E2 R2 u4 S2=>?_⟩;have z:Ext Y Z.length H x4 Z'.length H2/\RelH ⟨K,w⟩ x4 Z' H2/\∀v,Is ⟨K,w⟩ x4 w6.length H2 (Dv fl) v->Is ⟨K,w⟩ x4 Z'.length H2 d v:=by
  rcases t with ⟨rfl,rfl⟩|t
  ·exact⟨E2,R2,λv iv=>iv⟩
  ·exact HL R E2 R2 t
 obtain⟨E3,R3,c⟩:=z;rcases hfl with rfl|⟨d0,rfl⟩
 ·exact q x4 H2 E3 R3 _ (c _ (by unfold Dv Is;rfl))
 ·exact λv iv=>q x4 H2 E3 R3 v (c v iv)
theorem RU(hw:How)(F:Fun K x qual st f fd)(S:Ac N ps (AQ st))(hm:mg x=some (.ref f))(hb:Binds K fd ps [])
  (body:∀(cdv:Value) (A:Around) (outer:List Env) (s:Shared) (H:Hp) (E:XK),Room k (A.deeper (PyProof.Rows.envOfC qual (AQ st) s.heap.objs.size f cdv))->RSs (GT CX0 P w K mg base N qual (AQ st) f cdv A outer s H E).nox (CM st) mb) :
  Fn P w K mg base x ps (k+1) (Gm hw N.length ps.length mb):=⟨λds Z r h=>(IJ (d:=r.1) (Z':=r.2) h).1,f,fd,Oq hw F S body,hm,F.kp,hb⟩
end
noncomputable def DP(w6:Mh)(k:Nat):Nat->D->D
 |0,d=>d
 |n+1,.ref j=>match Nat.ble k j with
  |true=>match w6[j]? with
   |some (.lst ds)=>.lst (ds.map (DP w6 k n))
   |_=>.ref j
  |false=>.ref j
 |n+1,.tup ds=>.tup (ds.map (DP w6 k n))
 |n+1,.lst ds=>.lst (ds.map (DP w6 k n))
 |_+1,d=>d
theorem G8(h:∀d v,Is K Y k H d v->Cl k' (f d)->Is K Y k' H (f d) v):∀{ds:List D} {vs:List V},IsL K Y k H ds vs->ClL k' (ds.map f)->IsL K Y k' H (ds.map f) vs
 |[],_,i,_=>by unfold IsL at i;subst i;unfold List.map IsL;rfl
 |d::ds,_,i,c=>by
  unfold IsL at i;obtain⟨v,vs',rfl,i1,i2⟩:=i;rw[AAW] at c ⊢;unfold ClL at c;unfold IsL;exact⟨v,vs',rfl,h d v i1 c.1,G8 h i2 c.2⟩
theorem KK(hk:k<=w6.length)(R:RelH K Y w6 H):∀(n:Nat) (d:D) (v:V),Is K Y w6.length H d v->Cl k (DP w6 k n d)->Is K Y k H (DP w6 k n d) v
 |0,d,v,i,c=>i.down hk c
 |n+1,.tup ds,v,i,c=>by
  unfold DP at c ⊢;unfold Is at i ⊢;unfold Cl at c;obtain⟨p,vs,e,q,il⟩:=i;exact⟨p,vs,e,q,G8 (KK hk R n) il c⟩
 |n+1,.lst ds,v,i,c=>by
  unfold DP at c ⊢;unfold Is at i ⊢;unfold Cl at c;obtain⟨p,vs,e,q,nf,il⟩:=i;exact⟨p,vs,e,q,λm hm=>nf m (AAM hm hk),G8 (KK hk R n) il c⟩
 |n+1,.ref j,v,i,c=>by
  unfold DP at c ⊢;split
  ·rename_i hj;rw[hj] at c;have hj:=Nat.le_of_ble_eq_true hj;dsimp only at c;split
   ·rename_i ds e;rw[e] at c;obtain⟨u,q,vs,rfl,il⟩:=R.obj j _ e;have hn2:j<w6.length:=(AAT.mp e).1;unfold Is at i ⊢;dsimp only at c;unfold Cl at c;refine⟨Y j,vs,i.2,q,λm hm z=>?_,G8 (KK hk R n) il c⟩;have:=R.inj m j (AAM hm hk) hn2 z;omega
   ·rename_i hne;have c:Cl k (.ref j):=by
     revert c
     split
     ·rename_i ds e;exact absurd e (hne ds)
     ·exact id
    exact i.down hk c
  ·rename_i hj;rw[hj] at c;exact i.down hk c
 |n+1,.non,v,i,c=>by unfold DP at c ⊢;exact i.down hk c
 |n+1,.bl _,v,i,c=>by unfold DP at c ⊢;exact i.down hk c
 |n+1,.int _,v,i,c=>by unfold DP at c ⊢;exact i.down hk c
 |n+1,.str _,v,i,c=>by unfold DP at c ⊢;exact i.down hk c
 |n+1,.ty _,v,i,c=>by unfold DP at c ⊢;exact i.down hk c
 |n+1,.scr _,v,i,c=>by unfold DP at c ⊢;exact i.down hk c
open Classical in
noncomputable def JQ(n ps:Nat)(mb:Sl->M (Fl×Sl)):List D->M D:=λds Z=>match mb (Bh n ds) Z with
 |some ((fl,_),w6)=>if ds.length=ps/\(fl=.next∨∃d,fl=.rt d)/\EC Z w6 (w6.take Z.length) .non .non/\Cl Z.length (DP w6 Z.length 8 (Dv fl)) then some (DP w6 Z.length 8 (Dv fl),w6.take Z.length) else none
 |none=>none
theorem II(h:JQ n ps mb ds Z=some (d,Z')):
  ds.length=ps/\∃fl x5 w6,mb (Bh n ds) Z=some ((fl,x5),w6)/\(fl=.next∨∃d,fl=.rt d)/\Z'.length=Z.length/\EC Z w6 Z' .non .non/\d=DP w6 Z'.length 8 (Dv fl)/\Cl Z'.length d:=by
 unfold JQ at h;split at h
 ·rename_i fl x5 w6 e;split at h
  ·rename_i c;cases h;have hl:(w6.take Z.length).length=Z.length:=by
    have:=c.2.2.1.le;have h2:=List.length_take_le Z.length w6;omega
   exact⟨c.1,fl,x5,w6,e,c.2.1,hl,c.2.2.1,by rw[hl],by rw[hl];exact c.2.2.2⟩
  ·cases h
 ·cases h
theorem R7(e:mb (Bh n ds) Z=some ((.rt d,x5),w5++g))(hl:ds.length=ps)(t:EC Z (w5++g) w5 .non .non)(hm:w5.length=Z.length)(c:Cl Z.length (DP (w5++g) Z.length 8 d)):
  JQ n ps mb ds Z=some (DP (w5++g) Z.length 8 d,w5):=by
 have ht:(w5++g).take Z.length=w5:=by rw[←hm,List.take_left]
 unfold JQ;rw[e];dsimp only;rw[if_pos ⟨hl,.inr ⟨d,rfl⟩,by rw[ht];exact t,c⟩,ht];rfl
section
variable{P:Program}{w:World}{K:PySem.W.Frag}{mg:Str->Option Value}{base:Heap}
theorem RQ(F:Fun K x qual st f fd)(S:Ac N ps (AQ st))(hm:mg x=some (.ref f))(hb:Binds K fd ps [])
  (body:∀(cdv:Value) (A:Around) (outer:List Env) (s:Shared) (H:Hp) (E:XK),Room k (A.deeper (PyProof.Rows.envOfC qual (AQ st) s.heap.objs.size f cdv))->RSs (GT CX0 P w K mg base N qual (AQ st) f cdv A outer s H E).nox (CM st) mb) :
  Fn P w K mg base x ps (k+1) (JQ N.length ps.length mb):=by
 refine⟨λds Z r h=>(II (d:=r.1) (Z':=r.2) h).1,f,fd,?_,hm,F.kp,hb⟩;refine F.ok S (λvs H Q E h=>h.1) (λcdv A outer s H vs Q E hr h=>⟨_,(body cdv A outer s H E hr).pe,?_⟩);obtain⟨hl,Y,Z,ds,d,Z',R,i,e,q⟩:=h;obtain⟨_,fl,x5,w6,e2,hfl,hlen,t,ed,c⟩:=II e;refine⟨Y,Z,_,fl,x5,w6,R,RelS.start i,e2,λx4 H2 E2 R2 u4 S2=>?_⟩;obtain⟨E3,R3,_⟩:=HL R E2 R2 t;have hle:Z'.length<=w6.length:=by
  obtain⟨⟨g,hg⟩,_⟩:=t;rw[hg];simp
 have cv:∀v,Is ⟨K,w⟩ x4 w6.length H2 (Dv fl) v->Is ⟨K,w⟩ x4 Z'.length H2 d v:=λv iv=>by
  rw[ed] at c ⊢;exact KK hle R2 8 _ v iv c
 rcases hfl with rfl|⟨d0,rfl⟩
 ·exact q x4 H2 E3 R3 _ (cv _ (by unfold Dv Is;rfl))
 ·exact λv iv=>q x4 H2 E3 R3 v (cv v iv)
end
end Mi
namespace K93
open PySem L2 Mi Nk
open K13 (BI BM Bm Bn CK Bo Cd C9 DA DZ DB Aj Aa BR BL BF BE Bb B4 B5 CH B6)
open K16 (Bq Bp Ba C8 BP Av Ar A6 BH CF Af BA Ay A7 Bj Aw Bd BG Ez Cu)
open K15 (Ep B3 Ax BN)
noncomputable def LI  : Sl->M (Fl×Sl):=
  (AU (Ab (AG Dz AK) (AO 2))
  (AU (Ab Tw (AO 3))
  (AU (FL (NW (AC (AA 1) AK)) (Gs [4,5]) (sIf (AL (mOp AW (mOp AH (AA 5) (mC (.int 0))) (mC (.str "begin")))) (AU (FQ (AA 3) (mOp AH (AA 5) (mC (.int 1))) (AG BX (AC (AA 2) AK)))
  (BD (Ak CT (AA 2) (AC (AG Dz (AC (AA 4) (AC (mC .non) (AC (mOp AH (AG B9 (AC (mC (.str "reads")) (AC (mC (.str "writes")) AK))) (AG KF (AC (mOp AW (AG BX (AC (AA 5) AK)) (mC (.int 3))) AK))) (AC (mOp AH (mOp Ap (AA 5) (AG A1 (AC (mC .non) AK))) (mC (.int 2))) AK))))) AK)))) (AU (Ab (mOp AH (AA 2) (mOp D7 (AA 3) (mOp AH (AA 5) (mC (.int 1))))) (AO 6))
  (AU (Ab (AA 4) (Lh (AA 6) (mC (.int 1))))
  (sIf (AL (mOp AW (AG BX (AC (AA 5) AK)) (mC (.int 3)))) (Ab (mOp AH (AA 5) (mC (.int 2))) (Lh (AA 6) (mC (.int 3)))) Au)))))
  (A5 (B2 1 [] (NV (AA 2)) (AO 0) (mOr (AL (mOp (Ej true) (mOp AH (AA 0) (mC (.int 1))) (mC .non))) (AL (mOp AW (mOp AH (AA 0) (mC (.int 2))) (mC (.str "writes"))))) (AA 0) B9)))))
noncomputable def J6  : Sl->M (Fl×Sl):=
  (AU (FL (Cy (AA 1)) (AO 3) (sIf (CO (AL (mOp EM (AA 3) (AA 2))) (CO (AL (mOp (Ej true) (mOp AH (mOp AH (AA 0) (AA 3)) (mC (.int 1))) (mC .non))) (AL (mOp Jt (mOp AH (mOp AH (AA 0) (AA 3)) (mC (.int 1))) (mOp AH (mOp AH (AA 0) (AA 2)) (mC (.int 0))))))) (A5 (mC (.bl false))) Au))
  (A5 (mC (.bl true))))
noncomputable def LJ(Zn:List D->M D)(Zd:List D->M D):Sl->M (Fl×Sl):=
  (AU (sIf (AL (mOp AW (B2 1 [0] (Cy (AA 1)) (AO 0) (AL (mOp (Ej true) (mOp AH (mOp AH (AA 1) (AA 0)) (mC (.int 1))) (mC .non))) (AA 0) B9) (AG B9 AK))) (A5 (mC (.bl true))) Au)
  (AU (Ab (AG A1 (AC (AG FT (AC (AA 1) AK)) (AC (AA 2) AK))) (AO 4))
  (AU (sIf (AL (mOp (QR false) (AA 4) (AA 3))) (A5 (mOp LA (AA 3) (AA 4))) Au)
  (AU (Kw (AA 3) (AA 4) (mC (.bl false)))
  (AU (FL (Cy (AA 1)) (AO 5) (sIf (AL (AG Zn (AC (AA 0) (AC (AA 1) (AC (AA 5) AK))))) (AU (Ab (B2 1 [5] (Cy (AA 1)) (AO 0) (AL (mOp EM (AA 0) (AA 1))) (AA 0) B9) (AO 6))
  (AU (sIf (CO (AL (mOp AW (mOp AH (mOp AH (AA 0) (AA 5)) (mC (.int 2))) (mC (.str "writes")))) (AL (AG Zd (AC (AA 0) (AC (AA 6) (AC (mOp AH (mOp AH (AA 0) (AA 5)) (mC (.int 3))) (AC (AA 3) AK))))))) (FP (AA 3) (AA 4) (mC (.bl true))) Au)
  (sIf (CO (AL (mOp AW (mOp AH (mOp AH (AA 0) (AA 5)) (mC (.int 2))) (mC (.str "reads")))) (CO (AL (mOp AW (mOp AH (mOp AH (AA 0) (AA 5)) (mC (.int 3))) (AA 2))) (AL (AG Zd (AC (AA 0) (AC (AA 6) (AC (AA 2) (AC (AA 3) AK)))))))) (FP (AA 3) (AA 4) (mC (.bl true))) Au))) Au))
  (A5 (mOp LA (AA 3) (AA 4))))))))
noncomputable def YA(Zq:List D->M D)(Zr:List D->M D)(Zs:List D->M D)(Zx:List D->M D)(Zy:List D->M D)(Zd:List D->M D):Sl->M (Fl×Sl):=
  (AU (Ab (AG Zr (AC (AG Zq (AC (AA 0) (AC (mC (.int 0)) AK))) (AC (mC (.str "whole")) AK))) (AO 1))
  (AU (Ab (AG Zs (AC (AA 1) (AC (Er (AA 0) (C0 (mC (.int 1))) (C0 (mOp Do (mC (.int 15)) (mOp Ga (mC (.int 4)) (AG KF (AC (mOp OP (AG BX (AC (mOp AH (AA 1) (mC (.int 4))) AK)) (mC (.int 3))) AK)))))) AK))) (AO 2))
  (AU (FL (Hg (AC (mOp Ap (AG BX (AC (AA 2) AK)) (mC (.int 1))) AK)) (AO 3) (AU (Ab (AG Zx (AC (AA 1) (AC (Er (AA 2) C6 (C0 (AA 3))) AK))) (AO 4))
  (sIf (AL (mOp EM (AG Zy (AC (AA 1) (AC (AG J8 (AC (Er (AA 2) C6 (C0 (AA 3))) AK)) AK))) (AG Zd (AC (AA 4) (AC (mUn (ND D.lst) (AG BX (AC (AA 4) AK))) (AC (mOp AH (AA 1) (mC (.int 2))) (AC Qu AK))))))) (A5 (mC (.bl false))) Au)))
  (A5 (mC (.bl true))))))
noncomputable def top(i:Nat):Stmt:=PySem.Challenge.pw_strongboxes_k93_whole_whole_boxes_by_all.main.body.getD i (.Pass ⟨0,0,0,0⟩)
section
noncomputable abbrev Pw:Stmt:=top 9
noncomputable abbrev FN:Stmt:=top 4
theorem sc_claim_begun:Ac ["making", "readers"] ["making"] (AQ FN):=⟨rfl,rfl,rfl,by decide +kernel,rfl,by decide +kernel,by decide +kernel⟩
noncomputable abbrev Ed:Stmt:=top 5
theorem sc_claim_writes:Ac ["making", "claim", "worth", "tells"] ["making", "claim", "worth"] (AQ Ed):=⟨rfl,rfl,rfl,by decide +kernel,rfl,by decide +kernel,by decide +kernel⟩
noncomputable abbrev EW:Stmt:=top 6
theorem sc_claim_written:Ac ["making", "claim"] ["making", "claim"] (AQ EW):=⟨rfl,rfl,rfl,by decide +kernel,rfl,by decide +kernel,by decide +kernel⟩
noncomputable abbrev FM:Stmt:=top 7
theorem sc_claim_reads:Ac ["making", "claim", "reader", "told"] ["making", "claim", "reader"] (AQ FM):=⟨rfl,rfl,rfl,by decide +kernel,rfl,by decide +kernel,by decide +kernel⟩
noncomputable abbrev Fi:Stmt:=top 8
theorem sc_claim_told:Ac ["making", "claim", "reader", "worth", "left"] ["making", "claim", "reader", "worth"] (AQ Fi):=⟨rfl,rfl,rfl,by decide +kernel,rfl,by decide +kernel,by decide +kernel⟩
noncomputable abbrev Fh:Stmt:=top 10
theorem sc_with_thing:Ac ["things", "place", "thing"] ["things", "place", "thing"] (AQ Fh):=⟨rfl,rfl,rfl,by decide +kernel,rfl,by decide +kernel,by decide +kernel⟩
noncomputable abbrev Fk:Stmt:=top 11
theorem sc_case_begun:Ac ["case", "hand", "worth"] ["case", "hand", "worth"] (AQ Fk):=⟨rfl,rfl,rfl,by decide +kernel,rfl,by decide +kernel,by decide +kernel⟩
noncomputable abbrev Fj:Stmt:=top 12
theorem sc_case_ended:Ac ["case", "hand", "worth"] ["case", "hand", "worth"] (AQ Fj):=⟨rfl,rfl,rfl,by decide +kernel,rfl,by decide +kernel,by decide +kernel⟩
noncomputable abbrev FO:Stmt:=top 13
theorem sc_cases_ended:Ac ["cases", "hand", "worth", "ended"] ["cases", "hand", "worth"] (AQ FO):=⟨rfl,rfl,rfl,by decide +kernel,rfl,by decide +kernel,by decide +kernel⟩
noncomputable abbrev Ks:Stmt:=top 14
theorem sc_closed:Ac ["cases"] ["cases"] (AQ Ks):=⟨rfl,rfl,rfl,by decide +kernel,rfl,by decide +kernel,by decide +kernel⟩
noncomputable abbrev Im:Stmt:=top 15
theorem sc_reached:Ac ["cases", "ways", "case", "waiting", "hand", "later"] ["cases"] (AQ Im):=⟨rfl,rfl,rfl,by decide +kernel,rfl,by decide +kernel,by decide +kernel⟩
noncomputable abbrev Ec:Stmt:=top 16
theorem sc_moments_from:Ac ["case", "later", "reader", "told"] ["case"] (AQ Ec):=⟨rfl,rfl,rfl,by decide +kernel,rfl,by decide +kernel,by decide +kernel⟩
noncomputable abbrev HS:Stmt:=top 21
theorem sc_is_whole:Ac ["thing", "least", "most"] ["thing", "least", "most"] (AQ HS):=⟨rfl,rfl,rfl,by decide +kernel,rfl,by decide +kernel,by decide +kernel⟩
noncomputable abbrev HU:Stmt:=top 23
theorem sc_is_tuple:Ac ["thing", "least", "most"] ["thing", "least", "most"] (AQ HU):=⟨rfl,rfl,rfl,by decide +kernel,rfl,by decide +kernel,by decide +kernel⟩
noncomputable abbrev Kr:Stmt:=top 26
theorem sc_judged:Ac ["making", "events", "claim", "act"] ["making", "events"] (AQ Kr):=⟨rfl,rfl,rfl,by decide +kernel,rfl,by decide +kernel,by decide +kernel⟩
noncomputable abbrev Ee:Stmt:=top 27
theorem sc_claim_behind:Ac ["making", "claim", "act", "begins", "reader"] ["making", "claim", "act"] (AQ Ee):=⟨rfl,rfl,rfl,by decide +kernel,rfl,by decide +kernel,by decide +kernel⟩
noncomputable abbrev Io:Stmt:=top 28
theorem sc_acts_of:Ac ["making", "events", "names", "going", "acts", "begun", "number", "event", "hand"] ["making", "events"] (AQ Io):=⟨rfl,rfl,rfl,by decide +kernel,rfl,by decide +kernel,by decide +kernel⟩
noncomputable abbrev HV:Stmt:=top 29
theorem sc_is_event:Ac ["thing", "names", "size"] ["thing", "names", "size"] (AQ HV):=⟨rfl,rfl,rfl,by decide +kernel,rfl,by decide +kernel,by decide +kernel⟩
noncomputable abbrev HW:Stmt:=top 31
theorem sc_Lcell_at:Ac ["_law_script", "_law_k"] ["_law_script", "_law_k"] (AQ HW):=⟨rfl,rfl,rfl,by decide +kernel,rfl,by decide +kernel,by decide +kernel⟩
noncomputable abbrev Ip:Stmt:=top 32
theorem sc_Lstream:Ac ["_law_cell", "_law_many", "_law_found", "_law_number", "_law_k"] ["_law_cell", "_law_many"] (AQ Ip):=⟨rfl,rfl,rfl,by decide +kernel,rfl,by decide +kernel,by decide +kernel⟩
noncomputable abbrev Iq:Stmt:=top 33
theorem sc_Lmaking:Ac ["_law_x", "_law_kind", "_law_size", "_law_names", "_law_readers", "_law_hands"] ["_law_x", "_law_kind"] (AQ Iq):=⟨rfl,rfl,rfl,by decide +kernel,rfl,by decide +kernel,by decide +kernel⟩
noncomputable abbrev Kt:Stmt:=top 34
theorem sc_Lworth:Ac ["_law_making_here", "_law_written", "_law_x", "_law_some"] ["_law_making_here", "_law_written", "_law_x"] (AQ Kt):=⟨rfl,rfl,rfl,by decide +kernel,rfl,by decide +kernel,by decide +kernel⟩
noncomputable abbrev Ir:Stmt:=top 35
theorem sc_Levents:Ac ["_law_making_here", "_law_cells", "_law_busy", "_law_events_here", "_law_written", "_law_names", "_law_cell", "_law_x", "_law_name", "_law_worth_here", "_law_event"] ["_law_making_here", "_law_cells"] (AQ Ir):=⟨rfl,rfl,rfl,by decide +kernel,rfl,by decide +kernel,by decide +kernel⟩
noncomputable abbrev Ku:Stmt:=top 36
theorem sc_Ldeeds:Ac ["_law_making_here", "_law_events_here", "_law_found", "_law_at", "_law_k", "_law_event", "_law_deed"] ["_law_making_here", "_law_events_here"] (AQ Ku):=⟨rfl,rfl,rfl,by decide +kernel,rfl,by decide +kernel,by decide +kernel⟩
noncomputable abbrev Fm:Stmt:=top 37
theorem sc_Lmay_stand:Ac ["_law_deeds_here", "_law_left", "_law_k", "_law_j"] ["_law_deeds_here", "_law_left", "_law_k"] (AQ Fm):=⟨rfl,rfl,rfl,by decide +kernel,rfl,by decide +kernel,by decide +kernel⟩
noncomputable abbrev Kv:Stmt:=top 38
theorem sc_Lborne:Ac ["_law_deeds_here", "_law_left", "_law_worth_here", "_law_known", "_law_key", "_law_k", "_law_rest"] ["_law_deeds_here", "_law_left", "_law_worth_here", "_law_known"] (AQ Kv):=⟨rfl,rfl,rfl,by decide +kernel,rfl,by decide +kernel,by decide +kernel⟩
noncomputable abbrev UY:Stmt:=top 39
theorem sc_law:Ac ["_law_script", "_law_making_here", "_law_events_here", "_law_many", "_law_deeds_here"] ["_law_script"] (AQ UY):=⟨rfl,rfl,rfl,by decide +kernel,rfl,by decide +kernel,by decide +kernel⟩
end
noncomputable def Fz:List D->M D:=JQ 7 2 (LI)
noncomputable def IC:List D->M D:=λ_=>BQ
noncomputable def CG:List D->M D:=A3 .drop 4 3 (Av BA B3 IC)
noncomputable def CS:List D->M D:=A3 .drop 4 3 (A6 BA B3 IC Aa)
noncomputable def Aq:List D->M D:=A3 .drop 5 3 (Af CG Ax CS BN)
noncomputable def D4:List D->M D:=A3 .drop 4 2 (CF Aj BF Aq)
noncomputable def CL:List D->M D:=A3 .drop 4 3 (J6)
noncomputable def DI:Nat->List D->M D
 |0=>λ_=>BQ
 |n+1=>Gm .all 7 4 (LJ CL (DI n))
noncomputable def RX:List D->M D:=A3 .drop 5 1 (YA Bb B5 B6 Fz D4 (DI 16))
end K93
namespace Mi
open PySem L2
section
variable{x4 Y':Nat->Addr}{k k2 k':Nat}
variable(ag:∀n,n<k->Y' n=x4 n)(am:∀m,m<k'->∃n,n<k2/\Y' m=x4 n)(hk:k<=k')
include ag am hk
end
end Mi
local macro_rules | `(tactic| wtm_at "p")=>`(tactic| simp only[Mi.mSlotR_eq,Mi.mOpR_eq,Mi.mDispR_eq,Mi.aConsR_eq,Mi.sSeqR_eq,Mi.sSetR_eq,Mi.sIfR_eq,Mi.mAndR_eq,Mi.mOrR_eq,Mi.mTestR_eq,Mi.sRetR_eq])
namespace Mi
section
variable{α:Type}{P:List α->Prop}
theorem lq1(h:∀a,P [a]):∀us:List α,us.length=1->P us:=λus e=>by
 rcases us with _|⟨a,us⟩
 ·cases e
 ·cases List.eq_nil_of_length_eq_zero (Nat.succ.inj e);exact h a
theorem lqs{n:Nat}{P:List α->Prop}(h:∀a,∀us:List α,us.length=n->P (a::us)):∀us:List α,us.length=n+1->P us:=λus e=>by
 rcases us with _|⟨a,us⟩
 ·cases e
 ·exact h a us (Nat.succ.inj e)
theorem lq2(h:∀a b,P [a,b]):∀us:List α,us.length=2->P us:=lqs λa=>lq1 (P:=λl=>P (a::l)) (h a)
theorem lq3(h:∀a b c,P [a,b,c]):∀us:List α,us.length=3->P us:=lqs λa=>lq2 (P:=λl=>P (a::l)) (h a)
theorem lq4(h:∀a b c d,P [a,b,c,d]):∀us:List α,us.length=4->P us:=lqs λa=>lq3 (P:=λl=>P (a::l)) (h a)
end
end Mi
namespace K93
open PySem L2 Mi Nk
open K13 (BI BM Bm Bn CK Bo Cd C9 DA DZ DB Aj Aa BR BL BF BE Bb B4 B5 CH B6)
open K16 (Bq Bp Ba C8 BP Av Ar A6 BH CF Af BA Ay A7 Bj Aw Bd BG Ez Cu)
open K15 (Ep B3 Ax BN)
structure Al(w:World)(K:PySem.W.Frag)(mg:Str->Option Value)(h:Heap):Prop where
 X:K.In h
 G:h.Ns mainGlobals mg
 e0:∃f fd,Df K "_law_cell_at" HW f fd
 e1:∃f fd,Df K "_law_making" Iq f fd
 e2:∃f fd,Df K "_law_stream" Ip f fd
 e3:∃f fd,Df K "_law_worth" Kt f fd
 e4:∃f fd,Df K "_law_events" Ir f fd
 e5:∃f fd,Df K "_law_deeds" Ku f fd
 e6:∃f fd,Df K "claim_begun" FN f fd
 e7:∃f fd,Df K "is_tuple" HU f fd
 e8:∃f fd,Df K "is_whole" HS f fd
 e9:∃f fd,Df K "is_event" HV f fd
 e10:∃f fd,Df K "acts_of" Io f fd
 e11:∃f fd,Df K "with_thing" Fh f fd
 e12:∃f fd,Df K "case_begun" Fk f fd
 e13:∃f fd,Df K "moments_from" Ec f fd
 e14:∃f fd,Df K "reached" Im f fd
 e15:∃f fd,Df K "closed" Ks f fd
 e16:∃f fd,Df K "beside" Pw f fd
 e17:∃f fd,Df K "claim_writes" Ed f fd
 e18:∃f fd,Df K "case_ended" Fj f fd
 e19:∃f fd,Df K "cases_ended" FO f fd
 e20:∃f fd,Df K "claim_written" EW f fd
 e21:∃f fd,Df K "claim_reads" FM f fd
 e22:∃f fd,Df K "claim_told" Fi f fd
 e23:∃f fd,Df K "claim_behind" Ee f fd
 e24:∃f fd,Df K "judged" Kr f fd
 e25:∃f fd,Df K "_law_may_stand" Fm f fd
 e26:∃f fd,Df K "_law_borne" Kv f fd
 e27:∃f fd,Df K "law" UY f fd
 y0:mg "bool" = none
 y1:mg "enumerate" = none
 y2:mg "int" = none
 y3:mg "isinstance" = none
 y4:mg "len" = none
 y5:mg "list" = none
 y6:mg "range" = none
 y7:mg "sorted" = none
 y8:mg "tuple" = none
 g0:Glo K mg "HAD" Ez
 g1:Glo K mg "NONE" Bd
 g2:Glo K mg "NO_WORTH" BG
 g3:Glo K mg "WAITS" Cu
section
variable{P:Program}{w:World}{K:PySem.W.Frag}{mg:Str->Option Value}{base h:Heap}(a:Al w K mg h)
include a
theorem Mp:Fn P w K mg base "_law_cell_at" ["_law_script", "_law_k"] 1 (Bb):=by
 obtain⟨f,fd,d⟩:=a.e0;exact A4 (k:=0) .drop d.F sc_Lcell_at (PySem.W.mg_of a.X a.G d.a) (d.F.binds λ_ _ _ _ _ _=>lq2 λ_ _=>rfl) (λ_ _ _ _ _ _ hr=>have nd:=sc_Lcell_at.nd;(AI (BJ (AZ WE (AB 1) (A2 Dg a.y4 Mi.BS (AD (AB 0) AJ))) (AN (Ae (AR AX (AB 0) (AB 1)))) Ai) (AN (Ae AF))))
theorem O7:Fn P w K mg base "_law_making" ["_law_x", "_law_kind"] 1 (B5):=by
 obtain⟨f,fd,d⟩:=a.e1;exact A4 (k:=0) .drop d.F sc_Lmaking (PySem.W.mg_of a.X a.G d.a) (d.F.binds λ_ _ _ _ _ _=>lq2 λ_ _=>rfl) (λ_ _ _ _ _ _ hr=>have nd:=sc_Lmaking.nd;(AI (Ag 2 nd (Ad Bk AF (Ad Dp (Ad C4 (AB 0) AF) AF))) (AI (Ag 3 nd (AR AX (Eh (AD (Eh (AD Ao (AD Ao (AD Ao (AD Ao AJ))))) (AD (Eh (AD Ao (AD Ao (AD Ao (AD Ao AJ))))) (AD (Eh (AD Ao (AD Ao (AD Ao (AD Ao AJ))))) AJ)))) (Ad Dp (Ad C4 (AB 0) AF) AF))) (AI (Ag 4 nd (Ad Bk AF (Ad Dp (Ad C4 (AB 0) AF) AF))) (AI (OO (co:=none) (tgs:=["_law_name"]) ⟨⟨rfl,by decide +kernel,by decide +kernel,trivial,rfl,by decide +kernel⟩,rfl,⟨_,Cj,λ_ _ _ _=>BK (i:=0) (show List.Nodup (["_law_name"]:List Str) from by decide +kernel) rfl (Or.inl rfl)⟩,λ_ _ _ _=>C3,λ_ _ _ _=>(A0 (AD (AB 0) (AD AF (AD (A0 AJ) AJ))))⟩ (Ca (Eg (AB 3) EJ (DO (Ad Bk AF (AB 4))))) H9 nd) (AN (Ae (A0 (AD (AB 1) (AD (AB 2) (AD (Ad Dp (Ad C4 (AB 0) AF) (AB 2)) (AD (A0 AJ) (AD (CJ HE a.y8 Mi.Dh (AD (AB 5) AJ)) AJ)))))))))))))
theorem O6:Fn P w K mg base "_law_stream" ["_law_cell", "_law_many"] 1 (B4):=by
 obtain⟨f,fd,d⟩:=a.e2;exact A4 (k:=0) .drop d.F sc_Lstream (PySem.W.mg_of a.X a.G d.a) (d.F.binds λ_ _ _ _ _ _=>lq2 λ_ _=>rfl) (λ_ _ _ _ _ _ hr=>have nd:=sc_Lstream.nd;(AI (Ag 2 nd (Dl AJ)) (AI (Ag 3 nd (Ad C4 (AB 0) AF)) (AI (Ky Fa PassesOwn.never (RW.rt (EI (AZ (CD hr) (Ad Dp (AB 0) AF) AF) (EI (AZ X5 (AB 3) AF) (FA (AZ WE (A2 Dg a.y4 Mi.BS (AD (AB 2) AJ)) (AB 1)))))) (AI (CV (By PySem.F.slot_list_append PySem.F.type_list_append CQ (AB 2) (AD (Ad Dp (AB 3) (Ad Um AF AF)) AJ))) (AN (Ag 3 nd (Ad C4 (AB 3) (Ad Um AF AF)))))) (AI (Ag 3 nd (Ad Dp (Ad LC (Ad Bk (Ad C4 (AB 0) AF) AF) AF) AF)) (AI (Du PassesOwn.never rfl (Iu a.y6 (AD (AB 1) AJ)) (EK 4 nd) (AI (Ag 3 nd (Ad Dp (Ad LC (AB 3) (Ad Bk (Ad Bk (Ad C4 (AB 3) AF) AF) (AB 4))) AF)) (AI (CV (By PySem.F.slot_list_append PySem.F.type_list_append CQ (AB 2) (AD (Ad Dp (Ad LC (AB 3) (Ad Bk (Ad C4 (AB 3) AF) AF)) AF) AJ))) (AN (Ag 3 nd (Ad Bk (AB 3) AF)))))) (AN (Ae (Eg (AB 2) EJ (DO (AB 1)))))))))))
theorem SM:Fn P w K mg base "_law_worth" ["_law_making_here", "_law_written", "_law_x"] 1 (CH):=by
 obtain⟨f,fd,d⟩:=a.e3;exact A4 (k:=0) .drop d.F sc_Lworth (PySem.W.mg_of a.X a.G d.a) (d.F.binds λ_ _ _ _ _ _=>lq3 λ_ _ _=>rfl) (λ_ _ _ _ _ _ hr=>have nd:=sc_Lworth.nd;(AI (Ag 3 nd (Ad Bk (Eg (AB 1) (DO (Xa X2 AF)) EJ) (Eh (AD (Ad Dp (Ad C4 (AB 2) AF) (AR AX (AB 0) AF)) (AD (AR AX (AB 0) AF) AJ))))) (AN (Ae (AR AX (AB 3) (Ad Dp (AB 2) (A2 Dg a.y4 Mi.BS (AD (AB 3) AJ))))))))
theorem O8:Fn P w K mg base "_law_events" ["_law_making_here", "_law_cells"] 2 (B6):=by
 obtain⟨f,fd,d⟩:=a.e4;exact A4 (k:=1) .frz d.F sc_Levents (PySem.W.mg_of a.X a.G d.a) (d.F.binds λ_ _ _ _ _ _=>lq2 λ_ _=>rfl) (λ_ _ _ _ _ _ hr=>have nd:=sc_Levents.nd;(AI (Ag 2 nd (Dl AJ)) (AI (Ag 3 nd (Dl AJ)) (AI (Ag 4 nd (Dl (AD (AR AX (AB 0) AF) AJ))) (AI (OO (co:=none) (tgs:=["_law_hand"]) ⟨⟨rfl,by decide +kernel,by decide +kernel,trivial,rfl,by decide +kernel⟩,rfl,⟨_,Cj,λ_ _ _ _=>BK (i:=0) (show List.Nodup (["_law_hand"]:List Str) from by decide +kernel) rfl (Or.inl rfl)⟩,λ_ _ _ _=>C3,λ_ _ _ _=>(AR AX (AB 0) AF)⟩ (Ca (AR AX (AB 0) AF)) H9 nd) (AI (Du PassesOwn.never rfl (Ca (AB 1)) (EK 6 nd) (AI (Ag 7 nd (AR AX (A9 (O6 a) hr (AD (AB 6) (AD AF AJ))) AF)) (AI (Ag 8 nd (AR AX (AB 5) (Ad Dp (AB 7) (A2 Dg a.y4 Mi.BS (AD (AB 5) AJ))))) (AI (BJ (AZ (CD hr) (Ad Dp (Ad C4 (AB 7) AF) AF) AF) (AN (Ag 8 nd (AR AX (AB 5) AF))) Ai) (AI (Ag 9 nd (Ad Dp (Ad C4 (AB 7) AF) (AR AX (AB 0) AF))) (AI (Ag 10 nd (A0 (AD (AR AX (Eh (AD Ao (AD Ao AJ))) (CJ R9 a.y2 Mi.F5 (AD (EL X4 (AB 8) (AB 2)) AJ))) (AD (AB 8) AJ)))) (AI (BJ (RW.rt (EI (AZ (CD hr) (AB 8) (AR AX (AB 5) AF)) (FA (AZ (CD hr) (AR AX (AB 10) AF) Ao)))) (AI (Ag 10 nd (Ad Bk (AB 10) (A0 (AD (AB 9) AJ)))) (AN (CV (By PySem.F.slot_list_append PySem.F.type_list_append CQ (AB 4) (AD (AB 9) AJ))))) Ai) (AI (BJ (RW.rt (EI (AZ (Qn hr) (AB 8) (AR AX (AB 5) AF)) (FA (AZ (CD hr) (AR AX (AB 10) AF) Ao)))) (AN (Ag 10 nd (Ad Bk (AB 10) (A0 (AD (A9 (SM a) hr (AD (AB 0) (AD (AB 4) (AD (Ad C4 (AB 7) AF) AJ)))) AJ))))) Ai) (AI (CV (By PySem.F.slot_list_append PySem.F.type_list_append CQ (AB 3) (AD (AB 10) AJ))) (AN (BJ (AZ X4 (AB 8) (AB 2)) (AN (CV (By PySem.F.slot_list_remove PySem.F.type_list_remove Qy (AB 2) (AD (AB 8) AJ)))) (AN (CV (By PySem.F.slot_list_append PySem.F.type_list_append CQ (AB 2) (AD (AB 8) AJ))))))))))))))) (AN (Ae (AB 3)))))))))
theorem SN:Fn P w K mg base "_law_deeds" ["_law_making_here", "_law_events_here"] 1 (Fz):=by
 obtain⟨f,fd,d⟩:=a.e5;exact RQ (k:=0) d.F sc_Ldeeds (PySem.W.mg_of a.X a.G d.a) (d.F.binds λ_ _ _ _ _ _=>lq2 λ_ _=>rfl) (λ_ _ _ _ _ _ hr=>have nd:=sc_Ldeeds.nd;(AI (Ag 2 nd (Dl AJ)) (AI (Ag 3 nd NG) (AI (Du PassesOwn.never rfl (K5 a.y1 (AD (AB 1) AJ)) (Jq (is:=[4,5]) rfl (DE (BK (i:=4) nd rfl (by first|exact Or.inl rfl|exact Or.inr rfl)) (DE (BK (i:=5) nd rfl (by first|exact Or.inl rfl|exact Or.inr rfl)) G1))) (AN (BJ (AZ (CD hr) (AR AX (AB 5) AF) Ao) (AI (NA hr (AB 3) (AR AX (AB 5) AF) (A2 Dg a.y4 Mi.BS (AD (AB 2) AJ))) (AN (CV (By PySem.F.slot_list_append PySem.F.type_list_append CQ (AB 2) (AD (Dl (AD (AB 4) (AD Cb (AD (AR AX (Eh (AD Ao (AD Ao AJ))) (CJ R9 a.y2 Mi.F5 (AD (EL (CD hr) (A2 Dg a.y4 Mi.BS (AD (AB 5) AJ)) AF) AJ))) (AD (AR AX (Ad Bk (AB 5) (A0 (AD Cb AJ))) AF) AJ))))) AJ))))) (AI (Ag 6 nd (AR AX (AB 2) (NH hr (AB 3) (AR AX (AB 5) AF)))) (AI (P3 (AB 4) (P6 (AB 6) AF)) (AN (BJ (AZ (CD hr) (A2 Dg a.y4 Mi.BS (AD (AB 5) AJ)) AF) (AN (P3 (AR AX (AB 5) AF) (P6 (AB 6) AF))) Ai))))))) (AN (Ae (Yz (co:=(some _)) (tgs:=["_law_deed"]) (by wtm_at "k") (by wtm_at "k") ⟨⟨rfl,by decide +kernel,by decide +kernel,trivial,rfl,by decide +kernel⟩,rfl,⟨_,Cj,λ_ _ _ _=>BK (i:=0) (show List.Nodup (["_law_deed"]:List Str) from by decide +kernel) rfl (Or.inl rfl)⟩,λ_ _ _ _=>Fr (RW.rt (Py (AZ G3 (AR AX (AB 0) AF) Cb) (Px (AZ (CD hr) (AR AX (AB 0) AF) Ao)))),λ_ _ _ _=>(AB 0)⟩ (Vb (AB 2)) H9)))))))
theorem Ih:Fn P w K mg base "claim_begun" ["making"] 1 (Aj):=by
 obtain⟨f,fd,d⟩:=a.e6;exact A4 (k:=0) .drop d.F sc_claim_begun (PySem.W.mg_of a.X a.G d.a) (d.F.binds λ_ _ _ _ _ _=>lq1 λ_=>rfl) (λ_ _ _ _ _ _ hr=>have nd:=sc_claim_begun.nd;(AI (Ag 1 nd (Ad Hd (A2 Dg a.y4 Mi.BS (AD (AR AX (AB 0) AF) AJ)) AF)) (AI (BJ (AZ (CD hr) (AR AX (AB 0) AF) Ao) (AN (Ae (A0 (AD (A0 (AD (AR AX (AB 0) AF) (AD (Dm a.g1) (AD (Ad Qo (A0 (AD (Dm a.g1) AJ)) (AB 1)) AJ)))) AJ)))) Ai) (AN (Ae (A0 (AD (AR AX (AB 0) AF) (AD (Dm a.g1) (AD (Ad Qo (A0 (AD Cb AJ)) (AB 1)) AJ)))))))))
theorem Mm:Fn P w K mg base "is_tuple" ["thing", "least", "most"] 1 (BL):=by
 obtain⟨f,fd,d⟩:=a.e7;exact A4 (k:=0) .drop d.F sc_is_tuple (PySem.W.mg_of a.X a.G d.a) (d.F.binds λ_ _ _ _ _ _=>lq3 λ_ _ _=>rfl) (λ_ _ _ _ _ _ hr=>have nd:=sc_is_tuple.nd;(AN (Ae (Jr (A2 KR a.y3 Mi.CZ (AD (AB 0) (AD (Gy a.y8 Mi.Dh) AJ))) (MB (K6 Tu Tu (AB 1) (A2 Dg a.y4 Mi.BS (AD (AB 0) AJ)) (AB 2)))))))
theorem Ml:Fn P w K mg base "is_whole" ["thing", "least", "most"] 1 (BR):=by
 obtain⟨f,fd,d⟩:=a.e8;exact A4 (k:=0) .drop d.F sc_is_whole (PySem.W.mg_of a.X a.G d.a) (d.F.binds λ_ _ _ _ _ _=>lq3 λ_ _ _=>rfl) (λ_ _ _ _ _ _ hr=>have nd:=sc_is_whole.nd;(AN (Ae (Jr (A2 KR a.y3 Mi.CZ (AD (AB 0) (AD (Gy a.y2 Mi.F5) AJ))) (Jr (Vd (A2 KR a.y3 Mi.CZ (AD (AB 0) (AD (Gy a.y0 Mi.O0) AJ)))) (MB (K6 Tu Tu (AB 1) (AB 0) (AB 2))))))))
theorem Mn:Fn P w K mg base "is_event" ["thing", "names", "size"] 2 (BE):=by
 obtain⟨f,fd,d⟩:=a.e9;exact A4 (k:=1) .drop d.F sc_is_event (PySem.W.mg_of a.X a.G d.a) (d.F.binds λ_ _ _ _ _ _=>lq3 λ_ _ _=>rfl) (λ_ _ _ _ _ _ hr=>have nd:=sc_is_event.nd;(AI (BJ (RW.rt (Py (L8 (Ef (A9 (Mm a) hr (AD (AB 0) (AD AF (AD AF AJ)))))) (Py (AZ J3 (AR AX (AB 0) AF) (A0 (AD Ao (AD Ao AJ)))) (Px (AZ J3 (AR AX (AB 0) AF) (AB 1)))))) (AN (Ae Ei)) Ai) (AI (BJ (AZ (CD hr) (EL (CD hr) (AR AX (AB 0) AF) Ao) (EL (CD hr) (AR AX (AB 0) AF) (AR AX (AB 1) AF))) (AN (Ae (Jr (EL (CD hr) (A2 Dg a.y4 Mi.BS (AD (AB 0) AJ)) AF) (MB (A9 (Ml a) hr (AD (AR AX (AB 0) AF) (AD AF (AD (Ad Hd (AB 2) AF) AJ)))))))) Ai) (AN (Ae (EL (CD hr) (A2 Dg a.y4 Mi.BS (AD (AB 0) AJ)) AF))))))
theorem O5:Fn P w K mg base "acts_of" ["making", "events"] 3 (BF):=by
 obtain⟨f,fd,d⟩:=a.e10;exact A4 (k:=2) .frz d.F sc_acts_of (PySem.W.mg_of a.X a.G d.a) (d.F.binds λ_ _ _ _ _ _=>lq2 λ_ _=>rfl) (λ_ _ _ _ _ _ hr=>have nd:=sc_acts_of.nd;(AI (BJ (L8 (Ef (A2 KR a.y3 Mi.CZ (AD (AB 1) (AD (Gy a.y5 Mi.FI) AJ))))) (AN HY) Ai) (AI (OO (co:=none) (tgs:=["hand"]) ⟨⟨rfl,by decide +kernel,by decide +kernel,trivial,rfl,by decide +kernel⟩,rfl,⟨_,Cj,λ_ _ _ _=>BK (i:=0) (show List.Nodup (["hand"]:List Str) from by decide +kernel) rfl (Or.inl rfl)⟩,λ_ _ _ _=>C3,λ_ _ _ _=>(AR AX (AB 0) AF)⟩ (Ca (AR AX (AB 0) AF)) H9 nd) (AI (Ag 3 nd NG) (AI (Ag 4 nd (Dl AJ)) (AI (Ag 5 nd AF) (AI (Du PassesOwn.never rfl (K5 a.y1 (AD (AB 1) AJ)) (Jq (is:=[6,7]) rfl (DE (BK (i:=6) nd rfl (by first|exact Or.inl rfl|exact Or.inr rfl)) (DE (BK (i:=7) nd rfl (by first|exact Or.inl rfl|exact Or.inr rfl)) G1))) (AI (BJ (L8 (Ef (A9 (Mn a) hr (AD (AB 7) (AD (AB 2) (AD (AR AX (AB 0) AF) AJ)))))) (AN HY) Ai) (AI (Ag 8 nd (By PySem.F.slot_list_index PySem.F.type_list_index Qz (AB 2) (AD (AR AX (AB 7) AF) AJ))) (AI (BJ (AZ (CD hr) (EL (CD hr) (AR AX (AB 7) AF) Ao) (Ve hr (AB 8) (AB 3))) (AN HY) Ai) (AI (BJ (AZ (CD hr) (AR AX (AB 7) AF) Ao) (AI (NA hr (AB 3) (AB 8) (AB 5)) (AN (Va 5 nd AF))) Ai) (AI (CV (By PySem.F.slot_list_append PySem.F.type_list_append CQ (AB 4) (AD (A0 (AD (AR AX (AB 7) AF) (AD (AB 8) (AD (Ha (AZ (CD hr) (A2 Dg a.y4 Mi.BS (AD (AB 7) AJ)) AF) (AR AX (AB 7) AF) (Dm a.g2)) (AD (NH hr (AB 3) (AB 8)) AJ))))) AJ))) (AN (BJ (AZ (CD hr) (AR AX (AB 7) AF) Ao) (AN (CV (TK (AB 3) (AB 8)))) Ai)))))))) (AN (Ae (AB 4))))))))))
theorem Cv:Fn P w K mg base "with_thing" ["things", "place", "thing"] 1 (Aa):=by
 obtain⟨f,fd,d⟩:=a.e11;exact A4 (k:=0) .drop d.F sc_with_thing (PySem.W.mg_of a.X a.G d.a) (d.F.binds λ_ _ _ _ _ _=>lq3 λ_ _ _=>rfl) (λ_ _ _ _ _ _ hr=>have nd:=sc_with_thing.nd;(AN (Ae (Ad Bk (Ad Bk (Eg (AB 0) EJ (DO (AB 1))) (A0 (AD (AB 2) AJ))) (Eg (AB 0) (DO (Ad Bk (AB 1) AF)) EJ)))))
theorem GA:Fn P w K mg base "case_begun" ["case", "hand", "worth"] 2 (BA):=by
 obtain⟨f,fd,d⟩:=a.e12;exact A4 (k:=1) .drop d.F sc_case_begun (PySem.W.mg_of a.X a.G d.a) (d.F.binds λ_ _ _ _ _ _=>lq3 λ_ _ _=>rfl) (λ_ _ _ _ _ _ hr=>have nd:=sc_case_begun.nd;(AI (BJ (AZ (CD hr) (AB 1) AF) (AN (Ae (A0 (AD (AR AX (AB 0) AF) (AD (AB 2) (AD (AR AX (AB 0) AF) AJ)))))) Ai) (AN (Ae (A0 (AD (AR AX (AB 0) AF) (AD (AR AX (AB 0) AF) (AD (A9 (Cv a) hr (AD (AR AX (AB 0) AF) (AD (Ad Hd (AB 1) AF) (AD (Dm a.g3) AJ)))) AJ))))))))
theorem IR:Fn P w K mg base "moments_from" ["case"] 2 (Aw):=by
 obtain⟨f,fd,d⟩:=a.e13;exact A4 (k:=1) .all d.F sc_moments_from (PySem.W.mg_of a.X a.G d.a) (d.F.binds λ_ _ _ _ _ _=>lq1 λ_=>rfl) (λ_ _ _ _ _ _ hr=>have nd:=sc_moments_from.nd;(AI (Ag 1 nd (Dl AJ)) (AI (BJ (AZ ZA (AR AX (AB 0) AF) AF) (AN (CV (By PySem.F.slot_list_append PySem.F.type_list_append CQ (AB 1) (AD (A0 (AD AF (AD (A0 (AD (AR AX (AB 0) AF) (AD (Dm a.g0) (AD (AR AX (AB 0) AF) AJ)))) AJ))) AJ)))) Ai) (AI (Du PassesOwn.never rfl (P5 a.y1 (AD (AR AX (AB 0) AF) AJ)) (Jq (is:=[2,3]) rfl (DE (BK (i:=2) nd rfl (by first|exact Or.inl rfl|exact Or.inr rfl)) (DE (BK (i:=3) nd rfl (by first|exact Or.inl rfl|exact Or.inr rfl)) G1))) (AN (BJ (AZ (CD hr) (AB 3) (Dm a.g3)) (AN (CV (By PySem.F.slot_list_append PySem.F.type_list_append CQ (AB 1) (AD (A0 (AD (Ad Bk (AB 2) AF) (AD (A0 (AD (AR AX (AB 0) AF) (AD (AR AX (AB 0) AF) (AD (A9 (Cv a) hr (AD (AR AX (AB 0) AF) (AD (AB 2) (AD (AR AX (AB 0) AF) AJ)))) AJ)))) AJ))) AJ)))) Ai))) (AN (Ae (AB 1)))))))
theorem O4:Fn P w K mg base "reached" ["cases"] 3 (Bj):=by
 obtain⟨f,fd,d⟩:=a.e14;exact A4 (k:=2) .all d.F sc_reached (PySem.W.mg_of a.X a.G d.a) (d.F.binds λ_ _ _ _ _ _=>lq1 λ_=>rfl) (λ_ _ _ _ _ _ hr=>have nd:=sc_reached.nd;(AI (Ag 1 nd P9) (AI (Du PassesOwn.never rfl (Ca (AB 0)) (EK 2 nd) (AN (NB hr (AB 1) (AB 2) Cb))) (AI (Ag 3 nd (CJ (UM rfl) a.y5 Mi.FI (AD (AB 1) AJ))) (AI (Ky Fa PassesOwn.never (M8 (AB 3)) (AI (Ag 2 nd (OM PySem.F.slot_list_pop PySem.F.type_list_pop X9 (AB 3))) (AN (TD 1000 PassesOwn.never rfl (A9 (IR a) hr (AD (AB 2) AJ)) (Jq (is:=[4,5]) rfl (DE (BK (i:=4) nd rfl (by first|exact Or.inl rfl|exact Or.inr rfl)) (DE (BK (i:=5) nd rfl (by first|exact Or.inl rfl|exact Or.inr rfl)) G1))) (AN (BJ (AZ (Qp hr) (AB 5) (AB 1)) (AI (NB hr (AB 1) (AB 5) (A0 (AD (AB 4) (AD (AB 2) AJ)))) (AN (CV (By PySem.F.slot_list_append PySem.F.type_list_append CQ (AB 3) (AD (AB 5) AJ))))) Ai)))))) (AN (Ae (AB 1))))))))
theorem F9:Fn P w K mg base "closed" ["cases"] 4 (B3):=by
 obtain⟨f,fd,d⟩:=a.e15;exact A4 (k:=3) .drop d.F sc_closed (PySem.W.mg_of a.X a.G d.a) (d.F.binds λ_ _ _ _ _ _=>lq1 λ_=>rfl) (λ_ _ _ _ _ _ hr=>have nd:=sc_closed.nd;(AN (Ae (CJ HE a.y8 Mi.Dh (AD (A2 (R8 hr rfl) a.y7 PyProof.Rows.boot_sorted (AD (A9 (O4 a) hr (AD (AB 0) AJ)) AJ)) AJ)))))
theorem Lq:Fn P w K mg base "beside" ["kind", "size", "worths", "coming"] 1 (IC):=by
 obtain⟨f,fd,d⟩:=a.e16;exact LR d.F (PySem.W.mg_of a.X a.G d.a) (d.F.binds λ_ _ _ _ _ _=>lq4 λ_ _ _ _=>rfl)
theorem IS:Fn P w K mg base "claim_writes" ["making", "claim", "worth"] 5 (CG):=by
 obtain⟨f,fd,d⟩:=a.e17;exact A4 (k:=4) .drop d.F sc_claim_writes (PySem.W.mg_of a.X a.G d.a) (d.F.binds λ_ _ _ _ _ _=>lq3 λ_ _ _=>rfl) (λ_ _ _ _ _ _ hr=>have nd:=sc_claim_writes.nd;(AI (BJ (AZ (CD hr) (AR AX (AB 0) AF) Ao) (AN (Ae (A9 (F9 a) hr (AD (TM (co:=none) (tgs:=["case"]) ⟨⟨rfl,by decide +kernel,by decide +kernel,⟨Or.inl rfl,trivial⟩,rfl,by decide +kernel⟩,rfl,⟨_,Cj,λ_ _ _ _=>BK (i:=0) (show List.Nodup (["case", "worth"]:List Str) from by decide +kernel) rfl (Or.inl rfl)⟩,λ_ _ _ _=>C3,λ_ _ _ _=>(A9 (GA a) hr (AD (AB 0) (AD AF (AD (AB 1) AJ))))⟩ (Ca (AB 1)) H9) AJ)))) Ai) (AI (OO (co:=none) (tgs:=["told"]) ⟨⟨rfl,by decide +kernel,by decide +kernel,⟨Or.inl rfl,Or.inl rfl,trivial⟩,rfl,by decide +kernel⟩,rfl,⟨_,Cj,λ_ _ _ _=>BK (i:=0) (show List.Nodup (["told", "making", "worth"]:List Str) from by decide +kernel) rfl (Or.inl rfl)⟩,λ_ _ _ _=>C3,λ_ _ _ _=>(Ha (AZ X3 (AB 0) Cb) (AB 0) (A9 (Lq a) hr (AD (AR AX (AB 1) AF) (AD (AR AX (AB 1) AF) (AD (AB 0) (AD (AB 2) AJ))))))⟩ (Ca (AR AX (AB 1) AF)) H9 nd) (AN (Ae (A0 (AD (AR AX (AB 1) AF) (AD (AB 2) (AD (CJ HE a.y8 Mi.Dh (AD (AB 3) AJ)) AJ)))))))))
theorem Kf:Fn P w K mg base "case_ended" ["case", "hand", "worth"] 2 (Ay):=by
 obtain⟨f,fd,d⟩:=a.e18;exact A4 (k:=1) .drop d.F sc_case_ended (PySem.W.mg_of a.X a.G d.a) (d.F.binds λ_ _ _ _ _ _=>lq3 λ_ _ _=>rfl) (λ_ _ _ _ _ _ hr=>have nd:=sc_case_ended.nd;(AI (BJ (AZ (CD hr) (AB 1) AF) (AN (Ae (Ha (AZ (CD hr) (AR AX (AB 0) AF) (Dm a.g0)) (A0 (AD (AR AX (AB 0) AF) (AD (Dm a.g1) (AD (AR AX (AB 0) AF) AJ)))) Cb))) Ai) (AN (Ae (Ha (AZ (CD hr) (AR AX (AR AX (AB 0) AF) (Ad Hd (AB 1) AF)) (AB 2)) (A0 (AD (AR AX (AB 0) AF) (AD (AR AX (AB 0) AF) (AD (A9 (Cv a) hr (AD (AR AX (AB 0) AF) (AD (Ad Hd (AB 1) AF) (AD (Dm a.g1) AJ)))) AJ)))) Cb)))))
theorem FR:Fn P w K mg base "cases_ended" ["cases", "hand", "worth"] 3 (A7):=by
 obtain⟨f,fd,d⟩:=a.e19;exact A4 (k:=2) .drop d.F sc_cases_ended (PySem.W.mg_of a.X a.G d.a) (d.F.binds λ_ _ _ _ _ _=>lq3 λ_ _ _=>rfl) (λ_ _ _ _ _ _ hr=>have nd:=sc_cases_ended.nd;(AI (OO (co:=none) (tgs:=["case"]) ⟨⟨rfl,by decide +kernel,by decide +kernel,⟨Or.inl rfl,Or.inl rfl,trivial⟩,rfl,by decide +kernel⟩,rfl,⟨_,Cj,λ_ _ _ _=>BK (i:=0) (show List.Nodup (["case", "hand", "worth"]:List Str) from by decide +kernel) rfl (Or.inl rfl)⟩,λ_ _ _ _=>C3,λ_ _ _ _=>(A9 (Kf a) hr (AD (AB 0) (AD (AB 1) (AD (AB 2) AJ))))⟩ (Ca (AB 0)) H9 nd) (AN (Ae (TM (co:=(some _)) (tgs:=["case"]) ⟨⟨rfl,by decide +kernel,by decide +kernel,trivial,rfl,by decide +kernel⟩,rfl,⟨_,Cj,λ_ _ _ _=>BK (i:=0) (show List.Nodup (["case"]:List Str) from by decide +kernel) rfl (Or.inl rfl)⟩,λ_ _ _ _=>Fr (AZ G3 (AB 0) Cb),λ_ _ _ _=>(AB 0)⟩ (Ca (AB 3)) H9)))))
theorem Gu:Fn P w K mg base "claim_written" ["making", "claim"] 5 (Ax):=by
 obtain⟨f,fd,d⟩:=a.e20;exact A4 (k:=4) .drop d.F sc_claim_written (PySem.W.mg_of a.X a.G d.a) (d.F.binds λ_ _ _ _ _ _=>lq2 λ_ _=>rfl) (λ_ _ _ _ _ _ hr=>have nd:=sc_claim_written.nd;(AI (BJ (AZ (CD hr) (AR AX (AB 0) AF) Ao) (AN (Ae (A9 (F9 a) hr (AD (A9 (FR a) hr (AD (AB 1) (AD AF (AD (Dm a.g1) AJ)))) AJ)))) Ai) (AN (Ae (A0 (AD (AR AX (AB 1) AF) (AD (Dm a.g1) (AD (AR AX (AB 1) AF) AJ))))))))
theorem Ig:Fn P w K mg base "claim_reads" ["making", "claim", "reader"] 5 (CS):=by
 obtain⟨f,fd,d⟩:=a.e21;exact A4 (k:=4) .drop d.F sc_claim_reads (PySem.W.mg_of a.X a.G d.a) (d.F.binds λ_ _ _ _ _ _=>lq3 λ_ _ _=>rfl) (λ_ _ _ _ _ _ hr=>have nd:=sc_claim_reads.nd;(AI (BJ (AZ (CD hr) (AR AX (AB 0) AF) Ao) (AN (Ae (A9 (F9 a) hr (AD (TM (co:=none) (tgs:=["case"]) ⟨⟨rfl,by decide +kernel,by decide +kernel,⟨Or.inl rfl,trivial⟩,rfl,by decide +kernel⟩,rfl,⟨_,Cj,λ_ _ _ _=>BK (i:=0) (show List.Nodup (["case", "reader"]:List Str) from by decide +kernel) rfl (Or.inl rfl)⟩,λ_ _ _ _=>C3,λ_ _ _ _=>(A9 (GA a) hr (AD (AB 0) (AD (Ad Bk (AB 1) AF) (AD (Dm a.g1) AJ))))⟩ (Ca (AB 1)) H9) AJ)))) Ai) (AI (Ag 3 nd (A0 (AD (AR AX (AB 1) AF) AJ))) (AI (BJ (AZ (Qn hr) (AR AX (AB 1) AF) (Dm a.g1)) (AN (Ag 3 nd (A9 (Lq a) hr (AD (AR AX (AB 0) AF) (AD (AR AX (AB 0) AF) (AD (AB 3) (AD (AR AX (AB 1) AF) AJ))))))) Ai) (AN (Ae (A0 (AD (AR AX (AB 1) AF) (AD (AR AX (AB 1) AF) (AD (A9 (Cv a) hr (AD (AR AX (AB 1) AF) (AD (AB 2) (AD (AB 3) AJ)))) AJ))))))))))
theorem Ke:Fn P w K mg base "claim_told" ["making", "claim", "reader", "worth"] 5 (BN):=by
 obtain⟨f,fd,d⟩:=a.e22;exact A4 (k:=4) .drop d.F sc_claim_told (PySem.W.mg_of a.X a.G d.a) (d.F.binds λ_ _ _ _ _ _=>lq4 λ_ _ _ _=>rfl) (λ_ _ _ _ _ _ hr=>have nd:=sc_claim_told.nd;(AI (BJ (AZ (CD hr) (AR AX (AB 0) AF) Ao) (AI (Ag 4 nd (A9 (FR a) hr (AD (AB 1) (AD (Ad Bk (AB 2) AF) (AD (AB 3) AJ))))) (AN (Ae (Ha (M8 (AB 4)) (A9 (F9 a) hr (AD (AB 4) AJ)) Cb)))) Ai) (AI (BJ (AZ J3 (AB 3) (AR AX (AR AX (AB 1) AF) (AB 2))) (AN (Ae Cb)) Ai) (AN (Ae (A0 (AD (AR AX (AB 1) AF) (AD (AR AX (AB 1) AF) (AD (A9 (Cv a) hr (AD (AR AX (AB 1) AF) (AD (AB 2) (AD Cb AJ)))) AJ)))))))))
theorem IT:Fn P w K mg base "claim_behind" ["making", "claim", "act"] 6 (Aq):=by
 obtain⟨f,fd,d⟩:=a.e23;exact A4 (k:=5) .drop d.F sc_claim_behind (PySem.W.mg_of a.X a.G d.a) (d.F.binds λ_ _ _ _ _ _=>lq3 λ_ _ _=>rfl) (λ_ _ _ _ _ _ hr=>have nd:=sc_claim_behind.nd;(AI (Ag 3 nd (EL (CD hr) (AR AX (AB 2) AF) Ao)) (AI (BJ (AZ (CD hr) (AR AX (AB 2) AF) AF) (AN (Ae (Ha (Ef (AB 3)) (A9 (IS a) hr (AD (AB 0) (AD (AB 1) (AD (AR AX (AB 2) AF) AJ)))) (A9 (Gu a) hr (AD (AB 0) (AD (AB 1) AJ)))))) Ai) (AI (Ag 4 nd (Ad Hd (AR AX (AB 2) AF) AF)) (AN (Ae (Ha (Ef (AB 3)) (A9 (Ig a) hr (AD (AB 0) (AD (AB 1) (AD (AB 4) AJ)))) (A9 (Ke a) hr (AD (AB 0) (AD (AB 1) (AD (AB 4) (AD (AR AX (AB 2) AF) AJ))))))))))))
theorem SL:Fn P w K mg base "judged" ["making", "events"] 7 (D4):=by
 obtain⟨f,fd,d⟩:=a.e24;exact A4 (k:=6) .drop d.F sc_judged (PySem.W.mg_of a.X a.G d.a) (d.F.binds λ_ _ _ _ _ _=>lq2 λ_ _=>rfl) (λ_ _ _ _ _ _ hr=>have nd:=sc_judged.nd;(AI (Ag 2 nd (A9 (Ih a) hr (AD (AB 0) AJ))) (AI (Du PassesOwn.never rfl (Ca (A9 (O5 a) hr (AD (AB 0) (AD (AB 1) AJ)))) (EK 3 nd) (AI (Ag 2 nd (A9 (IT a) hr (AD (AB 0) (AD (AB 2) (AD (AB 3) AJ))))) (AN (BJ (AZ X3 (AB 2) Cb) (AN (Ae Ei)) Ai)))) (AN (Ae Ei)))))
theorem Kg:Fn P w K mg base "_law_may_stand" ["_law_deeds_here", "_law_left", "_law_k"] 1 (CL):=by
 obtain⟨f,fd,d⟩:=a.e25;exact A4 (k:=0) .drop d.F sc_Lmay_stand (PySem.W.mg_of a.X a.G d.a) (d.F.binds λ_ _ _ _ _ _=>lq3 λ_ _ _=>rfl) (λ_ _ _ _ _ _ hr=>have nd:=sc_Lmay_stand.nd;(AI (Du PassesOwn.never rfl (Ca (AB 1)) (EK 3 nd) (AN (BJ (RW.rt (EI (AZ (Qn hr) (AB 3) (AB 2)) (EI (AZ G3 (AR AX (AR AX (AB 0) (AB 3)) AF) Cb) (FA (AZ WE (AR AX (AR AX (AB 0) (AB 3)) AF) (AR AX (AR AX (AB 0) (AB 2)) AF)))))) (AN (Ae Ei)) Ai))) (AN (Ae Ei))))
theorem SO(n:Nat):Fn P w K mg base "_law_borne" ["_law_deeds_here", "_law_left", "_law_worth_here", "_law_known"] (n+2) (DI n):=by
 obtain⟨f,fd,d⟩:=a.e26
 induction n with
 |zero=>exact LR d.F (PySem.W.mg_of a.X a.G d.a) (d.F.binds λ_ _ _ _ _ _=>lq4 λ_ _ _ _=>rfl)
 |succ n ih=>exact(RU (k:=n+2) .all d.F sc_Lborne (PySem.W.mg_of a.X a.G d.a) (d.F.binds λ_ _ _ _ _ _=>lq4 λ_ _ _ _=>rfl) (λ_ _ _ _ _ _ hr=>have nd:=sc_Lborne.nd;(AI (BJ (AZ (CD hr) (TM (co:=(some _)) (tgs:=["_law_k"]) ⟨⟨rfl,by decide +kernel,by decide +kernel,⟨Or.inl rfl,trivial⟩,rfl,by decide +kernel⟩,rfl,⟨_,Cj,λ_ _ _ _=>BK (i:=0) (show List.Nodup (["_law_k", "_law_deeds_here"]:List Str) from by decide +kernel) rfl (Or.inl rfl)⟩,λ_ _ _ _=>Fr (AZ G3 (AR AX (AR AX (AB 1) (AB 0)) AF) Cb),λ_ _ _ _=>(AB 0)⟩ (Ca (AB 1)) H9) (Eh AJ)) (AN (Ae Ei)) Ai) (AI (Ag 4 nd (A0 (AD (CJ HE a.y8 Mi.Dh (AD (AB 1) AJ)) (AD (AB 2) AJ)))) (AI (BJ (AZ (X1 hr) (AB 4) (AB 3)) (AN (Ae (NF hr (AB 3) (AB 4)))) Ai) (AI (TC hr (AB 3) (AB 4) Ei) (AI (Du PassesOwn.never rfl (Ca (AB 1)) (EK 5 nd) (AN (BJ (Ef (A9 (hkj:=by omega) (Kg a) hr (AD (AB 0) (AD (AB 1) (AD (AB 5) AJ))))) (AI (OO (co:=(some _)) (tgs:=["_law_j"]) ⟨⟨rfl,by decide +kernel,by decide +kernel,⟨Or.inl rfl,trivial⟩,rfl,by decide +kernel⟩,rfl,⟨_,Cj,λ_ _ _ _=>BK (i:=0) (show List.Nodup (["_law_j", "_law_k"]:List Str) from by decide +kernel) rfl (Or.inl rfl)⟩,λ_ _ _ _=>Fr (AZ (Qn hr) (AB 0) (AB 1)),λ_ _ _ _=>(AB 0)⟩ (Ca (AB 1)) H9 nd) (AI (BJ (RW.rt (EI (AZ (CD hr) (AR AX (AR AX (AB 0) (AB 5)) AF) Ao) (FA (Ef (A9 (hkj:=AAE _) ih hr (AD (AB 0) (AD (AB 6) (AD (AR AX (AR AX (AB 0) (AB 5)) AF) (AD (AB 3) AJ))))))))) (AN (M9 hr (AB 3) (AB 4) Ei)) Ai) (AN (BJ (RW.rt (EI (AZ (CD hr) (AR AX (AR AX (AB 0) (AB 5)) AF) Ao) (EI (AZ (CD hr) (AR AX (AR AX (AB 0) (AB 5)) AF) (AB 2)) (FA (Ef (A9 (hkj:=AAE _) ih hr (AD (AB 0) (AD (AB 6) (AD (AB 2) (AD (AB 3) AJ)))))))))) (AN (M9 hr (AB 3) (AB 4) Ei)) Ai)))) Ai))) (AN (Ae (NF hr (AB 3) (AB 4))))))))))).mono (by omega)
end
theorem all_mk{l:PySem.W.OpenLaw}{w:World}{K:PySem.W.Frag}{h:Heap}{mg:Str->Option Value}{fa:Addr}(hφ:∀ns:List Int,ns.length<=63->∃Z',RX [.scr ns] []=some (.bl true,Z'))(a:Al w K mg h)(hfa:mg "law" = some (.ref fa)):
  ∃fd:FuncData,(∀(s:Shared) (v:Value),BindsTo s fd ⟨[v],[]⟩ [("_law_script",v)])/\∀base:Heap,K.In base->base.Ns mainGlobals mg->FnOk l.prog w K mg base CX0 19 fa fd ["_law_script"] (M5 K):=by
 obtain⟨fa_law,fd_law,d⟩:=a.e27;have e:=hfa.symm.trans (PySem.W.mg_of a.X a.G d.a);cases e;refine⟨fd_law,λs v=>?_,λbase _ _=>?_⟩
 ·obtain⟨oc,od,kV,doc,pm,an,cdv,ct,osl,rfl,lk,hcd⟩:=d.F.ex;exact .of_eq rfl
 exact VM (φ:=RX) (RP (k:=18) .drop d.F sc_law (λ_ _ _ _ _ _ hr=>have nd:=sc_law.nd;(AI (Ag 1 nd (A9 (O7 a) hr (AD (A9 (Mp a) hr (AD (AB 0) (AD AF AJ))) (AD Ao AJ)))) (AI (Ag 2 nd (A9 (O8 a) hr (AD (AB 1) (AD (Eg (AB 0) (DO AF) (DO (Ad Hd AF (Ad LC AF (CJ R9 a.y2 Mi.F5 (AD (EL X5 (A2 Dg a.y4 Mi.BS (AD (AR AX (AB 1) AF) AJ)) AF) AJ)))))) AJ)))) (AI (Du PassesOwn.never rfl (Iu a.y6 (AD (Ad Bk (A2 Dg a.y4 Mi.BS (AD (AB 2) AJ)) AF) AJ)) (EK 3 nd) (AI (Ag 4 nd (A9 (SN a) hr (AD (AB 1) (AD (Eg (AB 2) EJ (DO (AB 3))) AJ)))) (AN (BJ (AZ (Qn hr) (A9 (SL a) hr (AD (AB 1) (AD (CJ UL a.y5 Mi.FI (AD (Eg (AB 2) EJ (DO (AB 3))) AJ)) AJ))) (A9 (SO a 16) hr (AD (AB 4) (AD (MC a.y5 a.y6 (A2 Dg a.y4 Mi.BS (AD (AB 4) AJ))) (AD (AR AX (AB 1) AF) (AD P8 AJ)))))) (AN (Ae Ei)) Ai)))) (AN (Ae Ei))))))) hφ
end K93
namespace Hs
open PySem PySem.SetTable
end Hs
namespace Hs
open PySem PySem.SetTable Ht
end Hs
set_option maxHeartbeats 4000000
namespace Hs
open PySem PySem.Spec PyProof.Rows Nk
end Hs
set_option maxHeartbeats 4000000
namespace Hs
open PySem PySem.Spec PyProof.Rows Nk PySem.SetTable Ht
end Hs
set_option maxHeartbeats 4000000
namespace Hs
open PySem PySem.Spec PyProof.Rows Nk PySem.SetTable Ht
end Hs
set_option maxHeartbeats 4000000
namespace Hs
open PySem PySem.Spec PyProof.Rows Nk PySem.SetTable Ht
end Hs
set_option maxHeartbeats 4000000
namespace Hs
open PySem PySem.Spec PyProof.Rows Nk PySem.SetTable Ht
end Hs
set_option maxHeartbeats 4000000
namespace Hs
open PySem PySem.Spec PyProof.Rows Nk PySem.SetTable Ht
end Hs
set_option maxHeartbeats 4000000
namespace Hs
open PySem PySem.Spec PyProof.Rows Sem L2 Nk PySem.SetTable Ht
section
variable{α:Type}[DecidableEq α]
end
end Hs
namespace Hs
open PySem PySem.Spec PyProof.Rows Sem L2 Nk Ht
end Hs
set_option maxHeartbeats 4000000
namespace Hs
open PySem PySem.Spec PyProof.Rows PySem.SeqAt Nk Ht
end Hs
set_option maxHeartbeats 4000000
namespace Hs
open PySem PySem.Spec PyProof.Rows Nk PySem.SetTable Ht L2
end Hs
set_option maxHeartbeats 4000000
namespace Hs
open PySem PySem.Spec PyProof.Rows Nk PySem.SetTable Ht L2
end Hs
set_option maxHeartbeats 4000000
namespace Hs
open PySem PySem.Spec PyProof.Rows Nk PySem.SetTable Ht L2
end Hs
namespace Mi
open PySem L2 Ht Nk PySem.SeqAt
end Mi
set_option maxHeartbeats 2000000
namespace Mi
open PySem PySem.Spec PyProof.Rows L2 Ht Nk Hs
end Mi
set_option maxHeartbeats 2000000
namespace Mi
open PySem PySem.Spec PyProof.Rows L2 Ht Nk Hs
end Mi
namespace K12
open PySem L2 Mi
end K12
namespace Mi
open PySem L2
section
variable{B w9:Sl}{Z w5 w6 x6 y9:Mh}{d x y z:D}{ds:List D}{ma mb mc:Sl->M D}{tc tb:Sl->M Bool}{b:Bool}{m1 m2:Sl->M (Fl×Sl)}{g g':D->D->M D}{r:Fl×Sl}
theorem Az(h:B[i]?=some (some d)):AA i B Z=some (d,Z):=by unfold AA;rw[h]
theorem Rc(h1:ma B Z=some (x,w5))(h2:mb B w5=some (y,w6))(h3:g x y w6=some (d,x6)):mOp g ma mb B Z=some (d,x6):=by unfold mOp;rw[AM h1,AM h2,h3]
theorem U1(h1:ma B Z=some (x,w5))(h3:u x w5=some (d,x6)):mUn u ma B Z=some (d,x6):=by unfold mUn;rw[AM h1,h3]
theorem Co(h1:ma B Z=some (x,w5))(h2:as B w5=some (ds,w6)):AC ma as B Z=some (x::ds,w6):=by unfold AC;rw[AM h1,AM h2];rfl
theorem BO(h1:as B Z=some (ds,w5))(h2:f ds w5=some (d,w6)):AG f as B Z=some (d,w6):=by unfold AG;rw[AM h1,h2]
theorem CW(h1:ma B Z=some (x,w5))(h0:ES x w5=some (u,w6))(h2:as B w6=some (ds,x6))(h3:f x ds x6=some (d,y9)):Ak f ma as B Z=some (d,y9):=by unfold Ak;rw[AM h1,AM h0,AM h2,h3]
theorem AV(h:ma B Z=some (.bl b,w5)):AL ma B Z=some (b,w5):=by unfold AL;rw[AM h];rfl
theorem MX(h:tc B Z=some (b,w5)):Gq tc B Z=some (!b,w5):=by unfold Gq;rw[AM h];rfl
theorem Bg(h1:tc B Z=some (true,w5))(h2:tb B w5=some (b,w6)):CO tc tb B Z=some (b,w6):=by unfold CO;rw[AM h1,if_pos rfl,h2]
theorem Cr(h1:tc B Z=some (false,w5)):CO tc tb B Z=some (false,w5):=by unfold CO;rw[AM h1];rfl
theorem Rb(h1:tc B Z=some (true,w5)):mOr tc tb B Z=some (true,w5):=by unfold mOr;rw[AM h1];rfl
theorem KM(h1:tc B Z=some (false,w5))(h2:tb B w5=some (b,w6)):mOr tc tb B Z=some (b,w6):=by unfold mOr;rw[AM h1,if_neg (by decide),h2]
theorem Ex(h1:ma B Z=some (.bl true,w5))(h2:mb B w5=some (d,w6)):Et ma mb B Z=some (d,w6):=by
 unfold Et;rw[AM h1,AM (show asB (.bl true) w5=some (true,w5) from rfl),if_pos rfl,h2]
theorem UD(h:ma B Z=some (.bl b,w5)):LK ma B Z=some (.bl (!b),w5):=by
 unfold LK;rw[AM h,AM (show asB (.bl b) w5=some (b,w5) from rfl)];rfl
theorem GS(h1:ma B Z=some (x,w5))(h2:mb B w5=some (y,w6))(h3:g x y w6=some (.bl true,x6))(h4:mc B x6=some (z,y9))(h5:g' y z y9=some (d,y9)):Es g g' ma mb mc B Z=some (d,y9):=by
 unfold Es;rw[AM h1,AM h2,AM h3,AM (show asB (.bl true) x6=some (true,x6) from rfl),if_pos rfl,AM h4,h5]
theorem Nq(h:ma B Z=some (.int i,w5)):C0 ma B Z=some (some i,w5):=by unfold C0;rw[AM h];rfl
theorem AT(h1:m1 B Z=some ((.next,w9),w5))(h2:m2 w9 w5=some (r,w6)):AU m1 m2 B Z=some (r,w6):=by unfold AU;rw[AM h1];exact h2
theorem DQ(h1:m1 B Z=some ((.rt d,w9),w5)):AU m1 m2 B Z=some ((.rt d,w9),w5):=by unfold AU;rw[AM h1];rfl
theorem CY(h1:ma B Z=some (d,w5)):BD ma B Z=some ((.next,B),w5):=by unfold BD;rw[AM h1];rfl
theorem Dx(h1:ma B Z=some (d,w5)):A5 ma B Z=some ((.rt d,B),w5):=by unfold A5;rw[AM h1];rfl
theorem Bt(h1:tc B Z=some (true,w5))(h2:m1 B w5=some (r,w6)):sIf tc m1 m2 B Z=some (r,w6):=by unfold sIf;rw[AM h1,if_pos rfl,h2]
theorem Bc(h1:tc B Z=some (false,w5))(h2:m2 B w5=some (r,w6)):sIf tc m1 m2 B Z=some (r,w6):=by unfold sIf;rw[AM h1,if_neg (by decide),h2]
theorem Cq(h1:ma B Z=some (d,w5))(h2:bf d B w5=some (w9,w6)):Ab ma bf B Z=some ((.next,w9),w6):=by unfold Ab;rw[AM h1,AM h2];rfl
theorem MW(h1:ma B Z=some (x,w5))(h2:mb B w5=some (y,w6))(h3:Pv x y d w6=some (u,x6)):Lh ma mb d B Z=some (B,x6):=by unfold Lh;rw[AM h1,AM h2,AM h3];rfl
theorem ET(h1:src B Z=some (ds,w5))(h2:Cg bf m1 ds B w5=some (r,w6)):FL src bf m1 B Z=some (r,w6):=by unfold FL;rw[AM h1,h2]
theorem RB(h:i<=j):IW (.int i) (.int j) Z=some (.bl true,Z):=by show some (D.bl (decide (i<=j)),Z)=_;rw[AAO h]
theorem Db(h:0<j):Bi (.int i) (.int j) Z=some (.int (i % j),Z):=by show (if 0<j then some (D.int (i % j),Z) else none)=_;rw[if_pos h]
theorem Cn(h:0<j)(h2:j<1073741824):BW (.int i) (.int j) Z=some (.int (i / j),Z):=by show (if 0<j/\j<1073741824 then some (D.int (i / j),Z) else none)=_;rw[if_pos ⟨h,h2⟩]
theorem Nb(h:(-(2 ^ 64)<i/\i<2 ^ 64)∨(-(2 ^ 64)<j/\j<2 ^ 64)):Ga (.int i) (.int j) Z=some (.int (i * j),Z):=by show (if (-(2 ^ 64)<i/\i<2 ^ 64)∨(-(2 ^ 64)<j/\j<2 ^ 64) then some (D.int (i * j),Z) else none)=_;rw[if_pos h]
theorem JD:D2 [.int i,.ty "int"] Z=some (.bl true,Z):=by
 show (EX "int" "int").map (λb=>(D.bl b,Z))=_;rw[show EX "int" "int" = some true from by decide];rfl
theorem JE:D2 [.int i,.ty "bool"] Z=some (.bl false,Z):=by
 show (EX "int" "bool").map (λb=>(D.bl b,Z))=_;rw[show EX "int" "bool" = some false from by decide];rfl
theorem JC:D2 [.tup ds,.ty "tuple"] Z=some (.bl true,Z):=by
 show (EX "tuple" "tuple").map (λb=>(D.bl b,Z))=_;rw[show EX "tuple" "tuple" = some true from by decide];rfl
theorem G6(h:Z[n]?=some (.lst ds))(h2:atI ds i=some d):AH (.ref n) (.int i) Z=some (d,Z):=by
 show bnd (BT (.ref n)) (λds=>ixD ds i) Z=_;rw[AM (show BT (.ref n) Z=some (ds,Z) from by show (match Z[n]? with|some (.lst ds)=>some (ds,Z)|_=>none)=_;rw[h])];unfold ixD;rw[h2];rfl
theorem LL(h2:atI ds i=some d):AH (.tup ds) (.int i) Z=some (d,Z):=by
 show bnd (BT (.tup ds)) (λds=>ixD ds i) Z=_;rw[AM (show BT (.tup ds) Z=some (ds,Z) from rfl)];unfold ixD;rw[h2];rfl
theorem Ge(h2:atI ds i=some d):AH (.lst ds) (.int i) Z=some (d,Z):=by
 show bnd (BT (.lst ds)) (λds=>ixD ds i) Z=_;rw[AM (show BT (.lst ds) Z=some (ds,Z) from rfl)];unfold ixD;rw[h2];rfl
theorem Q7(h:Z[n]?=some (.lst ds))(h2:ixN ds.length k=some j):Pv (.ref n) (.int k) d Z=some ((),Z.set n (.lst (ds.set j d))):=by
 show (match Z[n]? with|some (.lst ds)=>(ixN ds.length k).map λj=>((),Z.set n (.lst (ds.set j d)))|_=>none)=_;rw[h];show (ixN ds.length k).map _=_;rw[h2];rfl
end
end Mi
local macro_rules | `(tactic| wtm_at "i")=>`(tactic| first|rfl|assumption)
local macro_rules | `(tactic| wtm_at "a")=>`(tactic| first
 |(with_reducible apply Mi.ev_nil)|(with_reducible apply Mi.ev_nilA)|(with_reducible apply Mi.ev_c)|(with_reducible apply Mi.ev_noPart)|(with_reducible apply Mi.ev_retN)
 |((with_reducible apply Mi.Az);first|rfl|assumption)
 |((with_reducible apply Mi.DQ);wtm_at "a")
 |((with_reducible apply Mi.AT);(wtm_at "a");(wtm_at "a"))
 |((with_reducible apply Mi.Cq);(wtm_at "a");(wtm_at "a"))
 |((with_reducible apply Mi.ev_name);rfl)
 |((with_reducible apply Mi.MW);(wtm_at "a");(wtm_at "a");(wtm_at "a"))
 |((with_reducible apply Mi.CY);wtm_at "a")
 |((with_reducible apply Mi.Dx);wtm_at "a")
 |((with_reducible apply Mi.Bt);(wtm_at "a");(wtm_at "a"))
 |((with_reducible apply Mi.Bc);(wtm_at "a");(wtm_at "a"))
 |((with_reducible apply Mi.Rc);(wtm_at "a");(wtm_at "a");(wtm_at "a"))
 |((with_reducible apply Mi.U1);(wtm_at "a");(wtm_at "a"))
 |((with_reducible apply Mi.BO);(wtm_at "a");(wtm_at "a"))
 |((with_reducible apply Mi.Co);(wtm_at "a");(wtm_at "a"))
 |((with_reducible apply Mi.CW);(wtm_at "a");(wtm_at "a");(wtm_at "a");(wtm_at "a"))
 |((with_reducible apply Mi.AV);wtm_at "a")
 |((with_reducible apply Mi.ev_notT);wtm_at "a")
 |((with_reducible apply Mi.ev_notF);wtm_at "a")
 |((with_reducible apply Mi.Bg);(wtm_at "a");(wtm_at "a"))
 |((with_reducible apply Mi.Cr);wtm_at "a")
 |((with_reducible apply Mi.KM);(wtm_at "a");(wtm_at "a"))
 |((with_reducible apply Mi.Rb);wtm_at "a")
 |((with_reducible apply Mi.Ex);(wtm_at "a");(wtm_at "a"))
 |((with_reducible apply Mi.ev_andVF);wtm_at "a")
 |((with_reducible apply Mi.ev_orVF);(wtm_at "a");(wtm_at "a"))
 |((with_reducible apply Mi.ev_orVT);wtm_at "a")
 |((with_reducible apply Mi.ev_notVT);wtm_at "a")
 |((with_reducible apply Mi.ev_notVF);wtm_at "a")
 |((with_reducible apply Mi.GS);(wtm_at "a");(wtm_at "a");(wtm_at "a");(wtm_at "a");(wtm_at "a"))
 |((with_reducible apply Mi.ev_chainF);(wtm_at "a");(wtm_at "a");(wtm_at "a"))
 |((with_reducible apply Mi.Nq);wtm_at "a")
 |((with_reducible apply Mi.ev_sl);(wtm_at "a");(wtm_at "a");(wtm_at "a");(wtm_at "a"))
 |wtm_at "i")
local macro_rules | `(tactic| wtm_at "g")=>`(tactic| first|assumption|decide|omega)
local macro_rules | `(tactic| wtm_at "i")=>`(tactic| first
 |((with_reducible apply Mi.RB);wtm_at "g")|((with_reducible apply Mi.l_leF);wtm_at "g")|((with_reducible apply Mi.l_lt);wtm_at "g")|((with_reducible apply Mi.l_ltF);wtm_at "g")|((with_reducible apply Mi.l_gt);wtm_at "g")|((with_reducible apply Mi.l_gtF);wtm_at "g")
 |(with_reducible apply Mi.JD)|(with_reducible apply Mi.JE)|(with_reducible apply Mi.l_inst_ss)|(with_reducible apply Mi.JC)|(with_reducible apply Mi.l_add)|(with_reducible apply Mi.l_sub)|((with_reducible apply Mi.Db);wtm_at "g")|((with_reducible apply Mi.Cn);(wtm_at "g");(wtm_at "g"))|((with_reducible apply Mi.Nb);first|(left;omega)|(right;omega))
 |((with_reducible apply Mi.LL);rfl)|((with_reducible apply Mi.Ge);rfl)|((with_reducible apply Mi.G6);(first|assumption|rfl);(rfl))|((with_reducible apply Mi.Q7);(first|assumption|rfl);(rfl)))
set_option maxHeartbeats 4000000
namespace K13
open PySem L2 Mi Ht
noncomputable def hdD(n:Str):D:=.tup [.str n,.int 0,.tup []]
theorem BB{α:Type}{f:α->D}{k:Nat}(h:∀a,Cl k (f a)):∀xs:List α,ClL k (xs.map f)
 |[]=>by unfold ClL;trivial
 |x::xs=>by
  rw[AAW];unfold ClL;exact⟨h x,BB h xs⟩
theorem Be(k:Nat)(i:Int):Cl k (.int i):=by unfold Cl;trivial
section
variable{Z w5 w6 x6 y9:Mh}{B w9:Sl}{x0 d:D}{ds es:List D}
theorem Am(h:ds.length<=sizeLine):A1 ds Z=some (.tup ds,Z):=by
 unfold A1;rw[AM (show lim ds.length Z=some ((),Z) from by unfold lim;rw[if_pos h])];rfl
theorem As(h:ds.length<=sizeLine):B9 ds Z=some (.lst ds,Z):=by
 unfold B9;rw[AM (show lim ds.length Z=some ((),Z) from by unfold lim;rw[if_pos h])];rfl
theorem Ra{ma:Sl->M D}{l h:Sl->M (Option Int)}{a b:Option Int}(h1:ma B Z=some (x0,w5))(h2:l B w5=some (a,w6))(h3:h B w6=some (b,x6))(h4:NL a b x0 x6=some (d,y9)):Er ma l h B Z=some (d,y9):=by unfold Er;rw[AM h1,AM h2,AM h3,h4]
theorem FB(h:ds.length+es.length<=sizeLine):Ap (.tup ds) (.tup es) Z=some (.tup (ds++es),Z):=by
 cases ds with
 |nil=>rfl
 |cons a as=>exact Am (by simp at h ⊢;omega)
theorem T5(h:ds.length+es.length<=sizeLine):Ap (.lst ds) (.lst es) Z=some (.lst (ds++es),Z):=As (by simpa using h)
theorem EH{x:Str}(h:PyData.strOk x=true):SeqAt.shaped (.str x)=true:=by
 show (PyData.strOk x&&decide ((PyData.str x).depth<=64))=true;rw[h];rfl
theorem Fv{x y:Str}(h1:PyData.strOk x=true)(h2:PyData.strOk y=true):AW (.str x) (.str y) Z=some (.bl (x==y),Z):=by
 show (if SeqAt.shaped (.str x)=true/\SeqAt.shaped (.str y)=true then some (D.bl (x==y),Z) else none)=_;rw[if_pos ⟨EH h1,EH h2⟩]
theorem BV:sizeLine=16777216:=by decide
section
variable{ma mb:Sl->M D}{x y:D}{g:D->D->M D}{as:Sl->M (List D)}{tc:Sl->M Bool}{b:Bool}{m1 m2:Sl->M (Fl×Sl)}{r:Fl×Sl}
theorem po(h1:ma B Z=some (x,Z))(h2:mb B Z=some (y,Z))(h3:g x y Z=some (d,Z)):mOp g ma mb B Z=some (d,Z):=Rc h1 h2 h3
theorem pn{u:D->M D}(h1:ma B Z=some (x,Z))(h3:u x Z=some (d,Z)):mUn u ma B Z=some (d,Z):=U1 h1 h3
theorem pc(h1:ma B Z=some (x,Z))(h2:as B Z=some (ds,Z)):AC ma as B Z=some (x::ds,Z):=Co h1 h2
theorem pd{f:List D->M D}(h1:as B Z=some (ds,Z))(h2:f ds Z=some (d,Z)):AG f as B Z=some (d,Z):=BO h1 h2
theorem p2{l h:Sl->M (Option Int)}{a b:Option Int}(h1:ma B Z=some (x,Z))(h2:l B Z=some (a,Z))(h3:h B Z=some (b,Z))(h4:NL a b x Z=some (d,Z)):Er ma l h B Z=some (d,Z):=Ra h1 h2 h3 h4
theorem pq(h1:m1 B Z=some ((.next,w9),Z))(h2:m2 w9 Z=some (r,Z)):AU m1 m2 B Z=some (r,Z):=AT h1 h2
theorem pa{bf:D->Sl->M Sl}(h1:ma B Z=some (d,Z))(h2:bf d B Z=some (w9,Z)):Ab ma bf B Z=some ((.next,w9),Z):=Cq h1 h2
theorem piT(h1:tc B Z=some (true,Z))(h2:m1 B Z=some (r,Z)):sIf tc m1 m2 B Z=some (r,Z):=Bt h1 h2
theorem piF(h1:tc B Z=some (false,Z))(h2:m2 B Z=some (r,Z)):sIf tc m1 m2 B Z=some (r,Z):=Bc h1 h2
theorem pr(h1:ma B Z=some (d,Z)):A5 ma B Z=some ((.rt d,B),Z):=Dx h1
theorem peT(h1:tc B Z=some (true,Z))(h2:ma B Z=some (d,Z)):mIf tc ma mb B Z=some (d,Z):=by unfold mIf;rw[AM h1,if_pos rfl,h2]
theorem peF(h1:tc B Z=some (false,Z))(h2:mb B Z=some (d,Z)):mIf tc ma mb B Z=some (d,Z):=by unfold mIf;rw[AM h1,if_neg (by decide),h2]
end
theorem KO{α:D}{j:Nat}(h:j<=ds.length):DJ ds none (some (j:Int))=ds.take j:=by
 unfold DJ;rw[HT.Kx,HT.Gx,Nat.min_eq_left h];simp
theorem Rv{j:Nat}(h:j<=ds.length):DJ ds (some (j:Int)) none=ds.drop j:=by
 unfold DJ;rw[HT.Kx,HT.Gx,Nat.min_eq_left h];exact List.take_of_length_le (by simp)
theorem GC{j:Nat}{x:D}(hj:j<ds.length)(hl:ds.length<=1000)(hc:∀k,ClL k ds)(hx:∀k,Cl k x):Aa [.tup ds,.int j,x] Z=some (.tup (ds.set j x),Z):=by
 have hz:=BV;have hcs:∀(k j:Nat) (ds:List D),ClL k ds->ClL k (ds.set j x):=by
  intro k j ds
  induction ds generalizing j with
  |nil=>intro h;exact h
  |cons a as ih=>
   intro h;unfold ClL at h;cases j with
   |zero=>show ClL k (x::as);unfold ClL;exact⟨hx k,h.2⟩
   |succ j=>show ClL k (a::as.set j x);unfold ClL;exact⟨h.1,ih j h.2⟩
 refine An (g:=[]) (x5:=Bh 3 [.tup ds,.int j,x]) ?_ rfl (by unfold Cl;exact hcs _ _ _ (hc _));rw[AAa];refine pr (po (x:=.tup (ds.take j++[x])) (y:=.tup (ds.drop (j+1))) (po (x:=.tup (ds.take j)) (y:=.tup [x]) (p2 (x:=.tup ds) (a:=none) (b:=some (j:Int)) rfl rfl rfl ?_) rfl (FB (by simp;omega))) (p2 (x:=.tup ds) (a:=some ((j:Int)+1)) (b:=none) rfl rfl rfl ?_) ?_)
 ·show some (D.tup (DJ ds none (some (j:Int))),Z)=_;rw[KO (α:=x) (by omega)]
 ·show some (D.tup (DJ ds (some ((j:Int)+1)) none),Z)=_;rw[show ((j:Int)+1)=((j+1:Nat):Int) by omega,Rv (by omega)]
 ·rw[FB (by simp;omega),AAm];rw[List.set_eq_take_append_cons_drop,if_pos hj];rfl
end
end K13
set_option maxHeartbeats 4000000
namespace K13
open PySem L2 Mi Ht
section
variable{Z Z':Mh}{B:Sl}{d:D}{ds es:List D}
theorem CI{α:Type}{me:Sl->M D}{mc:Sl->M Bool}{z9:Sl}{f F:α->D}{p:α->Bool}:∀{xs:List α} {ys:List D},(∀a∈xs,mc (z9.set 0 (some (f a))) Z=some (p a,Z))->(∀a∈xs,p a=true->me (z9.set 0 (some (f a))) Z=some (F a,Z))->EU (AO 0) mc me z9 (xs.map f) ys Z=some (ys++(xs.filter p).map F,Z)
 |[],ys,_,_=>by show some (ys,Z)=_;simp
 |z::xs,ys,hc,h=>by
  show bnd (AO 0 (f z) z9) _ Z=_;rw[AM (show AO 0 (f z) z9 Z=some (z9.set 0 (some (f z)),Z) from rfl),AM (hc z (by simp))];cases q:p z with
  |true=>
   rw[if_pos rfl,AM (h z (by simp) q),CI (λw hw=>hc w (by simp[hw])) (λw hw=>h w (by simp[hw]))];simp[q]
  |false=>
   rw[if_neg (by decide),CI (λw hw=>hc w (by simp[hw])) (λw hw=>h w (by simp[hw]))];simp[q]
theorem Bu{N:Nat}{ix:List Nat}{src:Sl->M (List D)}{bf:D->Sl->M Sl}{mc:Sl->M Bool}{me:Sl->M D}{fin:List D->M D}(h1:src B Z=some (ds,Z))(hl:ds.length<=sizeLine)(h2:EU bf mc me (EF N ix B) ds [] Z=some (es,Z))(h3:fin es Z=some (d,Z')):B2 N ix src bf mc me fin B Z=some (d,Z'):=by
 unfold B2;rw[AM h1,AM (show lim ds.length Z=some ((),Z) from by unfold lim;rw[if_pos hl]),AM h2,h3]
theorem DL{α:Type}(xs:List α):xs.filter (λ_=>true)=xs:=by simp
theorem EG{ma:Sl->M D}(h:ma B Z=some (.tup ds,Z)):Cy ma B Z=some (ds,Z):=by unfold Cy;rw[AM h];rfl
theorem Bf{ma:Sl->M D}(h:ma B Z=some (.lst ds,Z)):Cy ma B Z=some (ds,Z):=by unfold Cy;rw[AM h];rfl
theorem IA{α:Type}(a:α):∀k:Nat,(List.replicate k [a]).flatten=List.replicate k a
 |0=>rfl
 |k+1=>by rw[AAl,List.flatten_cons,IA a k];rfl
theorem Bv{ds:List D}{r:Nat}{x:D}(h:ds[r]?=some x):atI ds (r:Int)=some x:=by
 have hr:r<ds.length:=(AAT.mp h).1;unfold atI ixN;rw[if_pos (by omega),if_pos (by omega)];simpa using h
end
end K13
set_option maxHeartbeats 4000000
namespace K13
open PySem L2 Mi Ht
inductive Ev where
 |wb (v:Int)|we|rb (r:Nat)|re (r:Nat) (v:Int)
deriving DecidableEq
noncomputable def Ev.beg:Ev->Bool
 | .wb _=>true
 | .we=>false
 | .rb _=>true
 | .re _ _=>false
noncomputable def Ev.hand:Ev->Nat
 | .wb _=>0
 | .we=>0
 | .rb r=>r+1
 | .re r _=>r+1
noncomputable def Ev.val:Ev->Option Int
 | .wb v=>some v
 | .re _ v=>some v
 |_=>none
abbrev nm(ns:List Str)(h:Nat):Str:=ns.getD h "w"
noncomputable def bS:Bool->Str
 |true => "begin"
 |false => "end"
noncomputable def evD(ns:List Str)(e:Ev):D:=.tup (D.str (bS e.beg)::.str (nm ns e.hand)::(match e.val with|some v=>[.int v]|none=>[]))
noncomputable def Cz(e:Ev)(g:Int):D:=.tup [.str (bS e.beg),.int e.hand,.int (e.val.getD (-1)),.int g]
structure Ns(ns:List Str):Prop where
 ok:∀n∈ns,PyData.strOk n=true
 nd:ns.Nodup
 lo:2<=ns.length
 hi:ns.length<=4
structure Ev.Ok(ns:List Str)(sz:Int)(e:Ev):Prop where
 h:e.hand<ns.length
 v:∀v,e.val=some v->0<=v/\v<sz
theorem Ns.nok(N:Ns ns)(hh:h<ns.length):PyData.strOk (nm ns h)=true:=N.ok _ (by simp[nm,hh])
theorem Ns.mem(hh:h<ns.length):nm ns h∈ns:=by simp[nm,hh]
theorem Ns.inj(N:Ns ns)(hh:h<ns.length)(hk:k<ns.length)(e:nm ns h=nm ns k):h=k:=by
 have e':ns[h]=ns[k]:=by simpa[nm,hh,hk] using e
 exact(List.getElem_inj N.nd).mp e'
section
variable{Z w5 w6 x6:Mh}{ds:List D}
variable{sz:Int}{ns:List Str}
theorem U5:∀b,PyData.strOk (bS b)=true:=by decide +kernel
theorem Ww:∀b,(bS b==("begin" : Str))=b:=by decide +kernel
theorem Wv:∀b,(bS b==("end" : Str))=!b:=by decide +kernel
theorem Hk:AW (.str (bS b)) (.str "begin") Z=some (.bl b,Z):=by rw[Fv (U5 b) (by decide +kernel),Ww]
theorem Uv:AW (.str (bS b)) (.str "end") Z=some (.bl (!b),Z):=by rw[Fv (U5 b) (by decide +kernel),Wv]
theorem Uu:AW (.bl a) (.bl b) Z=some (.bl (a==b),Z):=by cases a<;>cases b<;>rfl
theorem DF:AW (.int i) (.int j) Z=some (.bl (i==j),Z):=rfl
theorem Q9(N:Ns ns)(hh:h<ns.length)(hk:k<ns.length):AW (.str (nm ns h)) (.str (nm ns k)) Z=some (.bl (h==k),Z):=by
 rw[Fv (N.nok hh) (N.nok hk)];by_cases e:h=k
 ·subst e;simp
 ·rw[AAf.mpr e,AAf.mpr λz=>e (N.inj hh hk z)]
theorem FE:∀xs:List Str,Dc (xs.map D.str)=some (xs.map V.str)
 |[]=>rfl
 |x::r=>by show (Fy (.str x)).bind _=_;rw[FE r];rfl
theorem LP:∀xs:List Str,inV (.str x) (xs.map V.str)=decide (x∈xs)
 |[]=>rfl
 |y::r=>by
  have h:=LP (x:=x) r;unfold inV at h ⊢;rw[AAW,List.any_cons,h];show ((y==x)||decide (x∈r))=_;by_cases e:x=y
  ·subst e;simp
  ·have:(y==x)=false:=AAf.mpr λz=>e z.symm;rw[this,Bool.false_or];simp[e]
theorem RC{neg:Bool}{c:D}{xs:List Str}(h:BT c Z=some (xs.map D.str,Z)):Hv neg (.str x) c Z=some (.bl (if neg then !decide (x∈xs) else decide (x∈xs)),Z):=by
 unfold Hv;rw[AM h];simp only[FE];show some (D.bl (if neg then !inV (.str x) (xs.map V.str) else inV (.str x) (xs.map V.str)),Z)=_;rw[LP]
theorem Sr(h0:lo<=v)(h1:v<=hi):BR [.int v,.int lo,.int hi] Z=some (.bl true,Z):=by
 refine An (g:=[]) (x5:=[some (.int v),some (.int lo),some (.int hi)]) ?_ rfl (by unfold Cl;trivial);rw[AAa];exact pr (Ex (w5:=Z) (pd (ds:=[.int v,.ty "int"]) rfl JD) (Ex (w5:=Z) (UD (b:=false) (pd (ds:=[.int v,.ty "bool"]) rfl JE)) (GS (w5:=Z) (w6:=Z) (x6:=Z) (x:=.int lo) (y:=.int v) (z:=.int hi) rfl rfl (RB h0) rfl (RB h1))))
theorem Ss{lo hi:Int}(h0:lo<=ds.length)(h1:ds.length<=hi):BL [.tup ds,.int lo,.int hi] Z=some (.bl true,Z):=by
 refine An (g:=[]) (x5:=[some (.tup ds),some (.int lo),some (.int hi)]) ?_ rfl (by unfold Cl;trivial);rw[AAa];exact pr (Ex (w5:=Z) (pd (ds:=[.tup ds,.ty "tuple"]) rfl JC) (GS (w5:=Z) (w6:=Z) (x6:=Z) (x:=.int lo) (y:=.int ds.length) (z:=.int hi) rfl (pd (ds:=[.tup ds]) rfl rfl) (RB h0) rfl (RB h1)))
noncomputable def evL(ns:List Str)(e:Ev):List D:=D.str (bS e.beg)::.str (nm ns e.hand)::(match e.val with|some v=>[.int v]|none=>[])
theorem Wj:evD ns e=.tup (evL ns e):=rfl
theorem Nt:(evL ns e).length=if e.val.isSome then 3 else 2:=by cases e<;>rfl
theorem Sv(N:Ns ns){e:Ev}(h:e.Ok ns sz):BE [evD ns e,.lst (ns.map D.str),.int sz] Z=some (.bl true,Z):=by
 have hz:=BV;have hlo:=N.lo;refine An (g:=[]) (x5:=[some (evD ns e),some (.lst (ns.map D.str)),some (.int sz)]) ?_ rfl (by unfold Cl;trivial);rw[AAa];have len:=Nt (ns:=ns) (e:=e);have i0:mOp AH (AA 0) (mC (.int 0)) [some (evD ns e),some (.lst (ns.map D.str)),some (.int sz)] Z=some (.str (bS e.beg),Z):=by cases e<;>rfl
 have i1:mOp AH (AA 0) (mC (.int 1)) [some (evD ns e),some (.lst (ns.map D.str)),some (.int sz)] Z=some (.str (nm ns e.hand),Z):=by cases e<;>rfl
 have t1:Gq (AL (AG BL (AC (AA 0) (AC (mC (.int 2)) (AC (mC (.int 3)) AK))))) [some (evD ns e),some (.lst (ns.map D.str)),some (.int sz)] Z=some (false,Z):=
  MX (b:=true) (AV (pd (ds:=[evD ns e,.int 2,.int 3]) rfl (by rw[Wj];exact Ss (by rw[len];split<;>decide) (by rw[len];split<;>decide))))
 have t2:AL (mOp (EN true) (mOp AH (AA 0) (mC (.int 0))) (AG A1 (AC (mC (.str "begin")) (AC (mC (.str "end")) AK)))) [some (evD ns e),some (.lst (ns.map D.str)),some (.int sz)] Z=some (false,Z):=by
  refine AV (po (x:=.str (bS e.beg)) (y:=.tup [.str "begin",.str "end"]) i0 (pd (ds:=[.str "begin",.str "end"]) rfl (Am (by simp;omega))) ?_);show Hv true (.str (bS e.beg)) (.tup ((["begin", "end"]:List Str).map D.str)) Z=_;rw[RC rfl];cases e.beg<;>rfl
 have t3:AL (mOp (EN true) (mOp AH (AA 0) (mC (.int 1))) (AA 1)) [some (evD ns e),some (.lst (ns.map D.str)),some (.int sz)] Z=some (false,Z):=by
  refine AV (po (x:=.str (nm ns e.hand)) (y:=.lst (ns.map D.str)) i1 rfl ?_);show Hv true (.str (nm ns e.hand)) (.lst (ns.map D.str)) Z=_;rw[RC rfl,AAO (Ns.mem h.h)];rfl
 have t4:AL (mOp AW (mOp AW (mOp AH (AA 0) (mC (.int 0))) (mC (.str "begin"))) (mOp AW (mOp AH (AA 0) (mC (.int 1))) (mOp AH (AA 1) (mC (.int 0))))) [some (evD ns e),some (.lst (ns.map D.str)),some (.int sz)] Z=some (e.val.isSome,Z):=by
  refine AV ?_;have n0:(ns.map D.str)[0]?=some (D.str (nm ns 0)):=by
   rw[AAV,AAt (by omega)];simp[nm,show 0<ns.length by omega]
  refine po (x:=.bl e.beg) (y:=.bl (e.hand==0)) (po (x:=.str (bS e.beg)) (y:=.str "begin") i0 rfl Hk) (po (x:=.str (nm ns e.hand)) (y:=.str (nm ns 0)) i1 (po (x:=.lst (ns.map D.str)) (y:=.int 0) rfl rfl (Ge (Bv (r:=0) n0))) (Q9 N h.h (by omega))) ?_;rw[Uu];cases e<;>rfl
 refine pq (piF (KM t1 (KM t2 t3)) rfl) ?_;cases hv:e.val with
 |none=>
  rw[hv] at t4 len;refine pq (piF t4 rfl) (pr (po (x:=.int 2) (y:=.int 2) (pd (ds:=[.tup (evL ns e)]) rfl ?_) rfl rfl));show some (D.int (((evL ns e).length:Nat):Int),Z)=_;rw[len];rfl
 |some v=>
  rw[hv] at t4 len;obtain⟨v0,v1⟩:=h.v v hv;have i2:mOp AH (AA 0) (mC (.int 2)) [some (evD ns e),some (.lst (ns.map D.str)),some (.int sz)] Z=some (.int v,Z):=by cases e<;>cases hv<;>rfl
  refine DQ (piT t4 (pr (Ex (w5:=Z) (po (x:=.int 3) (y:=.int 3) (pd (ds:=[.tup (evL ns e)]) rfl ?_) rfl rfl) (pd (ds:=[.int v,.int 0,.int (sz-1)]) (pc i2 rfl) (Sr v0 (by omega))))));show some (D.int (((evL ns e).length:Nat):Int),Z)=_;rw[len];rfl
end
end K13
set_option maxHeartbeats 4000000
namespace K13
open PySem L2 Mi Ht
noncomputable def wfG:(Nat->Bool)->List Ev->Prop
 |_,[]=>True
 |G,e::es=>G e.hand=!e.beg/\wfG (λh=>if h=e.hand then e.beg else G h) es
def DG(L:List (Key×D))(G:Nat->Bool):Prop:=∀h:Nat,(Ch L (.inl (h:Int))=none/\G h=false)∨∃g:Int,Ch L (.inl (h:Int))=some (.int g)/\G h=true
theorem Dk(L:List (Key×D))(k k':Key)(d:D):Ch (Cw L k d) k'=if k'=k then some d else Ch L k':=by
 unfold Cw;split
 ·rename_i h
  induction L with
  |nil=>simp at h
  |cons a L ih=>
   unfold Ch at ih ⊢;rw[AAW,List.find?_cons,List.find?_cons];by_cases ha:a.1=k
   ·rw[if_pos ha];by_cases hk:k'=k
    ·subst hk;simp[ha]
    ·have:¬a.1=k':=λz=>hk (z.symm.trans ha);simp only[this,decide_false,hk,if_false];by_cases hany:(L.any λkv=>decide (kv.1=k))=true
     ·have:=ih hany;simpa[hk] using this
     ·have hm:L.map (λkv=>if kv.1=k then (kv.1,d) else kv)=L:=by
       conv=>rhs;rw[←List.map_id L]
       refine List.map_congr_left λb hb=>?_;rw[if_neg λz=>hany (List.any_eq_true.mpr ⟨b,hb,by simpa using z⟩)];rfl
      rw[hm]
   ·rw[if_neg ha];have hany:(L.any λkv=>decide (kv.1=k))=true:=by simpa[ha] using h
    have:=ih hany;by_cases hk:a.1=k'
    ·have hne:¬k'=k:=λz=>ha (hk.trans z);simp[hk,hne]
    ·simp only[hk,decide_false];exact this
 ·rename_i h;unfold Ch;rw[List.find?_append];by_cases hk:k'=k
  ·subst hk;have:L.find? (λkv=>decide (kv.1=k'))=none:=by
    rw[List.find?_eq_none];intro b hb z;exact h (List.any_eq_true.mpr ⟨b,hb,z⟩)
   rw[this];simp
  ·rw[if_neg hk];have:¬k=k':=λz=>hk z.symm;cases L.find? (λkv=>decide (kv.1=k'))<;>simp[this]
theorem PY(L:List (Key×D))(k k':Key):Ch (D5 L k) k'=if k'=k then none else Ch L k':=by
 unfold D5 Ch
 induction L with
 |nil=>simp
 |cons a L ih=>
  by_cases ha:a.1=k
  ·rw[List.filter_cons_of_neg (by simp[ha]),ih];by_cases hk:k'=k
   ·simp[hk]
   ·have:¬a.1=k':=λz=>hk (z.symm.trans ha);simp[hk,List.find?_cons,this]
  ·rw[List.filter_cons_of_pos (by simp[ha]),List.find?_cons,List.find?_cons];by_cases hk:a.1=k'
   ·have:¬k'=k:=λz=>ha (hk.trans z);simp[hk,this]
   ·simp only[hk,decide_false];exact ih
theorem Gz(L:List (Key×D))(k:Key)(d:D):(Cw L k d).length<=L.length+1:=by unfold Cw;split<;>simp
theorem Rj(L:List (Key×D))(k:Key):(D5 L k).length<=L.length:=List.length_filter_le _ _
theorem DG.put(h:DG L G)(k:Nat)(g:Int):DG (Cw L (.inl (k:Int)) (.int g)) (λh=>if h=k then true else G h):=λj=>by
 rw[Dk];by_cases e:j=k
 ·subst e;exact .inr ⟨g,by simp,by simp⟩
 ·have:¬(Sum.inl (j:Int):Key)=.inl (k:Int):=λz=>e (by have:=Sum.inl.inj z;omega);simp only[this,if_false,e];exact h j
theorem DG.drop(h:DG L G)(k:Nat):DG (D5 L (.inl (k:Int))) (λh=>if h=k then false else G h):=λj=>by
 rw[PY];by_cases e:j=k
 ·subst e;exact .inl ⟨by simp,by simp⟩
 ·have:¬(Sum.inl (j:Int):Key)=.inl (k:Int):=λz=>e (by have:=Sum.inl.inj z;omega);simp only[this,if_false,e];exact h j
section
variable{Z w5 w6 x6:Mh}{B w9:Sl}{d:D}{ds:List D}{n:Nat}
variable{sz:Int}{ns:List Str}
theorem g2a:(Z++[a,b])[Z.length]?=some a:=by rw[AAR (AAE _)];simp
theorem g2b:(Z++[a,b])[Z.length+1]?=some b:=by rw[AAR (by omega)];simp
theorem s2a:(Z++[a,b]).set Z.length c=Z++[c,b]:=by rw[AAg _ _ (AAE _)];simp
theorem s2b:(Z++[a,b]).set (Z.length+1) c=Z++[a,c]:=by rw[AAg _ _ (by omega)];simp
theorem Dt(h:Z[n]?=some (.dK L)):EV (.ref n) Z=some ((n,L),Z):=by unfold EV;dsimp only;rw[h]
theorem WQ(h:Z[n]?=some (.dK L)):LY false (.int k) (.ref n) Z=some (.bl (Ch L (.inl k)).isSome,Z):=by
 unfold LY;rw[AM (Dt h)];rfl
theorem Nc(h:Z[n]?=some (.dK L))(hv:Ch L (.inl k)=some d):D7 (.ref n) (.int k) Z=some (d,Z):=by
 unfold D7;rw[AM (Dt h)];show (Ch L (.inl k)).map (λv=>(v,Z))=_;rw[hv];rfl
theorem Rf(h1:mv B Z=some (v,Z))(h2:mo B Z=some (.ref n,Z))(h3:mi B Z=some (.int k,Z))(h:Z[n]?=some (.dK L))(hl:L.length<sizeLine):FQ mo mi mv B Z=some ((.next,B),Z.set n (.dK (Cw L (.inl k) v))):=by
 unfold FQ;rw[AM h1,AM h2,AM h3,AM (Dt h)];show (if L.length<sizeLine then some ((Fl.next,B),Z.set n (.dK (Cw L (.inl k) v))) else none)=_;rw[if_pos hl]
theorem UE(h2:mo B Z=some (.ref n,Z))(h3:mi B Z=some (.int k,Z))(h:Z[n]?=some (.dK L))(hv:Ch L (.inl k)=some d):Iz mo mi B Z=some (d,Z.set n (.dK (D5 L (.inl k)))):=by
 unfold Iz;rw[AM h2,AM (show KJ (.ref n) Z=some ((),Z) from by unfold KJ;rw[AM (Dt h)];rfl),AM h3];unfold U2;rw[AM (Dt h)];show (Ch L (.inl k)).map (λv=>(v,Z.set n (MO.dK (D5 L (.inl k)))))=_;rw[hv];rfl
theorem BC(h:Z[n]?=some (.lst ds)):ES (.ref n) Z=some ((),Z):=by
 unfold ES;rw[AM (show CP (.ref n) Z=some (ds,Z) from by unfold CP;dsimp only;rw[h])];rfl
theorem CC(h:Z[n]?=some (.lst ds))(hl:ds.length<sizeLine):CT (.ref n) [d] Z=some (.non,Z.set n (.lst (ds++[d]))):=by
 show HH n _ Z=_;unfold HH;rw[h];show Option.map _ (if ds.length<sizeLine then some (D.non,ds++[d]) else none)=_;rw[if_pos hl];rfl
theorem No:∀{ns:List Str} {h:Nat},ns.Nodup->h<ns.length->(ns.map V.str).findIdx? (λz=>eqV z (V.str (nm ns h)))=some h
 |[],h,_,hh=>absurd hh (by simp)
 |n::ns,0,_,_=>by
  rw[AAW,List.findIdx?_cons];show (if (n==n)=true then some 0 else _)=_;simp
 |n::ns,h+1,nd,hh=>by
  obtain⟨h1,h2⟩:=List.nodup_cons.mp nd;have hh':h<ns.length:=by simpa using hh
  have e:nm (n::ns) (h+1)=nm ns h:=by simp[nm]
  rw[AAW,List.findIdx?_cons,e];have:eqV (V.str n) (V.str (nm ns h))=false:=by
   show (n==nm ns h)=false;exact AAf.mpr λz=>h1 (z ▸ Ns.mem hh')
  rw[this,No h2 hh'];rfl
theorem YE(N:Ns ns)(hh:h<ns.length):Hw (.lst (ns.map D.str)) [.str (nm ns h)] Z=some (.int h,Z):=by
 unfold Hw;rw[AM (show ES (.lst (ns.map D.str)) Z=some ((),Z) from rfl)];show bnd (BT (.lst (ns.map D.str))) (λds=>λZ=>match Fy (.str (nm ns h)),Dc ds with
  |some y,some xs=>(xs.findIdx? λz=>eqV z y).map λ(j:Nat)=>(D.int (j:Int),Z)
  |_,_=>none) Z=_
 rw[AM (show BT (.lst (ns.map D.str)) Z=some (ns.map D.str,Z) from rfl)];simp only[FE];show Option.map _ ((ns.map V.str).findIdx? λz=>eqV z (V.str (nm ns h)))=_;rw[No N.nd hh];rfl
noncomputable abbrev ZT:Sl->M (Fl×Sl):=(AU (sIf (Gq (AL (AG BE (AC (AA 7) (AC (AA 2) (AC (mOp AH (AA 0) (mC (.int 1))) AK)))))) DW Au)
  (AU (Ab (Ak Hw (AA 2) (AC (mOp AH (AA 7) (mC (.int 1))) AK)) (AO 8))
  (AU (sIf (AL (mOp AW (mOp AW (mOp AH (AA 7) (mC (.int 0))) (mC (.str "begin"))) (mOp (LY false) (AA 8) (AA 3)))) DW Au)
  (AU (sIf (AL (mOp AW (mOp AH (AA 7) (mC (.int 0))) (mC (.str "begin")))) (AU (FQ (AA 3) (AA 8) (AA 5))
  (Ab (mOp Ju (AA 5) (mC (.int 1))) (AO 5))) Au)
  (AU (BD (Ak CT (AA 4) (AC (AG A1 (AC (mOp AH (AA 7) (mC (.int 0))) (AC (AA 8) (AC (mIf (AL (mOp AW (AG BX (AC (AA 7) AK)) (mC (.int 3)))) (mOp AH (AA 7) (mC (.int 2))) (mC BG)) (AC (mOp D7 (AA 3) (AA 8)) AK))))) AK)))
  (sIf (AL (mOp AW (mOp AH (AA 7) (mC (.int 0))) (mC (.str "end")))) (BD (Iz (AA 3) (AA 8))) Au))))))
theorem Ah(h1:bf x B Z=some (w9,w5))(h2:m1 w9 w5=some ((.next,x5),w6))(h3:Cg bf m1 ds x5 w6=some (r,x6)):Cg bf m1 (x::ds) B Z=some (r,x6):=by
 show bnd (bf x B) _ Z=_;rw[AM h1,AM h2];exact h3
theorem SI{e:Ev}{S:Sl}{M:Mh}{o:D}{g:Int}(he:e.Ok ns sz)(h7:S[7]?=some (some (evD ns e)))(h8:S[8]?=some (some (.int e.hand)))(h3:S[3]?=some (some o))(hg:D7 o (.int e.hand) M=some (.int g,M)):
  AG A1 (AC (mOp AH (AA 7) (mC (.int 0))) (AC (AA 8) (AC (mIf (AL (mOp AW (AG BX (AC (AA 7) AK)) (mC (.int 3)))) (mOp AH (AA 7) (mC (.int 2))) (mC BG)) (AC (mOp D7 (AA 3) (AA 8)) AK)))) S M=some (Cz e g,M):=by
 have hz:=BV;have s7:=Az (Z:=M) h7;have len:=Nt (ns:=ns) (e:=e);have tl:AL (mOp AW (AG BX (AC (AA 7) AK)) (mC (.int 3))) S M=some (e.val.isSome,M):=by
  refine AV (po (x:=.int ((evL ns e).length:Nat)) (y:=.int 3) (pd (ds:=[.tup (evL ns e)]) (pc s7 rfl) rfl) rfl ?_);rw[DF,len];cases e<;>rfl
 have iv:mIf (AL (mOp AW (AG BX (AC (AA 7) AK)) (mC (.int 3)))) (mOp AH (AA 7) (mC (.int 2))) (mC BG) S M=some (.int (e.val.getD (-1)),M):=by
  cases hv:e.val with
  |none=>rw[hv] at tl;exact peF tl rfl
  |some v=>
   rw[hv] at tl;refine peT tl (po (x:=evD ns e) (y:=.int 2) s7 rfl ?_);cases e<;>cases hv<;>rfl
 exact pd (ds:=[.str (bS e.beg),.int e.hand,.int (e.val.getD (-1)),.int g]) (pc (po (x:=evD ns e) (y:=.int 0) s7 rfl (by cases e<;>rfl)) (pc (Az h8) (pc iv (pc (po (x:=o) (y:=.int e.hand) (Az h3) (Az h8) hg) rfl)))) (Am (by simp;omega))
end
end K13
set_option maxHeartbeats 4000000
namespace K13
open PySem L2 Mi Ht
section
variable{Z w5 w6:Mh}{B w9:Sl}{d:D}{ds:List D}
theorem Wq{k:Nat}(p:Ev×Int):Cl k (Cz p.1 p.2):=by simp[Cz,Cl,ClL]
theorem GR{bf:D->Sl->M Sl}{m1:Sl->M (Fl×Sl)}{x:D}{x5:Sl}(h1:bf x B Z=some (w9,w5))(h2:m1 w9 w5=some ((.rt d,x5),w6)):Cg bf m1 (x::ds) B Z=some ((.rt d,x5),w6):=by
 show bnd (bf x B) _ Z=_;rw[AM h1,AM h2];rfl
theorem Fe:∀{es:List Ev} {gs:List Int},gs.length=es.length->(es.zip gs).map (·.1)=es
 |[],[],_=>rfl
 |e::es,g::gs,h=>by rw[List.zip_cons_cons,AAW,Fe (by simpa using h)]
 |[],_::_,h=>by simp at h
 |_::_,[],h=>by simp at h
end
end K13
set_option maxHeartbeats 4000000
namespace K13
open PySem L2 Mi Ht
section
variable{Z:Mh}{c:D}
variable{ns:List Str}
theorem Qt(N:Ns ns){h k:Nat}(hh:h<ns.length)(hk:k<ns.length):(nm ns h==nm ns k)=(h==k):=by
 by_cases e:h=k
 ·subst e;simp
 ·rw[AAf.mpr e,AAf.mpr λz=>e (N.inj hh hk z)]
theorem XZ(k:Nat):L9 0 (k:Int)=(List.range k).map λj:Nat=>D.int j:=by
 unfold L9;simp
theorem g1{b:MO}:(Z++[b])[Z.length]?=some b:=by rw[AAR (AAE _)];simp
theorem s1{b c:MO}:(Z++[b]).set Z.length c=Z++[c]:=by rw[AAg _ _ (AAE _)];simp
end
end K13
set_option maxHeartbeats 4000000
namespace K13
open PySem L2 Mi Ht
end K13
set_option maxHeartbeats 4000000
namespace K13
open PySem L2 Mi Ht
noncomputable def gS(G:Nat->Bool)(e:Ev):Nat->Bool:=λh=>if h=e.hand then e.beg else G h
noncomputable def gA(G:Nat->Bool)(es:List Ev):Nat->Bool:=es.foldl gS G
theorem wf_app:∀{G:Nat->Bool} {es fs:List Ev},wfG G (es++fs)↔wfG G es/\wfG (gA G es) fs
 |G,[],fs=>by simp[wfG,gA]
 |G,e::es,fs=>by
  show (G e.hand=!e.beg/\wfG (gS G e) (es++fs))↔((G e.hand=!e.beg/\wfG (gS G e) es)/\wfG (gA (gS G e) es) fs);rw[wf_app,and_assoc]
theorem Nl{G:Nat->Bool}{es:List Ev}{e:Ev}:gA G (es++[e])=gS (gA G es) e:=by unfold gA;rw[List.foldl_append];rfl
noncomputable abbrev G0:Nat->Bool:=λ_=>false
end K13
set_option maxHeartbeats 4000000
namespace K13
open PySem L2 Mi Ht
end K13
set_option maxHeartbeats 4000000
namespace K13
open PySem L2 Mi Ht
section
variable{Z w5 w6 x6:Mh}{B w9:Sl}{x0 d:D}{ds:List D}{n:Nat}
theorem Us:Iw (.int 10) (.int 9) Z=some (.int 1000000000,Z):=by
 show (if (0:Int)<=9/\(9:Int)<=1000000/\(10:Int).natAbs<2 ^ 64 then some (D.int ((10:Int) ^ (9:Int).toNat),Z) else none)=_;rw[if_pos (by decide)];rfl
theorem MM(h:Z[n]?=some (.lst ds)):BX [.ref n] Z=some (.int ds.length,Z):=by
 unfold BX;simp only[h]
theorem RZ(h1:mc B Z=some (true,Z))(h2:mb B Z=some ((.next,x5),w6))(h3:Go mc mb k x5 w6=some (r,x6)):Go mc mb (k+1) B Z=some (r,x6):=by
 unfold Go;rw[AM h1,if_pos rfl,AM h2];exact h3
theorem ID(h1:mc B Z=some (false,Z)):Go mc mb (k+1) B Z=some ((.next,B),Z):=by
 unfold Go;rw[AM h1];rfl
noncomputable abbrev XV:Sl->M Bool:=(CO (AL (mOp AW (mOp Bi (AA 0) (mC (.int 2))) (mC (.int 0)))) (CO (AL (mOp OP (AA 3) (mC (.int 0)))) (AL (mOp Jt (AG BX (AC (AA 2) AK)) (AA 1)))))
noncomputable abbrev XW:Sl->M (Fl×Sl):=(AU (BD (Ak CT (AA 2) (AC (mOp Bi (AA 3) (mOp Iw (mC (.int 10)) (mC (.int 9)))) AK)))
  (Ab (mOp BW (AA 3) (mOp Iw (mC (.int 10)) (mC (.int 9)))) (AO 3)))
theorem SH(h:S[k]?=some (some (.ref Z.length)))(hl:ds.length<=1000)(he:me S (Z++[.lst ds])=some (x,Z++[.lst ds])):BD (Ak CT (AA k) (AC me AK)) S (Z++[.lst ds])=some ((.next,S),Z++[.lst (ds++[x])]):=by
 have hz:=BV;refine CY (d:=.non) (CW (x:=.ref Z.length) (ds:=[x]) (w5:=Z++[.lst ds]) (w6:=Z++[.lst ds]) (x6:=Z++[.lst ds]) (Az h) (BC g1) (pc he rfl) ?_);rw[CC g1 (by omega),s1]
theorem OH:∃(m:Int) (fs:List Int),fs.length<=1/\(∀x∈fs,0<=x)/\Jp Fa XV XW [some (.int c),some (.int 1),some (.ref Z.length),some (.int (c / 2)),none] (Z++[.lst []])=some ((.next,[some (.int c),some (.int 1),some (.ref Z.length),some (.int m),none]),Z++[.lst (fs.map D.int)]):=by
 have hf:Fa=1048574+1+1:=rfl;have ta:∀(m:Int) (M:Mh),AL (mOp AW (mOp Bi (AA 0) (mC (.int 2))) (mC (.int 0))) [some (.int c),some (.int 1),some (.ref Z.length),some (.int m),none] M=some (c % 2==0,M):=λm M=>AV (po (x:=.int (c % 2)) (y:=.int 0) (po (x:=.int c) (y:=.int 2) rfl rfl (Db (by decide))) rfl DF);have tb:∀(m:Int) (M:Mh),AL (mOp OP (AA 3) (mC (.int 0))) [some (.int c),some (.int 1),some (.ref Z.length),some (.int m),none] M=some (decide (0<m),M):=λm M=>AV (po (x:=.int m) (y:=.int 0) rfl rfl rfl);have tc:∀(m:Int) (fs:List D),AL (mOp Jt (AG BX (AC (AA 2) AK)) (AA 1)) [some (.int c),some (.int 1),some (.ref Z.length),some (.int m),none] (Z++[.lst fs])=some (decide ((fs.length:Int)<1),Z++[.lst fs]):=λm fs=>AV (po (x:=.int fs.length) (y:=.int 1) (pd (ds:=[.ref Z.length]) rfl (MM g1)) rfl rfl);show ∃m fs,_/\_/\Go XV XW Fa _ _=_;rw[hf];by_cases h2:c % 2=0
 ·have ta':∀(m:Int) (M:Mh),AL (mOp AW (mOp Bi (AA 0) (mC (.int 2))) (mC (.int 0))) [some (.int c),some (.int 1),some (.ref Z.length),some (.int m),none] M=some (true,M):=λm M=>(ta m M).trans (by rw[h2];rfl);by_cases h3:0<c / 2
  ·refine⟨c / 2 / 1000000000,[c / 2 % 1000000000],by simp,λx hx=>by rw[AAK] at hx;subst hx;exact AAY _ (by decide),?_⟩;refine RZ (w6:=Z++[.lst [.int (c / 2 % 1000000000)]]) (x5:=[some (.int c),some (.int 1),some (.ref Z.length),some (.int (c / 2 / 1000000000)),none]) (Bg (ta' _ _) (Bg ((tb _ _).trans (by rw[AAO h3])) (tc _ _))) (AT (SH (ds:=[]) (x:=.int (c / 2 % 1000000000)) rfl (by simp) (po (x:=.int (c / 2)) (y:=.int 1000000000) rfl (po (x:=.int 10) (y:=.int 9) rfl rfl Us) (Db (by decide)))) (pa (po (x:=.int (c / 2)) (y:=.int 1000000000) rfl (po (x:=.int 10) (y:=.int 9) rfl rfl Us) (Cn (by decide) (by decide))) rfl)) ?_;by_cases h4:0<c / 2 / 1000000000
   ·exact ID (Bg (ta' _ _) (Bg ((tb _ _).trans (by rw[AAO h4])) (tc _ _)))
   ·exact ID (Bg (ta' _ _) (Cr ((tb _ _).trans (by rw[AAN h4]))))
  ·exact⟨c / 2,[],by simp,by simp,ID (Bg (ta' _ _) (Cr ((tb _ _).trans (by rw[AAN h3]))))⟩
 ·exact⟨c / 2,[],by simp,by simp,ID (Cr ((ta _ _).trans (by rw[AAf.mpr h2])))⟩
theorem PZ:∃x:Int,0<=x/\B4 [.int c,.int 1] Z=some (.lst [.int x],Z):=by
 have hz:=BV;obtain⟨m,fs,h1,h2,wh⟩:=OH (Z:=Z) (c:=c)
 let s0:Int:=(c / 2+7919) * 48271 % 2147483647
 have q0:s0=(c / 2+7919) * 48271 % 2147483647:=rfl;have p0:0<=s0:=AAY _ (by decide);have p1:s0<2147483647:=AAZ _ (by decide);generalize s0=s0 at q0 p0 p1
 let s1':Int:=s0 * (s0 / 1009+69621+0) % 2147483647
 have q1:s1'=s0 * (s0 / 1009+69621+0) % 2147483647:=rfl;have r0:0<=s1':=AAY _ (by decide);have r1:s1'<2147483647:=AAZ _ (by decide);generalize s1'=s1' at q1 r0 r1
 let x1:Int:=s1' * (s1' / 127+40009) % 2147483629
 have q2:x1=s1' * (s1' / 127+40009) % 2147483629:=rfl;have x0:0<=x1:=AAY _ (by decide);generalize x1=x1 at q2 x0;have hx:∃x:Int,0<=x/\DJ ((fs++[x1]).map D.int) none (some 1)=[.int x]:=by
  cases fs with
  |nil=>exact⟨x1,x0,rfl⟩
  |cons y ys=>
   have hl:ys.length=0:=by rw[AAH] at h1;omega
   have:ys=[]:=List.length_eq_zero_iff.mp hl;subst this;exact⟨y,h2 y (by simp),rfl⟩
 obtain⟨x,hx0,hcut⟩:=hx;refine⟨x,hx0,An (g:=[.lst ((fs++[x1]).map D.int)]) (x5:=[some (.int c),some (.int 1),some (.ref Z.length),some (.int (s1'+1)),some (.int 0)]) ?_ rfl (by simp[Cl,ClL])⟩;refine AT (w5:=Z++[.lst []]) (w9:=[some (.int c),some (.int 1),some (.ref Z.length),none,none]) (Cq (d:=.ref Z.length) (w5:=Z++[.lst []]) (BO (ds:=[]) (w5:=Z) rfl ?_) rfl) ?_
 ·unfold Dz;rw[AM (show lim ([]:List D).length Z=some ((),Z) from by unfold lim;rw[if_pos (by simp)])]
 refine AT (w9:=[some (.int c),some (.int 1),some (.ref Z.length),some (.int (c / 2)),none]) (pa (po (x:=.int c) (y:=.int 2) rfl rfl (Cn (by decide) (by decide))) rfl) (AT wh ?_);refine AT (w9:=[some (.int c),some (.int 1),some (.ref Z.length),some (.int s0),none]) (pa (d:=.int s0) (po (x:=.int ((c / 2+7919) * 48271)) (y:=.int 2147483647) (po (x:=.int (c / 2+7919)) (y:=.int 48271) (po (x:=.int (c / 2)) (y:=.int 7919) (po (x:=.int c) (y:=.int 2) rfl rfl (Cn (by decide) (by decide))) rfl rfl) rfl (Nb (.inr (by decide)))) rfl ?_) rfl) ?_
 ·rw[Db (by decide),q0]
 have fr:Hg (AC (AA 1) AK) [some (.int c),some (.int 1),some (.ref Z.length),some (.int s0),none] (Z++[.lst (fs.map D.int)])=some ([.int 0],Z++[.lst (fs.map D.int)]):=by
  unfold Hg;rw[AM (show AC (AA 1) AK [some (.int c),some (.int 1),some (.ref Z.length),some (.int s0),none] (Z++[.lst (fs.map D.int)])=some ([.int 1],Z++[.lst (fs.map D.int)]) from rfl)];unfold NE;dsimp only;rw[if_pos (by decide)];rfl
 refine AT (w5:=Z++[.lst ((fs++[x1]).map D.int)]) (w9:=[some (.int c),some (.int 1),some (.ref Z.length),some (.int (s1'+1)),some (.int 0)]) (ET fr (Ah (w9:=[some (.int c),some (.int 1),some (.ref Z.length),some (.int s0),some (.int 0)]) (w5:=Z++[.lst (fs.map D.int)]) rfl ?_ rfl)) ?_
 ·refine AT (w5:=Z++[.lst (fs.map D.int)]) (w9:=[some (.int c),some (.int 1),some (.ref Z.length),some (.int s1'),some (.int 0)]) (pa (d:=.int s1') (po (x:=.int (s0 * (s0 / 1009+69621+0))) (y:=.int 2147483647) (po (x:=.int s0) (y:=.int (s0 / 1009+69621+0)) rfl (po (x:=.int (s0 / 1009+69621)) (y:=.int 0) (po (x:=.int (s0 / 1009)) (y:=.int 69621) (po (x:=.int s0) (y:=.int 1009) rfl rfl (Cn (by decide) (by decide))) rfl rfl) rfl rfl) (Nb (.inl ⟨by omega,by omega⟩))) rfl ?_) rfl) (AT (w5:=Z++[.lst ((fs++[x1]).map D.int)]) (w9:=[some (.int c),some (.int 1),some (.ref Z.length),some (.int s1'),some (.int 0)]) ?_ (pa (po (x:=.int s1') (y:=.int 1) rfl rfl rfl) rfl))
  ·rw[Db (by decide),q1]
  ·rw[AAX];refine SH (ds:=fs.map D.int) (x:=.int x1) rfl (by rw[AAF];omega) (po (x:=.int (s1' * (s1' / 127+40009))) (y:=.int 2147483629) (po (x:=.int s1') (y:=.int (s1' / 127+40009)) rfl (po (x:=.int (s1' / 127)) (y:=.int 40009) (po (x:=.int s1') (y:=.int 127) rfl rfl (Cn (by decide) (by decide))) rfl rfl) (Nb (.inl ⟨by omega,by omega⟩))) rfl ?_);rw[Db (by decide),q2]
 ·refine Dx (Ra (x0:=.ref Z.length) (a:=none) (b:=some 1) (w5:=Z++[.lst ((fs++[x1]).map D.int)]) (w6:=Z++[.lst ((fs++[x1]).map D.int)]) (x6:=Z++[.lst ((fs++[x1]).map D.int)]) rfl rfl rfl ?_);show bnd (CP (.ref Z.length)) (λds=>Mi.ret (D.lst (DJ ds none (some 1)))) (Z++[MO.lst ((fs++[x1]).map D.int)])=_;rw[AM (show CP (.ref Z.length) (Z++[.lst ((fs++[x1]).map D.int)])=some ((fs++[x1]).map D.int,Z++[.lst ((fs++[x1]).map D.int)]) from by unfold CP;dsimp only;rw[g1])];show some (D.lst (DJ ((fs++[x1]).map D.int) none (some 1)),_)=_;rw[hcut]
end
end K13
set_option maxHeartbeats 4000000
namespace K13
open PySem L2 Mi Ht
section
variable{n:Nat}
noncomputable abbrev nL0:List Str:=["w", "r", "s", "t"]
noncomputable abbrev nL1:List Str:=["writer", "a", "ab", "b"]
noncomputable abbrev nL2:List Str:=["z", "zz", "zzzzzzzz", "begin"]
theorem Tv{L:List Str}(h1:∀n∈L,PyData.strOk n=true)(h2:L.Nodup)(h3:L.length=4){j:Nat}(a:2<=j)(b:j<=4):Ns (L.take j):=
 ⟨λn hn=>h1 n (List.mem_of_mem_take hn),h2.sublist (List.take_sublist _ _),by rw[List.length_take];omega,by rw[List.length_take];omega⟩
theorem XB{x:Int}:∃L:List Str,L.length=4/\(∀n∈L,PyData.strOk n=true)/\L.Nodup/\∀M:Mh,AH (.lst [.lst (nL0.map D.str),.lst (nL1.map D.str),.lst (nL2.map D.str)]) (.int (x % 3)) M=some (.lst (L.map D.str),M):=by
 have h0:0<=x % 3:=AAY _ (by decide);have h1:x % 3<3:=AAZ _ (by decide);rcases(show x % 3=0∨x % 3=1∨x % 3=2 by omega) with h|h|h<;>rw[h]
 ·exact⟨nL0,rfl,by decide +kernel,by decide +kernel,λM=>rfl⟩
 ·exact⟨nL1,rfl,by decide +kernel,by decide +kernel,λM=>rfl⟩
 ·exact⟨nL2,rfl,by decide +kernel,by decide +kernel,λM=>rfl⟩
end
end K13
namespace K11
open PySem L2 Mi K13
end K11
set_option maxHeartbeats 4000000
namespace K11
open PySem L2 Mi Ht K13
end K11
set_option maxHeartbeats 4000000
namespace K11
open PySem L2 Mi Ht K13
end K11
set_option maxHeartbeats 4000000
namespace K11
open PySem L2 Mi Ht K13
end K11
set_option maxHeartbeats 4000000
namespace K11
open PySem L2 Mi Ht K13
end K11
set_option maxHeartbeats 4000000
namespace K11
open PySem L2 Mi Ht K13
section
variable{Z w5 w6:Mh}{B w9 x5:Sl}{n:Nat}{ds:List D}
theorem Oo{bf:D->Sl->M Sl}{mb:Sl->M (Fl×Sl)}{y:D}{i k:Nat}{r:(Fl×Sl)×Mh}(hn:Z[n]?=some (.lst ds))(hx:ds[i]?=some y)(h1:bf y B Z=some (w9,w5))(h2:mb w9 w5=some ((.next,x5),w6))(h3:GO n bf mb k (i+1) x5 w6=some r):GO n bf mb (k+1) i B Z=some r:=by
 unfold GO;simp only[hn,hx];rw[AM h1,AM h2];exact h3
theorem Op{bf:D->Sl->M Sl}{mb:Sl->M (Fl×Sl)}{i k:Nat}(hn:Z[n]?=some (.lst ds))(hx:ds[i]?=none):GO n bf mb (k+1) i B Z=some ((.next,B),Z):=by
 unfold GO;simp only[hn,hx]
end
end K11
namespace Wb
open PySem Nk
noncomputable def mvR(c:Cs)(i:Nat):Cs:=(c.1,c.2.1,c.2.2.set i c.1)
noncomputable def rdF:Nat->List Int->List Nat
 |_,[]=>[]
 |k,t::r=>if t=-2 then k::rdF (k+1) r else rdF (k+1) r
noncomputable def QA(c:Cs):List Nat:=rdF 0 c.2.2
theorem NU:∀{ts:List Int} {k:Nat},i∈rdF k ts↔k<=i/\ts[i-k]?=some (-2)
 |[],k=>by simp[rdF]
 |t::r,k=>by
  have ih:=NU (i:=i) (ts:=r) (k:=k+1);unfold rdF;by_cases hk:i=k
  ·subst hk;split
   ·rename_i h;subst h;simp
   ·rename_i h;rw[ih];constructor
    ·intro z;omega
    ·intro z;simp at z;exact absurd z h
  ·have e:k<=i/\(t::r)[i-k]?=some (-2)↔k+1<=i/\r[i-(k+1)]?=some (-2):=by
    constructor
    ·rintro⟨a,b⟩;have:i-k=(i-(k+1))+1:=by omega
     rw[this] at b;exact⟨by omega,by simpa using b⟩
    ·rintro⟨a,b⟩;have:i-k=(i-(k+1))+1:=by omega
     rw[this];exact⟨by omega,by simpa using b⟩
   rw[e,←ih];split
   ·simp[hk]
   ·rfl
theorem NI:∀(ts:List Int) (k:Nat),(rdF k ts).length<=ts.length
 |[],k=>by simp[rdF]
 |t::r,k=>by
  have:=NI r (k+1);unfold rdF;split<;>simp<;>omega
noncomputable def En(c:Cs):List (Nat×Cs):=(if 0<=c.2.1 then [(0,(c.2.1,-2,c.2.2))] else [])++(QA c).map λi=>(i+1,mvR c i)
noncomputable def nxt(c:Cs):List Cs:=(En c).map (·.2)
noncomputable def El(v:Int):List Int->List (List Int)
 |[]=>[[]]
 |t::r=>if t=-2 then (El v r).map (-2::·)++(El v r).map (v::·) else (El v r).map (t::·)
noncomputable def rch(c:Cs):List Cs:=(El c.1 c.2.2).map (λt=>(c.1,c.2.1,t))++if 0<=c.2.1 then ((El c.1 c.2.2).flatMap (El c.2.1)).map (λt=>(c.2.1,-2,t)) else []
theorem GG(v:Int):∀ts,ts∈El v ts
 |[]=>by simp[El]
 |t::r=>by
  unfold El;have:=GG v r;split
  ·rename_i e;subst e;simp[this]
  ·simp[this]
theorem Ek:∀{ts us:List Int} {i:Nat},us∈El v ts->us[i]?=some (-2)->us.set i v∈El v ts
 |[],us,i,h,e=>by simp[El] at h;subst h;simp at e
 |t::r,us,i,h,e=>by
  unfold El at h ⊢;split at h
  ·rename_i ht;rw[if_pos ht];rcases AAJ.mp h with h|h
   ·obtain⟨x,hx,rfl⟩:=AAL.mp h;cases i with
    |zero=>exact AAb _ (AAL.mpr ⟨x,hx,rfl⟩)
    |succ i=>exact AAc _ (AAL.mpr ⟨x.set i v,Ek hx (by simpa using e),rfl⟩)
   ·obtain⟨x,hx,rfl⟩:=AAL.mp h;cases i with
    |zero=>exact AAb _ (AAL.mpr ⟨x,hx,rfl⟩)
    |succ i=>exact AAb _ (AAL.mpr ⟨x.set i v,Ek hx (by simpa using e),rfl⟩)
  ·rename_i ht;rw[if_neg ht];obtain⟨x,hx,rfl⟩:=AAL.mp h;cases i with
   |zero=>simp at e;exact absurd e ht
   |succ i=>exact AAL.mpr ⟨x.set i v,Ek hx (by simpa using e),rfl⟩
theorem mem_rdrs:i∈QA c↔c.2.2[i]?=some (-2):=by
 unfold QA;rw[NU];simp
theorem mem_nxt:x∈nxt c↔(0<=c.2.1/\x=(c.2.1,-2,c.2.2))∨∃i,c.2.2[i]?=some (-2)/\x=mvR c i:=by
 unfold nxt En;rw[AAX,AAJ,List.map_map];constructor
 ·rintro(h|h)
  ·split at h
   ·rename_i h0;simp at h;exact .inl ⟨h0,h⟩
   ·simp at h
  ·obtain⟨i,hi,rfl⟩:=AAL.mp h;exact .inr ⟨i,mem_rdrs.mp hi,rfl⟩
 ·rintro(⟨h0,rfl⟩|⟨i,hi,rfl⟩)
  ·left;rw[if_pos h0];simp
  ·right;exact AAL.mpr ⟨i,mem_rdrs.mpr hi,rfl⟩
theorem Fo(c:Cs):c∈rch c:=AAc _ (AAL.mpr ⟨_,GG _ _,rfl⟩)
theorem Js(h:x∈rch c)(hy:y∈nxt x):y∈rch c:=by
 unfold rch at h ⊢;rcases AAJ.mp h with h|h
 ·obtain⟨ts,ht,rfl⟩:=AAL.mp h;rcases mem_nxt.mp hy with ⟨h0,rfl⟩|⟨i,hi,rfl⟩
  ·refine AAb _ ?_;rw[if_pos h0];exact AAL.mpr ⟨ts,List.mem_flatMap.mpr ⟨ts,ht,GG _ _⟩,rfl⟩
  ·exact AAc _ (AAL.mpr ⟨_,Ek ht hi,rfl⟩)
 ·split at h
  ·rename_i h0;obtain⟨ts,ht,rfl⟩:=AAL.mp h;obtain⟨us,hu,hv⟩:=List.mem_flatMap.mp ht;rcases mem_nxt.mp hy with ⟨h1,rfl⟩|⟨i,hi,rfl⟩
   ·exact absurd h1 (show ¬(0:Int)<=-2 by decide)
   ·refine AAb _ ?_;rw[if_pos h0];exact AAL.mpr ⟨_,List.mem_flatMap.mpr ⟨us,hu,Ek hv hi⟩,rfl⟩
  ·cases h
inductive Rch:Cs->Cs->Prop
 |refl (c:Cs):Rch c c
 |step {a b c:Cs}:Rch a b->c∈nxt b->Rch a c
theorem Rch.trans(h:Rch a b)(g:Rch b c):Rch a c:=by
 induction g with
 |refl=>exact h
 |step _ s ih=>exact .step ih s
theorem Fp:∀{ts us:List Int} (pre:List Int),us∈El v ts->Rch (v,c,pre++ts) (v,c,pre++us)
 |[],us,pre,h=>by simp[El] at h;subst h;exact .refl _
 |t::r,us,pre,h=>by
  unfold El at h;have go:∀(a:Int) {x:List Int},x∈El v r->Rch (v,c,pre++a::r) (v,c,pre++a::x):=λa x hx=>by
   have:=Fp (c:=c) (pre++[a]) hx;simpa using this
  split at h
  ·rename_i ht;subst ht;rcases AAJ.mp h with h|h
   ·obtain⟨x,hx,rfl⟩:=AAL.mp h;exact go _ hx
   ·obtain⟨x,hx,rfl⟩:=AAL.mp h;refine Rch.trans (.step (.refl _) (mem_nxt.mpr (.inr ⟨pre.length,by simp,rfl⟩))) ?_;have:mvR (v,c,pre++-2::r) pre.length=(v,c,pre++v::r):=by simp[mvR]
    rw[this];exact go v hx
  ·obtain⟨x,hx,rfl⟩:=AAL.mp h;exact go _ hx
theorem rch_iff:x∈rch c↔Rch c x:=by
 constructor
 ·intro h;unfold rch at h;rcases AAJ.mp h with h|h
  ·obtain⟨ts,ht,rfl⟩:=AAL.mp h;exact Fp [] ht
  ·split at h
   ·rename_i h0;obtain⟨ts,ht,rfl⟩:=AAL.mp h;obtain⟨us,hu,hv⟩:=List.mem_flatMap.mp ht;exact(Rch.step (Fp (c:=c.2.1) [] hu) (mem_nxt.mpr (.inl ⟨h0,rfl⟩))).trans (Fp [] hv)
   ·cases h
 ·intro h
  induction h with
  |refl=>exact Fo _
  |step _ s ih=>exact Js ih s
noncomputable def clo(cs:List Cs):List Cs:=cs.flatMap rch
theorem mem_clo:x∈clo cs↔∃c∈cs,x∈rch c:=List.mem_flatMap
noncomputable def vis(s:List Cs×List Cs)(c:Cs):List Cs×List Cs:=if c∈s.1 then s else (s.1++[c],s.2++[c])
noncomputable def hop(s:List Cs×List Cs)(c:Cs):List Cs×List Cs:=(nxt c).foldl vis (s.1,s.2.dropLast)
structure Wk(cs:List Cs)(ways wait:List Cs):Prop where
 nd:ways.Nodup
 sub:∀x∈wait,x∈ways
 don:∀x∈ways,x∈wait∨∀y∈nxt x,y∈ways
 frm:∀x∈ways,x∈clo cs
 all:∀x∈cs,x∈ways
theorem Wk.done(w:Wk cs ways []):x∈ways↔x∈clo cs:=by
 refine⟨w.frm x,λh=>?_⟩;obtain⟨c,hc,hx⟩:=mem_clo.mp h;have:=rch_iff.mp hx
 induction this with
 |refl=>exact w.all _ hc
 |step g s ih=>
  rcases w.don _ (ih (mem_clo.mpr ⟨c,hc,rch_iff.mpr g⟩) (rch_iff.mpr g)) with z|z
  ·cases z
  ·exact z _ s
structure Wm(cs:List Cs)(c:Cs)(ys:List Cs)(s:List Cs×List Cs):Prop where
 nd:s.1.Nodup
 sub:∀x∈s.2,x∈s.1
 don:∀x∈s.1,x∈s.2∨x=c∨∀y∈nxt x,y∈s.1
 ths:∀y∈nxt c,y∈ys∨y∈s.1
 frm:∀x∈s.1,x∈clo cs
 all:∀x∈cs,x∈s.1
 me:c∈s.1
theorem Wm.vis(w:Wm cs c (y::ys) s)(hy:y∈nxt c):Wm cs c ys (vis s y):=by
 unfold Wb.vis;split
 ·rename_i h;exact⟨w.nd,w.sub,w.don,λz hz=>(w.ths z hz).elim (λq=>(AAI.mp q).elim (λe=>.inr (e ▸ h)) .inl) .inr,w.frm,w.all,w.me⟩
 ·rename_i h;refine⟨?_,?_,?_,?_,?_,λx hx=>AAc _ (w.all x hx),AAc _ w.me⟩
  ·refine List.nodup_append.mpr ⟨w.nd,by simp,λa ha b hb e=>h (by simp at hb;rw[←hb,←e];exact ha)⟩
  ·intro x hx;rcases AAJ.mp hx with z|z
   ·exact AAc _ (w.sub x z)
   ·exact AAb _ z
  ·intro x hx;rcases AAJ.mp hx with z|z
   ·rcases w.don x z with q|q|q
    ·exact .inl (AAc _ q)
    ·exact .inr (.inl q)
    ·exact .inr (.inr λu hu=>AAc _ (q u hu))
   ·exact .inl (AAb _ z)
  ·intro z hz;rcases w.ths z hz with q|q
   ·rcases AAI.mp q with e|q
    ·exact .inr (AAb _ (by rw[e];simp))
    ·exact .inl q
   ·exact .inr (AAc _ q)
  ·intro x hx;rcases AAJ.mp hx with z|z
   ·exact w.frm x z
   ·rw[AAK] at z;subst z;obtain⟨d,hd,hr⟩:=mem_clo.mp (w.frm c w.me);exact mem_clo.mpr ⟨d,hd,Js hr hy⟩
theorem Wm.fold:∀{ys:List Cs} {s:List Cs×List Cs},Wm cs c ys s->(∀y∈ys,y∈nxt c)->Wm cs c [] (ys.foldl Wb.vis s)
 |[],_,w,_=>w
 |y::ys,s,w,h=>show Wm cs c [] (ys.foldl Wb.vis (Wb.vis s y)) from Wm.fold (ys:=ys) (w.vis (h y AAP)) λz hz=>h z (AAQ _ hz)
theorem Wk.hop(w:Wk cs ways (wait++[c])):Wk cs (hop (ways,wait++[c]) c).1 (hop (ways,wait++[c]) c).2:=by
 have m:Wm cs c (nxt c) (ways,(wait++[c]).dropLast):=by
  rw[List.dropLast_concat];refine⟨w.nd,λx hx=>w.sub x (AAc _ hx),λx hx=>?_,λy hy=>.inl hy,w.frm,w.all,w.sub c (by simp)⟩;rcases w.don x hx with q|q
  ·rcases AAJ.mp q with q|q
   ·exact .inl q
   ·exact .inr (.inl (by simpa using q))
  ·exact .inr (.inr q)
 have f:=m.fold λ_ h=>h;refine⟨f.nd,f.sub,λx hx=>?_,f.frm,f.all⟩;rcases f.don x hx with q|q|q
 ·exact .inl q
 ·subst q;exact .inr λy hy=>(f.ths y hy).elim (λz=>by cases z) id
 ·exact .inr q
theorem Mr(s:List Cs×List Cs)(c:Cs):(vis s c).1.length+s.2.length=s.1.length+(vis s c).2.length:=by
 unfold vis;split
 ·omega
 ·simp;omega
theorem LQ:∀(ys:List Cs) (s:List Cs×List Cs),(ys.foldl vis s).1.length+s.2.length=s.1.length+(ys.foldl vis s).2.length
 |[],s=>rfl
 |y::ys,s=>by
  have h1:=Mr s y;have h2:=LQ ys (vis s y);show ((ys.foldl vis (vis s y)).1).length+_=_+((ys.foldl vis (vis s y)).2).length;omega
theorem Cf[DecidableEq α]:∀{xs ys:List α},xs.Nodup->(∀x∈xs,x∈ys)->xs.length<=ys.length
 |[],_,_,_=>AAk _
 |x::xs,ys,nd,h=>by
  obtain⟨n1,n2⟩:=List.nodup_cons.mp nd;have hx:=h x AAP;have:=Cf (xs:=xs) (ys:=ys.erase x) n2 λy hy=>(List.mem_erase_of_ne (λe=>n1 (by rw[←e];exact hy))).mpr (h y (AAQ _ hy));rw[List.length_erase_of_mem hx] at this;have:=List.length_pos_of_mem hx;simp;omega
end Wb
set_option maxHeartbeats 4000000
namespace K16
open PySem L2 Mi Nk Wb
open K13 (BB Be Am As po pn pc pd pq pa piT piF pr peT peF GC Bv BV DF BC CC Ah Bf EG CI Bu DL)
section
variable{Z w5 w6 x6:Mh}{w9 x5:Sl}{d:D}{ds:List D}{n:Nat}
theorem Nu:Aa=K13.Aa:=rfl
theorem eq_acts:BF=K13.BF:=rfl
theorem eq_begun:Aj=K13.Aj:=rfl
noncomputable def CB(p:Nat×Cs):D:=.tup [.int p.1,csD p.2]
theorem D9(k:Nat)(c:Cs):Cl k (csD c):=by
 unfold csD Cl ClL;refine⟨Be _ _,?_⟩;unfold ClL;refine⟨Be _ _,?_⟩;unfold ClL;exact⟨by unfold Cl;exact BB (Be k) _,by unfold ClL;trivial⟩
theorem N0(k:Nat)(p:Nat×Cs):Cl k (CB p):=by
 unfold CB Cl ClL;refine⟨Be _ _,?_⟩;unfold ClL;exact⟨D9 _ _,by unfold ClL;trivial⟩
theorem IL(e:mb (Bh n ds) Z=some ((.rt d,x5),Z++g))(hl:ds.length=ps)(hg:∀o∈g,∀k,ClO k o)(c:Cl (Z++g).length d):A3 .all n ps mb ds Z=some (d,Z++g):=
 IK (hw:=.all) e hl (.inr ⟨d,rfl⟩) ⟨⟨[],by show Z++g=Z++g++[];simp⟩,(by show Z.length<=(Z++g).length;simp),λn o h=>by
  by_cases hn:n<Z.length
  ·left;have h':(Z++g)[n]?=some o:=h;rw[AAS hn] at h';exact h'
  ·right;have h':(Z++g)[n]?=some o:=h;rw[AAR (by omega)] at h';exact hg o (AAU h') _,.inl ⟨rfl,c⟩⟩
theorem YF:QG (.int i) (.int j) Z=some (.bl (decide (j<=i)),Z):=rfl
theorem g1a:(Z++[a])[Z.length]?=some a:=by rw[AAR (AAE _)];simp
theorem s1a:(Z++[a]).set Z.length b=Z++[b]:=by rw[AAg _ _ (AAE _)];simp
theorem SH(h:S[k]?=some (some (.ref Z.length)))(hl:ds.length<=1000)(he:me S (Z++[.lst ds])=some (x,Z++[.lst ds])):BD (Ak CT (AA k) (AC me AK)) S (Z++[.lst ds])=some ((.next,S),Z++[.lst (ds++[x])]):=by
 have hz:=BV;refine CY (d:=.non) (CW (w5:=Z++[.lst ds]) (w6:=Z++[.lst ds]) (x6:=Z++[.lst ds]) (x:=.ref Z.length) (ds:=[x]) (Az h) (BC g1a) (pc he rfl) ?_);rw[CC g1a (by omega),s1a]
noncomputable abbrev ZB:Sl->M (Fl×Sl):=(sIf (AL (mOp AW (AA 3) (mC Cu))) (BD (Ak CT (AA 1) (AC (AG A1 (AC (mOp Ap (AA 2) (mC (.int 1))) (AC (AG A1 (AC (mOp AH (AA 0) (mC (.int 0))) (AC (mOp AH (AA 0) (mC (.int 1))) (AC (AG Aa (AC (mOp AH (AA 0) (mC (.int 2))) (AC (AA 2) (AC (mOp AH (AA 0) (mC (.int 0))) AK)))) AK)))) AK))) AK))) Au)
theorem MH(hc:c.2.2.length<=100):∀(rest:List Int) (k:Nat) (acc:List D) (o2 o3:Option D),k+rest.length=c.2.2.length->acc.length+rest.length<=1000->∃o2' o3':Option D,
  Cg (Gs [2,3]) ZB (Ct k (rest.map D.int)) [some (csD c),some (.ref Z.length),o2,o3] (Z++[.lst acc])=some ((.next,[some (csD c),some (.ref Z.length),o2',o3']),Z++[.lst (acc++(rdF k rest).map λi=>CB (i+1,mvR c i))])
 |[],k,acc,o2,o3,_,_=>⟨o2,o3,by simp[rdF,Ct];rfl⟩
 |t::r,k,acc,o2,o3,hk,hl=>by
  have hz:=BV;have ht:AL (mOp AW (AA 3) (mC Cu)) [some (csD c),some (.ref Z.length),some (.int k),some (.int t)] (Z++[.lst acc])=some (t==-2,Z++[.lst acc]):=AV (po (x:=.int t) (y:=.int (-2)) rfl rfl DF);simp only[AAH] at hk hl;by_cases e:t=-2
  ·obtain⟨o2',o3',go⟩:=MH hc r (k+1) (acc++[CB (k+1,mvR c k)]) (some (.int k)) (some (.int t)) (by omega) (by simp;omega);refine⟨o2',o3',?_⟩;have er:rdF k (t::r)=k::rdF (k+1) r:=by rw[rdF,if_pos e]
   rw[er];have ea:acc++List.map (λi=>CB (i+1,mvR c i)) (k::rdF (k+1) r)=acc++[CB (k+1,mvR c k)]++(rdF (k+1) r).map λi=>CB (i+1,mvR c i):=by simp
   rw[ea];refine Ah (w9:=[some (csD c),some (.ref Z.length),some (.int k),some (.int t)]) (w5:=Z++[.lst acc]) (x:=.tup [.int k,.int t]) rfl (Bt (by rw[ht,e];rfl) (SH (Z:=Z) rfl (by omega) ?_)) go;refine pd (ds:=[.int ((k:Int)+1),csD (mvR c k)]) (pc (x:=.int ((k:Int)+1)) (po (x:=.int k) (y:=.int 1) rfl rfl rfl) (pc (x:=csD (mvR c k)) (pd (ds:=[.int c.1,.int c.2.1,.tup ((c.2.2.set k c.1).map D.int)]) (pc (x:=.int c.1) rfl (pc (x:=.int c.2.1) rfl (pc (pd (ds:=[.tup (c.2.2.map D.int),.int k,.int c.1]) rfl ?_) rfl))) (Am (by simp;omega))) rfl)) (by
     have:=Am (Z:=Z++[.lst acc]) (ds:=[.int ((k:Int)+1),csD (mvR c k)]) (by simp;omega);rw[this];unfold CB;simp)
   rw[Nu,GC (by rw[AAF];omega) (by rw[AAF];omega) (λk=>BB (Be k) _) (λk=>Be k _),List.map_set]
  ·obtain⟨o2',o3',go⟩:=MH hc r (k+1) acc (some (.int k)) (some (.int t)) (by omega) (by omega);refine⟨o2',o3',?_⟩;have er:rdF k (t::r)=rdF (k+1) r:=by rw[rdF,if_neg e]
   rw[er];exact Ah (w9:=[some (csD c),some (.ref Z.length),some (.int k),some (.int t)]) (w5:=Z++[.lst acc]) (x:=.tup [.int k,.int t]) rfl (Bc (by rw[ht,AAf.mpr e]) rfl) go
theorem OC(hc:c.2.2.length<=100):Aw [csD c] Z=some (.ref Z.length,Z++[.lst ((En c).map CB)]):=by
 have hz:=BV;have i1:∀S (M:Mh),S[0]?=some (some (csD c))->mOp AH (AA 0) (mC (.int 1)) S M=some (.int c.2.1,M):=λS M h=>po (x:=csD c) (y:=.int 1) (Az h) rfl rfl;have fst:sIf (AL (mOp QG (mOp AH (AA 0) (mC (.int 1))) (mC (.int 0)))) (BD (Ak CT (AA 1) (AC (AG A1 (AC (mC (.int 0)) (AC (AG A1 (AC (mOp AH (AA 0) (mC (.int 1))) (AC (mC Ez) (AC (mOp AH (AA 0) (mC (.int 2))) AK)))) AK))) AK))) Au [some (csD c),some (.ref Z.length),none,none] (Z++[.lst []])=some ((.next,[some (csD c),some (.ref Z.length),none,none]),Z++[.lst ((if 0<=c.2.1 then [(0,(c.2.1,-2,c.2.2))] else []).map CB)]):=by
  have t:AL (mOp QG (mOp AH (AA 0) (mC (.int 1))) (mC (.int 0))) [some (csD c),some (.ref Z.length),none,none] (Z++[.lst []])=some (decide (0<=c.2.1),Z++[.lst []]):=AV (po (x:=.int c.2.1) (y:=.int 0) (i1 _ _ rfl) rfl YF);by_cases h0:0<=c.2.1
  ·rw[if_pos h0];refine Bt (by rw[t,AAO h0]) (SH (Z:=Z) (ds:=[]) rfl (by simp) ?_);refine pd (ds:=[.int 0,csD (c.2.1,-2,c.2.2)]) (pc (x:=.int 0) rfl (pc (x:=csD (c.2.1,-2,c.2.2)) (pd (ds:=[.int c.2.1,.int (-2),.tup (c.2.2.map D.int)]) rfl (Am (by simp;omega))) rfl)) (Am (by simp;omega))
  ·rw[if_neg h0];exact Bc (w5:=Z++[.lst []]) (by rw[t,AAN h0]) rfl
 have hlen:((if 0<=c.2.1 then [(0,(c.2.1,(-2:Int),c.2.2))] else []).map CB).length<=1:=by split<;>simp
 obtain⟨o2,o3,go⟩:=MH (Z:=Z) hc c.2.2 0 ((if 0<=c.2.1 then [(0,(c.2.1,-2,c.2.2))] else []).map CB) none none (by omega) (by omega);have em:(if 0<=c.2.1 then [(0,(c.2.1,(-2:Int),c.2.2))] else []).map CB++(rdF 0 c.2.2).map (λi=>CB (i+1,mvR c i))=(En c).map CB:=by
  unfold En QA;rw[AAX,List.map_map];rfl
 rw[em] at go;refine IL (x5:=[some (csD c),some (.ref Z.length),o2,o3]) ?_ rfl (λo ho k=>by rw[AAK] at ho;subst ho;exact BB (N0 k) _) (by unfold Cl;simp);refine AT (w9:=[some (csD c),some (.ref Z.length),none,none]) (w5:=Z++[.lst []]) ?_ (AT fst (AT (ET (ds:=Ct 0 (c.2.2.map D.int)) (w5:=_) rfl go) (Dx (Az rfl))));refine Cq (d:=.ref Z.length) (w5:=Z++[.lst []]) (BO (ds:=[]) (w5:=Z) rfl ?_) rfl;unfold Dz;rw[AM (show lim ([]:List D).length Z=some ((),Z) from by unfold lim;rw[if_pos (by simp)])]
end
end K16
set_option maxHeartbeats 4000000
namespace K16
open PySem L2 Mi Nk Wb
open K13 (BB Be Am As po pn pc pd pq pa piT piF pr peT peF GC Bv BV DF BC CC Ah Bf EG CI Bu DL)
section
variable{Z w5 w6 x6 g:Mh}{B w9 x5:Sl}{d:D}{ds:List D}{n:Nat}
theorem gA:(Z++(a::b::g))[Z.length]?=some a:=by rw[AAR (AAE _)];simp
theorem gB:(Z++(a::b::g))[Z.length+1]?=some b:=by rw[AAR (by omega)];simp
theorem sA:(Z++(a::b::g)).set Z.length c=Z++(c::b::g):=by rw[AAg _ _ (AAE _)];simp
theorem sB:(Z++(a::b::g)).set (Z.length+1) c=Z++(a::c::g):=by rw[AAg _ _ (by omega)];simp
theorem Ln(c:Cs):Kc (csD c)=some c:=by
 obtain⟨a,b,ts⟩:=c;have h:∀ns:List Int,ER (ns.map D.int)=some ns:=λns=>by
  induction ns with
  |nil=>rfl
  |cons x r ih=>show (ER (r.map D.int)).map _=_;rw[ih];rfl
 show (ER (ts.map D.int)).map _=_;rw[h];rfl
theorem JY(h:Z[n]?=some (.dC L)):Ie (.ref n) Z=some ((n,L),Z):=by unfold Ie;dsimp only;rw[h]
theorem N9{L:List (Cs×D)}:(L.any λz=>decide (z.1=c))=decide (c∈L.map (·.1)):=by
 rw[Bool.eq_iff_iff,List.any_eq_true,decide_eq_true_eq,AAL];constructor
 ·rintro⟨z,h1,h2⟩;exact⟨z,h1,of_decide_eq_true h2⟩
 ·rintro⟨z,h1,h2⟩;exact⟨z,h1,AAO h2⟩
theorem WR{L:List (Cs×D)}(h:Z[n]?=some (.dC L)):Ox true (csD c) (.ref n) Z=some (.bl (!decide (c∈L.map (·.1))),Z):=by
 unfold Ox;rw[AM (JY h)];show (Kc (csD c)).map _=_;rw[Ln,←N9];rfl
theorem Nr{mo mi mv:Sl->M D}{v:D}(h1:mv B Z=some (v,Z))(h2:mo B Z=some (.ref n,Z))(h3:mi B Z=some (csD c,Z))(h:Z[n]?=some (.dC L))(hl:L.length<sizeLine)(hn:c∉L.map (·.1)):HX mo mi mv B Z=some ((.next,B),Z.set n (.dC (L++[(c,v)]))):=by
 unfold HX;rw[AM h1,AM h2,AM h3,AM (JY h)];show (match Kc (csD c) with|some c=>if L.length<sizeLine/\(L.any λz=>decide (z.1=c))=false then some ((Fl.next,B),Z.set n (.dC (L++[(c,v)]))) else none|none=>none)=_;rw[Ln];show (if L.length<sizeLine/\(L.any λz=>decide (z.1=c))=false then some ((Fl.next,B),Z.set n (.dC (L++[(c,v)]))) else none)=_;rw[if_pos ⟨hl,by rw[N9,AAN hn]⟩]
noncomputable abbrev wH(Z:Mh)(W:List (Cs×D))(wait:List Cs)(g:Mh):Mh:=Z++(.dC W::.lst (wait.map csD)::g)
noncomputable abbrev VG:Sl->M (Fl×Sl):=(sIf (AL (mOp (Ox true) (AA 5) (AA 1))) (AU (HX (AA 1) (AA 5) (AG A1 (AC (AA 4) (AC (AA 2) AK))))
  (BD (Ak CT (AA 3) (AC (AA 5) AK)))) Au)
theorem PV(hW:W.length<=1000)(hq:wait.length<=1000)(hc:∀k,ClL k (W.map (·.2))):∃W',(W'.map (·.1))=(vis (W.map (·.1),wait) x).1/\(∀k,ClL k (W'.map (·.2))) /\
  VG [o0,some (.ref Z.length),some (csD c),some (.ref (Z.length+1)),some (.int h),some (csD x)] (wH Z W wait g)=some ((.next,[o0,some (.ref Z.length),some (csD c),some (.ref (Z.length+1)),some (.int h),some (csD x)]),wH Z W' (vis (W.map (·.1),wait) x).2 g):=by
 have hz:=BV;have t:AL (mOp (Ox true) (AA 5) (AA 1)) [o0,some (.ref Z.length),some (csD c),some (.ref (Z.length+1)),some (.int h),some (csD x)] (wH Z W wait g)=some (!decide (x∈W.map (·.1)),wH Z W wait g):=AV (po (x:=csD x) (y:=.ref Z.length) rfl rfl (WR gA));by_cases e:x∈W.map (·.1)
 ·refine⟨W,by unfold vis;rw[if_pos e],hc,?_⟩;unfold vis;rw[if_pos e];exact Bc (by rw[t,AAO e];rfl) rfl
 ·refine⟨W++[(x,.tup [.int h,csD c])],by unfold vis;rw[if_neg e,AAX];rfl,λk=>?_,?_⟩
  ·rw[AAX];have ap:∀as:List D,ClL k as->ClL k (as++[D.tup [.int h,csD c]]):=λas=>by
    induction as with
    |nil=>intro _;show ClL k [_];unfold ClL;exact⟨by unfold Cl ClL;exact⟨Be _ _,by unfold ClL;exact⟨D9 _ _,by unfold ClL;trivial⟩⟩,by unfold ClL;trivial⟩
    |cons a as ih=>intro z;unfold ClL at z;show ClL k (a::(as++_));unfold ClL;exact⟨z.1,ih z.2⟩
   exact ap _ (hc k)
  ·unfold vis;rw[if_neg e];refine Bt (by rw[t,AAN e];rfl) (AT (w5:=wH Z (W++[(x,.tup [.int h,csD c])]) wait g) ?_ (CY (d:=.non) (CW (w5:=wH Z (W++[(x,.tup [.int h,csD c])]) wait g) (w6:=wH Z (W++[(x,.tup [.int h,csD c])]) wait g) (x6:=wH Z (W++[(x,.tup [.int h,csD c])]) wait g) (x:=.ref (Z.length+1)) (ds:=[csD x]) rfl (BC gB) rfl ?_)))
   ·have:=Nr (B:=[o0,some (.ref Z.length),some (csD c),some (.ref (Z.length+1)),some (.int h),some (csD x)]) (Z:=wH Z W wait g) (n:=Z.length) (mo:=AA 1) (mi:=AA 5) (mv:=AG A1 (AC (AA 4) (AC (AA 2) AK))) (v:=.tup [.int h,csD c]) (c:=x) (L:=W) (pd (ds:=[.int h,csD c]) rfl (Am (by simp;omega))) rfl rfl gA (by omega) e;rw[sA] at this;exact this
   ·rw[CC gB (by rw[AAF];omega),sB];show some (D.non,Z++(MO.dC (W++[(x,D.tup [D.int h,csD c])])::MO.lst (wait.map csD++[csD x])::g))=some (D.non,Z++(MO.dC (W++[(x,D.tup [D.int h,csD c])])::MO.lst ((wait++[x]).map csD)::g));rw[AAX];rfl
theorem gL:(wH Z W wait (g++[o]))[Z.length+2+g.length]?=some o:=by
 show (Z++(MO.dC W::MO.lst (wait.map csD)::(g++[o])))[Z.length+2+g.length]?=_;rw[AAR (by omega)];have:Z.length+2+g.length-Z.length=g.length+1+1:=by omega
 rw[this];simp
theorem PX{o0:Option D}{cs U:List Cs}(hU:∀x∈clo cs,x∈U)(hN:U.length<900):∀(ps pre:List (Nat×Cs)) (k:Nat) (W:List (Cs×D)) (wait:List Cs) (o4 o5:Option D),ps.length<k->Wm cs c (ps.map (·.2)) (W.map (·.1),wait)->(∀p∈ps,p.2∈nxt c)->wait.length<=W.length->(∀k,ClL k (W.map (·.2)))->
  ∃(W':List (Cs×D)) (o4' o5':Option D),W'.map (·.1)=((ps.map (·.2)).foldl vis (W.map (·.1),wait)).1/\(∀k,ClL k (W'.map (·.2))) /\
   GO (Z.length+2+g.length) (Gs [4,5]) VG k pre.length [o0,some (.ref Z.length),some (csD c),some (.ref (Z.length+1)),o4,o5] (wH Z W wait (g++[.lst ((pre++ps).map CB)]))=some ((.next,[o0,some (.ref Z.length),some (csD c),some (.ref (Z.length+1)),o4',o5']),wH Z W' ((ps.map (·.2)).foldl vis (W.map (·.1),wait)).2 (g++[.lst ((pre++ps).map CB)]))
 |[],pre,k+1,W,wait,o4,o5,hk,w,hp,hl,hc=>⟨W,o4,o5,rfl,hc,K11.Op gL (by simp)⟩
 |p::ps,pre,k+1,W,wait,o4,o5,hk,w,hp,hl,hc=>by
  have hlen:W.length<=899:=by
   have:=Cf w.nd λx hx=>hU x (w.frm x hx);simp at this;omega
  obtain⟨W1,e1,c1,st⟩:=PV (Z:=Z) (g:=g++[.lst ((pre++p::ps).map CB)]) (o0:=o0) (c:=c) (x:=p.2) (h:=(p.1:Int)) (W:=W) (wait:=wait) (by omega) (by omega) hc;have w1:=w.vis (hp p AAP);have hl1:(vis (W.map (·.1),wait) p.2).2.length<=W1.length:=by
   have:=Mr (W.map (·.1),wait) p.2;have e2:=congrArg List.length e1;simp at this e2;omega
  obtain⟨W',o4',o5',e',c',go⟩:=PX hU hN ps (pre++[p]) k W1 (vis (W.map (·.1),wait) p.2).2 (some (.int p.1)) (some (csD p.2)) (by simp at hk;omega) (by rw[e1];exact w1) (λq hq=>hp q (AAQ _ hq)) hl1 c1;rw[e1] at e' go;refine⟨W',o4',o5',e',c',?_⟩;have ea:pre++[p]++ps=pre++p::ps:=by simp
  rw[ea] at go;refine K11.Oo (w9:=[o0,some (.ref Z.length),some (csD c),some (.ref (Z.length+1)),some (.int p.1),some (csD p.2)]) (y:=CB p) gL (by simp) rfl st ?_;simpa using go
 |_,_,0,_,_,_,_,hk,_,_,_,_=>absurd hk (by omega)
noncomputable abbrev whB:Sl->M (Fl×Sl):=(AU (Ab (Ft Tc (AA 3)) (AO 2))
  (M7 1000 (AG Aw (AC (AA 2) AK)) (Gs [4,5]) VG))
theorem Qv(c:Cs):(En c).length<=c.2.2.length+1:=by
 unfold En QA;have:=NI c.2.2 0;rw[AAG,AAF];split<;>simp<;>omega
theorem Km(h:S[3]?=some (some (.ref (Z.length+1)))):Hf (AA 3) S (wH Z W wait g)=some (!wait.isEmpty,wH Z W wait g):=by
 unfold Hf;rw[AM (Az h),AM (show BT (.ref (Z.length+1)) (wH Z W wait g)=some (wait.map csD,wH Z W wait g) from by
  show (match (wH Z W wait g)[Z.length+1]? with|some (.lst ds)=>some (ds,wH Z W wait g)|_=>none)=_;rw[gB])]
 cases wait<;>rfl
theorem Ki{o0:Option D}{cs U:List Cs}(hU:∀x∈clo cs,x∈U)(hN:U.length<900)(hw:∀x∈clo cs,x.2.2.length<=100):∀(k:Nat) (W:List (Cs×D)) (wait:List Cs) (g:Mh) (o2 o4 o5:Option D),U.length+wait.length<k+W.length->Wk cs (W.map (·.1)) wait->wait.length<=W.length->(∀k,ClL k (W.map (·.2)))->(∀o∈g,∀k,ClO k o)->
  ∃(W':List (Cs×D)) (g':Mh) (o2' o4' o5':Option D),Wk cs (W'.map (·.1)) []/\(∀k,ClL k (W'.map (·.2)))/\(∀o∈g',∀k,ClO k o) /\
   Go (Hf (AA 3)) whB k [o0,some (.ref Z.length),o2,some (.ref (Z.length+1)),o4,o5] (wH Z W wait g)=some ((.next,[o0,some (.ref Z.length),o2',some (.ref (Z.length+1)),o4',o5']),wH Z W' [] g')
 |0,W,wait,g,o2,o4,o5,hk,w,_,_,_=>by
  have:=Cf w.nd λx hx=>hU x (w.frm x hx);simp at this;omega
 |k+1,W,wait,g,o2,o4,o5,hk,w,hl,hc,hg=>by
  rcases List.eq_nil_or_concat wait with rfl|⟨q,c,rfl⟩
  ·exact⟨W,g,o2,o4,o5,w,hc,hg,K13.ID (Km rfl)⟩
  ·rw[List.concat_eq_append] at *;have hlen:W.length<=899:=by
    have:=Cf w.nd λx hx=>hU x (w.frm x hx);simp at this;omega
   have hcc:c∈clo cs:=w.frm c (w.sub c (by simp));have hcl:=hw c hcc;have m:Wm cs c ((En c).map (·.2)) (W.map (·.1),q):=⟨w.nd,λx hx=>w.sub x (AAc _ hx),λx hx=>by
    rcases w.don x hx with z|z
    ·rcases AAJ.mp z with z|z
     ·exact .inl z
     ·exact .inr (.inl (by simpa using z))
    ·exact .inr (.inr z),λy hy=>.inl hy,w.frm,w.all,w.sub c (by simp)⟩
   have hm:=Qv c;simp at hl hk;obtain⟨W1,o4',o5',e1,c1,go⟩:=PX (Z:=Z) (g:=g) (o0:=o0) (c:=c) hU hN (En c) [] 1000 W q o4 o5 (by omega) m (λp hp=>AAL.mpr ⟨p,hp,rfl⟩) (by omega) hc;rw[List.nil_append] at go;have hh:=w.hop;have eh:(hop (W.map (·.1),q++[c]) c)=((En c).map (·.2)).foldl vis (W.map (·.1),q):=by
    unfold hop nxt;rw[List.dropLast_concat]
   rw[eh] at hh;have hle:=LQ ((En c).map (·.2)) (W.map (·.1),q);have el:=congrArg List.length e1;simp only[AAF] at hle el;rw[←e1] at hh;have hg1:∀o∈g++[.lst ((En c).map CB)],∀k,ClO k o:=λo ho k=>by
    rcases AAJ.mp ho with z|z
    ·exact hg o z k
    ·rw[AAK] at z;subst z;exact BB (N0 k) _
   obtain⟨W',g',o2',o4'',o5'',r1,r2,r3,r4⟩:=Ki (o0:=o0) hU hN hw k W1 _ (g++[.lst ((En c).map CB)]) (some (csD c)) o4' o5' (by omega) hh (by omega) c1 hg1;refine⟨W',g',o2',o4'',o5'',r1,r2,r3,K13.RZ (x5:=[o0,some (.ref Z.length),some (csD c),some (.ref (Z.length+1)),o4',o5']) (w6:=wH Z W1 (((En c).map (·.2)).foldl vis (W.map (·.1),q)).2 (g++[.lst ((En c).map CB)])) ((Km rfl).trans (by simp)) ?_ r4⟩;refine AT (w9:=[o0,some (.ref Z.length),some (csD c),some (.ref (Z.length+1)),o4,o5]) (w5:=wH Z W q g) (Cq (d:=csD c) (w5:=wH Z W q g) ?_ rfl) ?_
   ·unfold Ft;rw[AM (show AA 3 [o0,some (.ref Z.length),o2,some (.ref (Z.length+1)),o4,o5] (wH Z W (q++[c]) g)=some (.ref (Z.length+1),wH Z W (q++[c]) g) from rfl),AM (BC gB)];show HH (Z.length+1) _ (wH Z W (q++[c]) g)=_;unfold HH;rw[gB];show Option.map _ (((q++[c]).map csD)[((q++[c]).map csD).length-1]?.map λd=>(d,((q++[c]).map csD).dropLast))=_;have e0:((q++[c]).map csD)[((q++[c]).map csD).length-1]?=some (csD c):=by simp
    have e2:((q++[c]).map csD).dropLast=q.map csD:=by simp
    rw[e0,e2];show some (csD c,(wH Z W (q++[c]) g).set (Z.length+1) (.lst (q.map csD)))=_;rw[sB]
   ·unfold M7;have vm:=OC (Z:=wH Z W q g) (c:=c) hcl;have el:(wH Z W q g).length=Z.length+2+g.length:=by
     show (Z++(MO.dC W::MO.lst (q.map csD)::g)).length=_;rw[AAG];simp;omega
    have ew:wH Z W q g++[.lst ((En c).map CB)]=wH Z W q (g++[.lst ((En c).map CB)]):=by
     show (Z++(MO.dC W::MO.lst (q.map csD)::g))++_=Z++(MO.dC W::MO.lst (q.map csD)::(g++_));simp
    rw[el,ew] at vm;rw[AM (BO (ds:=[csD c]) (w5:=wH Z W q g) rfl vm)];exact go
end
end K16
set_option maxHeartbeats 4000000
namespace K16
open PySem L2 Mi Nk Wb
open K13 (BB Be Am As po pn pc pd pq pa piT piF pr peT peF GC Bv BV DF BC CC Ah Bf EG CI Bu DL)
section
variable{Z w5 g:Mh}{B w9 x5:Sl}{d:D}{ds:List D}{n:Nat}
noncomputable def C5(cs:List Cs):List (Cs×D):=cs.map λc=>(c,D.non)
theorem LD(cs:List Cs):(C5 cs).map (·.1)=cs:=by unfold C5;rw[List.map_map];exact List.map_id cs
theorem Qr(cs:List Cs)(k:Nat):ClL k ((C5 cs).map (·.2)):=by unfold C5;rw[List.map_map];exact BB (λa=>by show Cl k D.non;unfold Cl;trivial) cs
theorem Np:∀(cs don:List Cs) (o2:Option D),(don++cs).Nodup->(don++cs).length<=1000->∃o2':Option D,
  Cg (AO 2) (HX (AA 1) (AA 2) (mC .non)) (cs.map csD) [o0,some (.ref Z.length),o2,o3,o4,o5] (Z++[.dC (C5 don)])=some ((.next,[o0,some (.ref Z.length),o2',o3,o4,o5]),Z++[.dC (C5 (don++cs))])
 |[],don,o2,_,_=>⟨o2,by simp;rfl⟩
 |c::cs,don,o2,nd,hl=>by
  have hz:=BV;obtain⟨o2',go⟩:=Np (o0:=o0) (o3:=o3) (o4:=o4) (o5:=o5) cs (don++[c]) (some (csD c)) (by simpa using nd) (by simpa using hl);refine⟨o2',?_⟩;have hn:c∉(C5 don).map (·.1):=by
   rw[LD];intro h;have:=(List.nodup_append.mp nd).2.2 c h c (by simp);exact this rfl
  have hlen:(C5 don).length<sizeLine:=by unfold C5;rw[AAF];simp at hl;omega
  refine Ah (w9:=[o0,some (.ref Z.length),some (csD c),o3,o4,o5]) (w5:=Z++[.dC (C5 don)]) rfl ?_ (by simpa using go);have:=Nr (B:=[o0,some (.ref Z.length),some (csD c),o3,o4,o5]) (Z:=Z++[.dC (C5 don)]) (n:=Z.length) (mo:=AA 1) (mi:=AA 2) (mv:=mC .non) (v:=.non) (c:=c) (L:=C5 don) rfl rfl rfl g1a hlen hn;rw[s1a] at this;have e:C5 don++[(c,D.non)]=C5 (don++[c]):=by unfold C5;simp
  rw[e] at this;exact this
theorem Ik{cs U:List Cs}(nd:cs.Nodup)(hU:∀x∈clo cs,x∈U)(hN:U.length<900)(hw:∀x∈clo cs,x.2.2.length<=100):∃(W:List (Cs×D)) (g:Mh),Wk cs (W.map (·.1)) []/\Bj [.lst (cs.map csD)] Z=some (.ref Z.length,wH Z W [] g):=by
 have hz:=BV;have hlen:cs.length<=899:=by
  have:=Cf nd λx hx=>hU x (mem_clo.mpr ⟨x,hx,Fo x⟩);omega
 obtain⟨o2,fg⟩:=Np (Z:=Z) (o0:=some (.lst (cs.map csD))) (o3:=none) (o4:=none) (o5:=none) cs [] none (by simpa using nd) (by simp;omega);have w0:Wk cs ((C5 cs).map (·.1)) cs:=by
  rw[LD];exact⟨nd,λx h=>h,λx h=>.inl h,λx h=>mem_clo.mpr ⟨x,h,Fo x⟩,λx h=>h⟩
 have hnl:(C5 cs).length=cs.length:=by unfold C5;simp
 obtain⟨W,g,o2',o4',o5',r1,r2,r3,r4⟩:=Ki (Z:=Z) (o0:=some (.lst (cs.map csD))) hU hN hw Fa (C5 cs) cs [] o2 none none (by rw[hnl];unfold Fa;omega) w0 (by omega) (Qr cs) (λo h=>by cases h);refine⟨W,g,r1,?_⟩;refine IL (g:=.dC W::.lst []::g) (x5:=[some (.lst (cs.map csD)),some (.ref Z.length),o2',some (.ref (Z.length+1)),o4',o5']) ?_ rfl (λo ho k=>?_) (by unfold Cl;simp)
 ·refine AT (w9:=[some (.lst (cs.map csD)),some (.ref Z.length),none,none,none,none]) (w5:=Z++[.dC []]) rfl (AT (ET (ds:=cs.map csD) (w5:=Z++[.dC []]) (Bf rfl) fg) (AT (w9:=[some (.lst (cs.map csD)),some (.ref Z.length),o2,some (.ref (Z.length+1)),none,none]) (w5:=wH Z (C5 cs) cs []) (Cq (d:=.ref (Z.length+1)) (w5:=wH Z (C5 cs) cs []) ?_ rfl) (AT r4 (Dx (Az rfl)))));refine BO (ds:=[.ref Z.length]) (w5:=Z++[.dC (C5 cs)]) rfl ?_;show bnd (Ie (.ref Z.length)) _ _=_;rw[AM (JY g1a)];show some (D.ref (Z++[MO.dC (C5 cs)]).length,Z++[MO.dC (C5 cs)]++[MO.lst ((C5 cs).map λy=>csD y.1)])=_;have e:(C5 cs).map (λy=>csD y.1)=cs.map csD:=by unfold C5;rw[List.map_map];rfl
  rw[e,AAm];simp
 ·rcases AAI.mp ho with rfl|ho
  ·exact r2 k
  ·rcases AAI.mp ho with rfl|ho
   ·show ClL k [];unfold ClL;trivial
   ·exact r3 o ho k
end
end K16
set_option maxHeartbeats 4000000
namespace Wb
open PySem Nk
open K13 (Ev)
noncomputable def GW(v:Int)(c:Cs):Cs:=(c.1,v,c.2.2)
noncomputable def GX(r:Nat)(c:Cs):Cs:=(c.1,c.2.1,c.2.2.set r (-2))
noncomputable def Fb(c:Cs):Option Cs:=if c.2.1=-2 then some (c.1,-1,c.2.2) else none
noncomputable def Dd(r:Nat)(v:Int)(c:Cs):Option Cs:=if c.2.2[r]?=some v then some (c.1,c.2.1,c.2.2.set r (-1)) else none
noncomputable def pre(S:List Cs):Ev->List Cs
 | .wb v=>S.map (GW v)
 | .we=>S.filterMap Fb
 | .rb r=>S.map (GX r)
 | .re r v=>S.filterMap (Dd r v)
noncomputable def GN(S:List Cs):Ev->Bool
 | .re r v=>(S.filterMap (Dd r v)).isEmpty
 |_=>false
noncomputable def GJ:List Cs->List Ev->Bool
 |_,[]=>true
 |S,e::es=>if GN S e=true then false else GJ (clo (pre S e)) es
theorem nodup_map_on:∀{xs:List α},(∀a∈xs,∀b∈xs,f a=f b->a=b)->xs.Nodup->(xs.map f).Nodup
 |[],_,_=>List.nodup_nil
 |x::xs,h,nd=>by
  obtain⟨n1,n2⟩:=List.nodup_cons.mp nd;rw[AAW];refine List.nodup_cons.mpr ⟨λz=>?_,nodup_map_on (λa ha b hb=>h a (AAQ _ ha) b (AAQ _ hb)) n2⟩;obtain⟨y,hy,e⟩:=AAL.mp z;have:=h y (AAQ _ hy) x AAP e;exact n1 (this ▸ hy)
theorem nodup_fm_on:∀{xs:List α},(∀a∈xs,∀b∈xs,∀y,f a=some y->f b=some y->a=b)->xs.Nodup->(xs.filterMap f).Nodup
 |[],_,_=>List.nodup_nil
 |x::xs,h,nd=>by
  obtain⟨n1,n2⟩:=List.nodup_cons.mp nd;have ih:=nodup_fm_on (λa ha b hb=>h a (AAQ _ ha) b (AAQ _ hb)) n2;rw[List.filterMap_cons];split
  ·exact ih
  ·rename_i y e;refine List.nodup_cons.mpr ⟨λz=>?_,ih⟩;obtain⟨w,hw,ew⟩:=List.mem_filterMap.mp z;have:=h w (AAQ _ hw) x AAP y ew e;exact n1 (this ▸ hw)
theorem Jn{i:Nat}{a b v:Int}:∀{xs ys:List Int},xs[i]?=some a->ys[i]?=some a->xs.set i v=ys.set i v->xs=ys
 |[],_,h,_,_=>by simp at h
 |_::_,[],_,h,_=>by simp at h
 |x::xs,y::ys,h1,h2,e=>by
  cases i with
  |zero=>
   simp at h1 h2 e;rw[h1,h2,e]
  |succ i=>
   simp at h1 h2 e;rw[e.1,Jn (b:=b) h1 h2 e.2]
theorem J5(h:∀x,x∈K↔x∈S)(e:Ev)(x:Cs):x∈pre K e↔x∈pre S e:=by
 cases e<;>simp only[pre,AAL,List.mem_filterMap,h]
theorem UI(h:∀x,x∈cs↔x∈ds)(x:Cs):x∈clo cs↔x∈clo ds:=by
 rw[mem_clo,mem_clo];constructor
 ·rintro⟨c,h1,h2⟩;exact⟨c,(h c).mp h1,h2⟩
 ·rintro⟨c,h1,h2⟩;exact⟨c,(h c).mpr h1,h2⟩
end Wb
set_option maxHeartbeats 4000000
namespace K16
open PySem L2 Mi Nk Wb
open K13 (BB Be Am As po pn pc pd pq pa piT piF pr peT peF GC Bv BV DF BC CC Ah Bf EG CI Bu DL hdD Fv IA Ev Cz Hk bS Ev.beg Ev.hand Ev.val)
section
variable{Z g:Mh}{x5:Sl}{d:D}{ds es:List D}{sz bg:Int}{ns:List Str}
noncomputable def mkK(kd:Str)(sz bg:Int)(ns:List Str):D:=.tup [.str kd,.int sz,.int bg,.tup [],.tup (ns.map hdD)]
noncomputable abbrev mkW(sz bg:Int)(ns:List Str):D:=mkK "whole" sz bg ns
noncomputable def clW(K:List Cs):D:=.tup (K.map csD)
noncomputable def oC:Option Cs->D
 |some c=>csD c
 |none=>.non
theorem cl_clW(k:Nat)(K:List Cs):Cl k (clW K):=by unfold clW Cl;exact BB (D9 k) K
theorem YG(h:S[0]?=some (some (mkW sz bg ns))):AL (mOp AW (mOp AH (AA 0) (mC (.int 0))) (mC (.str "whole"))) S Z=some (true,Z):=
 AV (po (x:=.str "whole") (y:=.str "whole") (po (x:=mkW sz bg ns) (y:=.int 0) (Az h) rfl rfl) rfl (by rw[Fv (by decide +kernel) (by decide +kernel)];simp))
theorem v_begunW(h:ns.length<=1000)(h2:2<=ns.length):Aj [mkW sz bg ns] Z=some (clW [(bg,-1,List.replicate (ns.length-1) (-1))],Z):=by
 have hz:=BV;refine An (g:=[]) (x5:=[some (mkW sz bg ns),some (.int ((ns.length:Int)-1))]) ?_ rfl (cl_clW _ _);rw[AAa];refine pq (pa (d:=.int ((ns.length:Int)-1)) (po (x:=.int ns.length) (y:=.int 1) (pd (ds:=[.tup (ns.map hdD)]) rfl ?_) rfl rfl) rfl) (DQ (piT (YG rfl) (pr (pd (ds:=[csD (bg,-1,List.replicate (ns.length-1) (-1))]) (pc (pd (ds:=[.int bg,.int (-1),.tup ((List.replicate (ns.length-1) (-1)).map D.int)]) (pc (x:=.int bg) rfl (pc (x:=.int (-1)) rfl (pc (po (x:=.tup [.int (-1)]) (y:=.int ((ns.length:Int)-1)) rfl rfl ?_) rfl))) (Am (by simp;omega))) rfl) (Am (by simp;omega))))))
 ·show some (D.int (((ns.map hdD).length:Nat):Int),Z)=_;rw[AAF]
 ·show (if [D.int (-1)]≠[]/\[D.int (-1)].length<=1000/\1<=((ns.length:Int)-1)/\((ns.length:Int)-1)<=1000 then some (D.tup (List.replicate ((ns.length:Int)-1).toNat [D.int (-1)]).flatten,Z) else none)=_;rw[if_pos ⟨by simp,by simp,by omega,by omega⟩,IA,List.map_replicate,show ((ns.length:Int)-1).toNat=ns.length-1 by omega]
theorem v_cbW:BA [csD c,.int 0,.int v] Z=some (csD (GW v c),Z):=by
 have hz:=BV;refine An (g:=[]) (x5:=[some (csD c),some (.int 0),some (.int v)]) ?_ rfl (D9 _ _);rw[AAa];exact DQ (piT (AV (po (x:=.int 0) (y:=.int 0) rfl rfl DF)) (pr (pd (ds:=[.int c.1,.int v,.tup (c.2.2.map D.int)]) rfl (Am (by simp;omega)))))
theorem Mq{ts:List Int}(h:r<ts.length)(hl:ts.length<=1000):Aa [.tup (ts.map D.int),.int r,.int v] Z=some (.tup ((ts.set r v).map D.int),Z):=by
 rw[Nu,GC (by rw[AAF];exact h) (by rw[AAF];exact hl) (λk=>BB (Be k) _) (λk=>Be k _),List.map_set]
theorem v_cbR{c:Cs}(h:r<c.2.2.length)(hl:c.2.2.length<=1000):BA [csD c,.int ((r:Int)+1),.int v] Z=some (csD (GX r c),Z):=by
 have hz:=BV;refine An (g:=[]) (x5:=[some (csD c),some (.int ((r:Int)+1)),some (.int v)]) ?_ rfl (D9 _ _);rw[AAa];refine pq (piF (AV ((po (x:=.int ((r:Int)+1)) (y:=.int 0) rfl rfl DF).trans (by rw[AAf.mpr (by omega)]))) rfl) (pr (pd (ds:=[.int c.1,.int c.2.1,.tup ((c.2.2.set r (-2)).map D.int)]) (pc (x:=.int c.1) rfl (pc (x:=.int c.2.1) rfl (pc (pd (ds:=[.tup (c.2.2.map D.int),.int r,.int (-2)]) (pc rfl (pc (po (x:=.int ((r:Int)+1)) (y:=.int 1) rfl rfl ?_) rfl)) (Mq h hl)) rfl))) (Am (by simp;omega))));show some (D.int ((r:Int)+1-1),Z)=_;rw[show (r:Int)+1-1=r by omega]
theorem v_ceW:Ay [csD c,.int 0,.int v] Z=some (oC (Fb c),Z):=by
 have hz:=BV;refine An (g:=[]) (x5:=[some (csD c),some (.int 0),some (.int v)]) ?_ rfl (by cases Fb c with|none=>unfold oC Cl;trivial|some c=>exact D9 _ _);rw[AAa];have t:AL (mOp AW (mOp AH (AA 0) (mC (.int 1))) (mC Ez)) [some (csD c),some (.int 0),some (.int v)] Z=some (c.2.1==-2,Z):=AV (po (x:=.int c.2.1) (y:=.int (-2)) rfl rfl DF);refine DQ (piT (AV (po (x:=.int 0) (y:=.int 0) rfl rfl DF)) (pr ?_));unfold Fb;by_cases e:c.2.1=-2
 ·rw[if_pos e];exact peT (t.trans (by rw[e];rfl)) (pd (ds:=[.int c.1,.int (-1),.tup (c.2.2.map D.int)]) rfl (Am (by simp;omega)))
 ·rw[if_neg e];exact peF (t.trans (by rw[AAf.mpr e])) rfl
theorem v_ceR{c:Cs}(h:r<c.2.2.length)(hl:c.2.2.length<=1000):Ay [csD c,.int ((r:Int)+1),.int v] Z=some (oC (Dd r v c),Z):=by
 have hz:=BV;refine An (g:=[]) (x5:=[some (csD c),some (.int ((r:Int)+1)),some (.int v)]) ?_ rfl (by cases Dd r v c with|none=>unfold oC Cl;trivial|some c=>exact D9 _ _);rw[AAa];have er:mOp Do (AA 1) (mC (.int 1)) [some (csD c),some (.int ((r:Int)+1)),some (.int v)] Z=some (.int r,Z):=by
  refine po (x:=.int ((r:Int)+1)) (y:=.int 1) rfl rfl ?_;show some (D.int ((r:Int)+1-1),Z)=_;rw[show (r:Int)+1-1=r by omega]
 have t:AL (mOp AW (mOp AH (mOp AH (AA 0) (mC (.int 2))) (mOp Do (AA 1) (mC (.int 1)))) (AA 2)) [some (csD c),some (.int ((r:Int)+1)),some (.int v)] Z=some (c.2.2[r]==v,Z):=
  AV (po (x:=.int c.2.2[r]) (y:=.int v) (po (x:=.tup (c.2.2.map D.int)) (y:=.int r) rfl er (LL (Bv (by simp[h])))) rfl DF)
 refine pq (piF (AV ((po (x:=.int ((r:Int)+1)) (y:=.int 0) rfl rfl DF).trans (by rw[AAf.mpr (by omega)]))) rfl) (pr ?_);unfold Dd;by_cases e:c.2.2[r]?=some v
 ·rw[if_pos e];have e':c.2.2[r]=v:=by rw[AAt h] at e;exact Option.some.inj e
  refine peT (t.trans (by rw[e'];simp)) (pd (ds:=[.int c.1,.int c.2.1,.tup ((c.2.2.set r (-1)).map D.int)]) (pc (x:=.int c.1) rfl (pc (x:=.int c.2.1) rfl (pc (pd (ds:=[.tup (c.2.2.map D.int),.int r,.int (-1)]) (pc rfl (pc er rfl)) (Mq h hl)) rfl))) (Am (by simp;omega)))
 ·rw[if_neg e];have e':¬c.2.2[r]=v:=λz=>e (by rw[AAt h,z]);exact peF (t.trans (by rw[AAf.mpr e'])) rfl
theorem U0:∀K:List Cs,((K.map λc=>f c).filter λo=>o.isSome).map oC=(K.filterMap f).map csD
 |[]=>rfl
 |c::K=>by
  have ih:=U0 (f:=f) K;rw[AAW,List.filterMap_cons];cases e:f c with
  |none=>rw[List.filter_cons_of_neg (by simp)];exact ih
  |some y=>rw[List.filter_cons_of_pos (by simp),AAW,ih];rfl
theorem v_csEnd(hl:K.length<=1000)(he:∀c∈K,∀Z:Mh,Ay [csD c,.int h,.int v] Z=some (oC (f c),Z)):A7 [clW K,.int h,.int v] Z=some (.lst ((K.filterMap f).map csD),Z):=by
 have hz:=BV;refine An (g:=[]) (x5:=[some (clW K),some (.int h),some (.int v),some (.lst ((K.map λc=>f c).map oC))]) ?_ rfl (by unfold Cl;exact BB (D9 _) _);rw[AAa];refine pq (pa (d:=.lst ((K.map λc=>f c).map oC)) (Bu (ds:=K.map csD) (es:=(K.map λc=>f c).map oC) (EG rfl) (by rw[AAF];omega) ?_ (As (by rw[AAF,AAF];omega))) rfl) (pr (Bu (ds:=(K.map λc=>f c).map oC) (es:=(K.filterMap f).map csD) (Bf rfl) (by rw[AAF,AAF];omega) ?_ (As (by rw[AAF];have:=List.length_filterMap_le f K;omega))))
 ·have:=CI (Z:=Z) (mc:=Dq) (me:=AG Ay (AC (AA 0) (AC (AA 1) (AC (AA 2) AK)))) (z9:=[none,some (.int h),some (.int v)]) (f:=csD) (F:=λc=>oC (f c)) (p:=λ_=>true) (xs:=K) (ys:=[]) (λ_ _=>rfl) (λc hc _=>pd (ds:=[csD c,.int h,.int v]) rfl (he c hc Z));rw[DL,List.nil_append] at this;rw[List.map_map];exact this
 ·have:=CI (Z:=Z) (mc:=AL (mOp (Ej true) (AA 0) (mC .non))) (me:=AA 0) (z9:=[none]) (f:=oC) (F:=oC) (p:=λo=>o.isSome) (xs:=K.map λc=>f c) (ys:=[]) (λo _=>AV (po (x:=oC o) (y:=.non) rfl rfl (by cases o<;>rfl))) (λo _ _=>rfl);rw[List.nil_append,U0] at this;exact this
end
end K16
namespace Wb
open Nk Hs
end Wb
namespace Mi
open PySem L2
def WP{α:Type}(m:M α)(Z:Mh)(Q:α->Mh->Prop):Prop:=∃a Z',m Z=some (a,Z')/\Q a Z'
section
variable{α β:Type}{m:M α}{f:α->M β}{Z Z':Mh}{Q Q':α->Mh->Prop}{R:β->Mh->Prop}{a:α}
theorem Dj(h:m Z=some (a,Z'))(q:Q a Z'):WP m Z Q:=⟨a,Z',h,q⟩
theorem A8(h:WP m Z Q)(k:∀a Z',Q a Z'->Q' a Z'):WP m Z Q':=by
 obtain⟨a,Z',e,q⟩:=h;exact⟨a,Z',e,k a Z' q⟩
theorem BU(h:WP m Z λa w5=>WP (f a) w5 R):WP (bnd m f) Z R:=by
 obtain⟨a,w5,e,b,w6,e2,q⟩:=h;exact⟨b,w6,by rw[AM e];exact e2,q⟩
theorem Ci(q:Q a Z):WP (ret a) Z Q:=⟨a,Z,rfl,q⟩
end
section
variable{B w9:Sl}{Z w5:Mh}{d x y:D}{ds:List D}{ma mb:Sl->M D}{ra:Sl->M (List D)}{tc:Sl->M Bool}{m1 m2:Sl->M (Fl×Sl)}{g:D->D->M D}{QD:D->Mh->Prop}{QB:Bool->Mh->Prop}{QL:List D->Mh->Prop}{QS:Fl×Sl->Mh->Prop}{i j:Int}
theorem SZ{i:Nat}(h:B[i]?=some (some d))(q:QD d Z):WP (AA i B) Z QD:=Dj (Az h) q
theorem Ym(q:QD d Z):WP (mC d B) Z QD:=⟨d,Z,rfl,q⟩
theorem W3(h:WP (ma B) Z λx w5=>WP (mb B) w5 λy w6=>WP (g x y) w6 QD):WP (mOp g ma mb B) Z QD:=BU (A8 h λ_ _ z=>BU z)
theorem Se(h:WP (ra B) Z λds w5=>WP (f ds) w5 QD):WP (AG f ra B) Z QD:=BU h
theorem Sc(q:QL [] Z):WP (AK B) Z QL:=⟨[],Z,rfl,q⟩
theorem PN(h:WP (ma B) Z λx w5=>WP (ra B) w5 λds w6=>QL (x::ds) w6):WP (AC ma ra B) Z QL:=BU (A8 h λ_ _ z=>BU (A8 z λ_ _ z=>Ci z))
theorem PL(h:WP (mc B) Z λb w5=>(b=true->WP (ma B) w5 QD)/\(b=false->WP (mb B) w5 QD)):WP (mIf mc ma mb B) Z QD:=BU (A8 h λb _ z=>by cases b;exact z.2 rfl;exact z.1 rfl)
theorem SY(h:WP (ma B) Z λd w5=>∃b,d=.bl b/\QB b w5):WP (AL ma B) Z QB:=BU (A8 h λ_ _ ⟨b,e,q⟩=>by subst e;exact Ci q)
noncomputable def Pi(m2:Sl->M (Fl×Sl))(QS:Fl×Sl->Mh->Prop):Fl×Sl->Mh->Prop
 |(.next,w9),w5=>WP (m2 w9) w5 QS
 |r,w5=>QS r w5
theorem PR(h:WP (m2 w9) w5 QS):Pi m2 QS (.next,w9) w5:=h
theorem VF(h:QS (.rt d,w9) w5):Pi m2 QS (.rt d,w9) w5:=h
theorem VA(h:WP (m1 B) Z (Pi m2 QS)):WP (AU m1 m2 B) Z QS:=BU (A8 h λr _ z=>by
 obtain⟨fl,w9⟩:=r;cases fl
 ·exact z
 ·exact Ci z
 ·exact Ci z
 ·exact Ci z
 ·exact Ci z)
theorem Sg{i:Nat}(h:WP (ma B) Z λd w5=>QS (.next,B.set i (some d)) w5):WP (Ab ma (AO i) B) Z QS:=BU (A8 h λ_ _ q=>BU (Ci (Ci q)))
theorem VB(h:WP (ma B) Z λd w5=>QS (.rt d,B) w5):WP (A5 ma B) Z QS:=BU (A8 h λ_ _ q=>Ci q)
theorem VC(q:QS (.next,B) Z):WP (Au B) Z QS:=⟨_,Z,rfl,q⟩
noncomputable def ifK(m1 m2:Sl->M (Fl×Sl))(B:Sl)(QS:Fl×Sl->Mh->Prop):Bool->Mh->Prop
 |true,Z=>WP (m1 B) Z QS
 |false,Z=>WP (m2 B) Z QS
theorem Sj(h:WP (m1 B) Z QS):ifK m1 m2 B QS true Z:=h
theorem Sm(h:WP (m2 B) Z QS):ifK m1 m2 B QS false Z:=h
theorem W4(h:WP (tc B) Z (ifK m1 m2 B QS)):WP (sIf tc m1 m2 B) Z QS:=BU (A8 h λb _ z=>by cases b;exact z;exact z)
theorem VE(h:WP (src B) Z λds w5=>WP (Cg bf m1 ds B) w5 QS):WP (FL src bf m1 B) Z QS:=BU h
noncomputable def Ur(I:Sl->Mh->Prop)(QS:Fl×Sl->Mh->Prop):Fl×Sl->Mh->Prop
 |(.next,B),Z=>I B Z
 |(.cont,B),Z=>I B Z
 |(.brk,B),Z=>QS (.next,B) Z
 |(.rt d,B),Z=>QS (.rt d,B) Z
 |(.xc x,B),Z=>QS (.xc x,B) Z
theorem PU(h:I B Z):Ur I QS (.next,B) Z:=h
theorem Lv(I:List D->Sl->Mh->Prop)(step:∀x xs B Z,I (x::xs) B Z->WP (bf x B) Z λw9 w5=>WP (m1 w9) w5 (Ur (I xs) QS))(fin:∀B Z,I [] B Z->QS (.next,B) Z):∀{ds:List D} {B:Sl} {Z:Mh},I ds B Z->WP (Cg bf m1 ds B) Z QS
 |[],B,Z,h=>Ci (fin B Z h)
 |x::xs,B,Z,h=>BU (A8 (step x xs B Z h) λw9 w5 z=>BU (A8 z λr w6 z=>by
   obtain⟨fl,x5⟩:=r;cases fl
   ·exact Lv I step fin z
   ·exact Ci z
   ·exact Lv I step fin z
   ·exact Ci z
   ·exact Ci z))
theorem PP{QT:Sl->Mh->Prop}{i:Nat}(q:QT (B.set i (some d)) Z):WP (AO i d B) Z QT:=⟨_,Z,rfl,q⟩
theorem Sf(h:WP (src B) Z λds w5=>ds.length<=sizeLine/\WP (EU bf tc ma (EF N ix B) ds []) w5 λes w6=>WP (fin es) w6 QD):WP (B2 N ix src bf tc ma fin B) Z QD:=BU (A8 h λds w5 z=>BU (Dj (Q3 z.1 w5) (BU z.2)))
theorem Jb(I:List D->List D->Mh->Prop)(step:∀x xs ys Z,I (x::xs) ys Z->WP (bf x z9) Z λw9 w5=>WP (tc w9) w5 λc w6=>(c=true->WP (ma w9) w6 λy x6=>I xs (ys++[y]) x6)/\(c=false->I xs ys w6))(fin:∀ys Z,I [] ys Z->QL ys Z):∀{ds ys:List D} {Z:Mh},I ds ys Z->WP (EU bf tc ma z9 ds ys) Z QL
 |[],ys,Z,h=>Ci (fin ys Z h)
 |x::xs,ys,Z,h=>BU (A8 (step x xs ys Z h) λw9 w5 z=>BU (A8 z λc w6 z=>by
   cases c
   ·exact Jb I step fin (z.2 rfl)
   ·exact BU (A8 (z.1 rfl) λy x6 z=>Jb I step fin z)))
theorem SW(q:QB true Z):WP (Dq B) Z QB:=⟨true,Z,rfl,q⟩
theorem Sh(q:QD (.int (i+j)) Z):WP (Ap (.int i) (.int j)) Z QD:=⟨_,Z,rfl,q⟩
theorem U8(q:QD (.int (i-j)) Z):WP (Do (.int i) (.int j)) Z QD:=⟨_,Z,rfl,q⟩
theorem Lu(q:QD (.bl (i==j)) Z):WP (AW (.int i) (.int j)) Z QD:=⟨_,Z,rfl,q⟩
theorem Ja(h:ds.length<=sizeLine)(q:QD (.lst ds) Z):WP (B9 ds) Z QD:=by
 refine Dj (a:=.lst ds) (Z':=Z) ?_ q;unfold B9;rw[AM (Q3 h _)];rfl
theorem VD(h2:atI ds i=some d)(q:QD d Z):WP (AH (.tup ds) (.int i)) Z QD:=Dj (LL h2) q
theorem U9(h:WP (ma B) Z λd w5=>WP (N8 d) w5 QL):WP (Cy ma B) Z QL:=BU h
theorem Sa(q:QL ds Z):WP (N8 (.tup ds)) Z QL:=⟨_,Z,rfl,q⟩
theorem Sb(q:QL ds Z):WP (N8 (.lst ds)) Z QL:=⟨_,Z,rfl,q⟩
theorem DN{N ps:Nat}{mb:Sl->M (Fl×Sl)}(hl:ds.length=ps)(h:WP (mb (Bh N ds)) Z λr w6=>∃d x5 gs,r=(.rt d,x5)/\w6=Z++gs/\Cl Z.length d/\QD d Z):WP (A3 .drop N ps mb ds) Z QD:=by
 obtain⟨r,w6,e,d,x5,gs,rfl,rfl,c,q⟩:=h;exact Dj (An e hl c) q
end
mutual
def Pz:D->Prop
 | .non=>True
 | .int _=>True
 | .str x=>PyData.strOk x=true
 | .tup ds=>PzL ds
 | .lst ds=>PzL ds
 |_=>False
def PzL:List D->Prop
 |[]=>True
 |d::ds=>Pz d/\PzL ds
end
mutual
def dpt:D->Nat
 | .tup ds=>Ic ds+1
 | .lst ds=>Ic ds+1
 |_=>0
def Ic:List D->Nat
 |[]=>0
 |d::ds=>max (dpt d) (Ic ds)
end
mutual
def toZ:D->PyData
 | .int i=>.int i
 | .str x=>.str x
 | .tup ds=>.tuple (Di ds)
 | .lst ds=>.list (Di ds)
 |_=>.none
def Di:List D->List PyData
 |[]=>[]
 |d::ds=>toZ d::Di ds
end
mutual
theorem L1(Z:Mh):∀{d:D},Pz d->toP Z d=some (toZ d)
 | .non,_=>rfl
 | .int _,_=>rfl
 | .str _,_=>rfl
 | .tup ds,h=>by unfold Pz at h;unfold toP toZ;rw[Je Z h];rfl
 | .lst ds,h=>by unfold Pz at h;unfold toP toZ;rw[Je Z h];rfl
 | .bl _,h | .ty _,h | .scr _,h | .ref _,h=>by unfold Pz at h;exact h.elim
theorem Je(Z:Mh):∀{ds:List D},PzL ds->FU Z ds=some (Di ds)
 |[],_=>by unfold FU Di;rfl
 |d::ds,h=>by
  unfold PzL at h;unfold FU Di;rw[L1 Z h.1,Je Z h.2];rfl
end
mutual
theorem Jd:∀{d:D},Pz d->PyData.canLay0 (toZ d)=true/\PyData.depth (toZ d)=dpt d
 | .non,_=>⟨rfl,rfl⟩
 | .int _,_=>⟨rfl,rfl⟩
 | .str _,h=>by unfold Pz at h;exact⟨h,rfl⟩
 | .tup ds,h=>by
  unfold Pz at h;obtain⟨h1,h2⟩:=HK h;unfold toZ dpt;exact⟨h1,by show PyData.depthAll (Di ds)+1=_;rw[h2]⟩
 | .lst ds,h=>by
  unfold Pz at h;obtain⟨h1,h2⟩:=HK h;unfold toZ dpt;exact⟨h1,by show PyData.depthAll (Di ds)+1=_;rw[h2]⟩
 | .bl _,h | .ty _,h | .scr _,h | .ref _,h=>by unfold Pz at h;exact h.elim
theorem HK:∀{ds:List D},PzL ds->PyData.canLayAll0 (Di ds)=true/\PyData.depthAll (Di ds)=Ic ds
 |[],_=>by unfold Di Ic;exact⟨rfl,rfl⟩
 |d::ds,h=>by
  unfold PzL at h;obtain⟨h1,h2⟩:=Jd h.1;obtain⟨h3,h4⟩:=HK h.2;unfold Di Ic;refine⟨?_,?_⟩
  ·show (PyData.canLay0 (toZ d)&&PyData.canLayAll0 (Di ds))=true;rw[h1,h3];rfl
  ·show max (PyData.depth (toZ d)) (PyData.depthAll (Di ds))=_;rw[h2,h4]
end
mutual
theorem eqZ:∀{a b:D},Pz a->Pz b->(PyData.eqv (toZ a) (toZ b)=true↔a=b)
 | .non,b,_,hb=>by
  cases b<;>first|exact⟨λ_=>rfl,λ_=>rfl⟩|(unfold Pz at hb;exact hb.elim)|(unfold toZ;exact⟨λz=>(by cases z),λz=>(by cases z)⟩)
 | .int i,b,_,hb=>by
  cases b with
  |int j=>exact⟨λz=>by have:(i==j)=true:=z;rw[beq_iff_eq.mp this],λz=>by cases z;show (i==i)=true;simp⟩
  |_=>first|(unfold Pz at hb;exact hb.elim)|(unfold toZ;exact⟨λz=>(by cases z),λz=>(by cases z)⟩)
 | .str i,b,_,hb=>by
  cases b with
  |str j=>exact⟨λz=>by have:(i==j)=true:=z;rw[beq_iff_eq.mp this],λz=>by cases z;show (i==i)=true;simp⟩
  |_=>first|(unfold Pz at hb;exact hb.elim)|(unfold toZ;exact⟨λz=>(by cases z),λz=>(by cases z)⟩)
 | .tup xs,b,ha,hb=>by
  cases b with
  |tup ys=>
   unfold Pz at ha hb;unfold toZ;have:=Wl ha hb;exact⟨λz=>by rw[this.mp z],λz=>by cases z;exact this.mpr rfl⟩
  |_=>first|(unfold Pz at hb;exact hb.elim)|(unfold toZ;exact⟨λz=>(by cases z),λz=>(by cases z)⟩)
 | .lst xs,b,ha,hb=>by
  cases b with
  |lst ys=>
   unfold Pz at ha hb;unfold toZ;have:=Wl ha hb;exact⟨λz=>by rw[this.mp z],λz=>by cases z;exact this.mpr rfl⟩
  |_=>first|(unfold Pz at hb;exact hb.elim)|(unfold toZ;exact⟨λz=>(by cases z),λz=>(by cases z)⟩)
 | .bl _,_,h,_ | .ty _,_,h,_ | .scr _,_,h,_ | .ref _,_,h,_=>by unfold Pz at h;exact h.elim
theorem Wl:∀{as bs:List D},PzL as->PzL bs->(PyData.eqvAll (Di as) (Di bs)=true↔as=bs)
 |[],[],_,_=>by unfold Di;exact⟨λ_=>rfl,λ_=>rfl⟩
 |[],_::_,_,_=>by unfold Di;exact⟨λz=>(by cases z),λz=>(by cases z)⟩
 |_::_,[],_,_=>by unfold Di;exact⟨λz=>(by cases z),λz=>(by cases z)⟩
 |a::as,b::bs,ha,hb=>by
  unfold PzL at ha hb;unfold Di;have h1:=eqZ ha.1 hb.1;have h2:=Wl ha.2 hb.2;show (PyData.eqv (toZ a) (toZ b)&&PyData.eqvAll (Di as) (Di bs))=true↔_;rw[Bool.and_eq_true,h1,h2];exact⟨λ⟨x,y⟩=>by rw[x,y],λz=>by cases z;exact⟨rfl,rfl⟩⟩
end
section
variable{Z:Mh}{a b:D}{QD:D->Mh->Prop}
theorem Wn(ha:Pz a)(hb:Pz b)(da:dpt a<=64)(db:dpt b<=64):∃e:Bool,(e=true↔a=b)/\Gb neg a b Z=some (.bl (if neg then !e else e),Z):=by
 refine⟨PyData.eqv (toZ a) (toZ b),eqZ ha hb,?_⟩;obtain⟨a1,a2⟩:=Jd ha;obtain⟨b1,b2⟩:=Jd hb;have s1:SeqAt.shaped (toZ a)=true:=by
  show (PyData.canLay0 (toZ a)&&decide (PyData.depth (toZ a)<=64))=true;rw[a1,AAO (by omega)];rfl
 have s2:SeqAt.shaped (toZ b)=true:=by
  show (PyData.canLay0 (toZ b)&&decide (PyData.depth (toZ b)<=64))=true;rw[b1,AAO (by omega)];rfl
 have e1:L3 Z a=some (toZ a):=by
  cases a with
  |ref n=>unfold Pz at ha;exact ha.elim
  |_=>exact L1 Z ha
 have e2:L3 Z b=some (toZ b):=by
  cases b with
  |ref n=>unfold Pz at hb;exact hb.elim
  |_=>exact L1 Z hb
 unfold Gb;rw[e1,e2];exact if_pos ⟨s1,s2⟩
theorem PM(ha:Pz a)(hb:Pz b)(da:dpt a<=64)(db:dpt b<=64)(q:∀e:Bool,(e=true↔a=b)->QD (.bl e) Z):WP (AW a b) Z QD:=by
 obtain⟨e,h1,h2⟩:=Wn (Z:=Z) (neg:=false) ha hb da db;exact Dj h2 (q e h1)
end
end Mi
namespace Mi
section
variable{b:Bool}
theorem PQ{P:Bool->Prop}(h:P b):∃b',D.bl b=D.bl b'/\P b':=⟨b,rfl,h⟩
end
end Mi
local macro_rules | `(tactic| wtm_at "h")=>`(tactic| first|assumption|decide|omega|exact Nat.le_of_ble_eq_true rfl)
local macro_rules | `(tactic| wtm_at "j")=>`(tactic| first
 |(with_reducible apply Mi.VA)|(with_reducible apply Mi.PR)|(with_reducible apply Mi.Sg)|(with_reducible apply Mi.VB)|(with_reducible apply Mi.VF)|(with_reducible apply Mi.wq_expr)|(with_reducible apply Mi.VC)|(with_reducible apply Mi.W4)|(with_reducible apply Mi.Sj)|(with_reducible apply Mi.Sm)|(with_reducible apply Mi.W3)|(with_reducible apply Mi.Ym)|((with_reducible apply Mi.SZ);rfl)|(with_reducible apply Mi.PN)|(with_reducible apply Mi.Sc)|(with_reducible apply Mi.Se)|(with_reducible apply Mi.wq_un)
 |(with_reducible apply Mi.SY)|(with_reducible apply Mi.PQ)|(with_reducible apply Mi.wq_not)|(with_reducible apply Mi.wq_and)|(with_reducible apply Mi.wq_or)|(with_reducible apply Mi.VE)|(with_reducible apply Mi.Sf)|(with_reducible apply Mi.U9)|(with_reducible apply Mi.Sa)|(with_reducible apply Mi.Sb)|(with_reducible apply Mi.wq_rng1)|(with_reducible apply Mi.wq_sl2)|(with_reducible apply Mi.wq_noPart)|(with_reducible apply Mi.wq_part)|(with_reducible apply Mi.wkk_int)
 |(with_reducible apply Mi.Sh)|(with_reducible apply Mi.wq_add)|(with_reducible apply Mi.U8)|(with_reducible apply Mi.wq_lt)|(with_reducible apply Mi.wq_gt)|(with_reducible apply Mi.wq_ge)|(with_reducible apply Mi.Lu)|(with_reducible apply Mi.wq_neI)|(with_reducible apply Mi.wq_isF)|(with_reducible apply Mi.wq_isT)|(with_reducible apply Mi.wq_intB)|(with_reducible apply Mi.wq_neB)|(with_reducible apply Mi.wq_tupT)|(with_reducible apply Mi.wq_tupL)|(with_reducible apply Mi.wq_lenT)|(with_reducible apply Mi.SW)|(with_reducible apply Mi.PP)
 |((with_reducible apply Mi.wq_mod);(wtm_at "h"))|((with_reducible apply Mi.wq_fdiv);(wtm_at "h");(wtm_at "h"))|((with_reducible apply Mi.wq_newT);(wtm_at "h"))|((with_reducible apply Mi.Ja);(wtm_at "h"))|((with_reducible apply Mi.wq_newB);(wtm_at "h"))|((with_reducible apply Mi.VD);rfl)|((with_reducible apply Mi.wq_ixL);rfl))
local macro_rules | `(tactic| wtm_at "c")=>`(tactic| repeat wtm_at "j")
namespace Mi
open PySem L2
section
variable{w9:Sl}{Z w5:Mh}{x y:D}{ma:Sl->M D}{tc:Sl->M Bool}{QD:D->Mh->Prop}{QL:List D->Mh->Prop}
theorem Kh{α:Type}(f:α->D)(p:α->Bool)(F:α->D){bf:D->Sl->M Sl}{z9:Sl}{xs:List α}(h:∀a∈xs,WP (bf (f a) z9) Z λw9 w5=>w5=Z/\WP (tc w9) Z λc w6=>c=p a/\w6=Z/\(p a=true->WP (ma w9) Z λy x6=>y=F a/\x6=Z))(q:QL ((xs.filter p).map F) Z):WP (EU bf tc ma z9 (xs.map f) []) Z QL:=by
 refine Jb (I:=λrest ys Z'=>∃a b,a++b=xs/\rest=b.map f/\ys=(a.filter p).map F/\Z'=Z) (λz zs ys Z' hI=>?_) (λys Z' hI=>?_) ⟨[],xs,rfl,rfl,rfl,rfl⟩
 ·obtain⟨a,b,hab,hr,rfl,rfl⟩:=hI;cases b with
  |nil=>cases hr
  |cons w b=>
   rw[AAW] at hr;obtain⟨e1,e2⟩:=List.cons.inj hr;subst e1;have hw:w∈xs:=by rw[←hab];simp
   refine A8 (h w hw) λw9 w5 ⟨e,z⟩=>?_;subst e;refine A8 z λc w6 ⟨e3,e4,z2⟩=>?_;subst e3 e4;refine⟨λhc=>A8 (z2 hc) λy x6 ⟨e5,e6⟩=>?_,λhc=>?_⟩
   ·subst e5 e6;exact⟨a++[w],b,by rw[←hab];simp,e2,by rw[List.filter_append,AAX,List.filter_cons_of_pos hc];rfl,rfl⟩
   ·exact⟨a++[w],b,by rw[←hab];simp,e2,by rw[List.filter_append,AAX,List.filter_cons_of_neg (by rw[hc];exact AAh)];simp,rfl⟩
 ·obtain⟨a,b,hab,hr,rfl,rfl⟩:=hI;cases b with
  |cons w b=>cases hr
  |nil=>
   rw[AAa] at hab;subst hab;exact q
theorem Ls{x y:Str}(h1:PyData.strOk x=true)(h2:PyData.strOk y=true)(q:QD (.bl (x==y)) Z):WP (AW (.str x) (.str y)) Z QD:=by
 refine PM (by unfold Pz;exact h1) (by unfold Pz;exact h2) (by show 0<=64;omega) (by show 0<=64;omega) λe he=>?_;have:e=(x==y):=by
  rw[Bool.eq_iff_iff,he,beq_iff_eq];exact⟨λz=>by cases z;rfl,λz=>by rw[z]⟩
 rw[this];exact q
end
end Mi
namespace K12
open PySem L2 Mi Ht Nk Hs Wb
end K12
namespace Mi
open PySem L2
end Mi
namespace K12
open PySem L2 Mi Ht Nk Hs Wb
section
structure Cl1(cs K:List Cs):Prop where
 nd:K.Nodup
 mem:∀x,x∈K↔x∈clo cs
 up:K.Pairwise λx y=>cLt x y=true
end
end K12
namespace Wb
open Nk Hs
noncomputable def tlU(ws:List Int):List Bool->List (List Int)
 |[]=>[[]]
 |b::is=>(if b then [(-1:Int)] else -2::ws).flatMap λv=>(tlU ws is).map (v::·)
theorem mem_tlU:t∈tlU ws (b::is)↔∃v r,t=v::r/\(if b then v=-1 else v=-2∨v∈ws)/\r∈tlU ws is:=by
 show t∈((if b then [(-1:Int)] else -2::ws).flatMap λv=>(tlU ws is).map (v::·))↔_;rw[List.mem_flatMap];constructor
 ·rintro⟨v,hv,h⟩;obtain⟨r,hr,rfl⟩:=AAL.mp h;refine⟨v,r,rfl,?_,hr⟩;cases b<;>simpa using hv
 ·rintro⟨v,r,rfl,hv,hr⟩;refine⟨v,?_,AAL.mpr ⟨r,hr,rfl⟩⟩;cases b<;>simpa using hv
theorem Jg:∀{is:List Bool} {t:List Int},t∈tlU ws is->t.length=is.length
 |[],t,h=>by
  have:t=[]:=by simpa[tlU] using h
  subst this;rfl
 |b::is,t,h=>by
  obtain⟨v,r,rfl,_,hr⟩:=mem_tlU.mp h;simp[Jg hr]
theorem L4:∀{is:List Bool} {t:List Int} {r:Nat} {b:Bool},t∈tlU ws is->is[r]?=some b->∃v,t[r]?=some v/\(if b then v=-1 else v=-2∨v∈ws)
 |[],_,_,_,_,e=>by simp at e
 |b0::is,t,r,b,h,e=>by
  obtain⟨v,t',rfl,hv,ht⟩:=mem_tlU.mp h;cases r with
  |zero=>simp at e;subst e;exact⟨v,rfl,hv⟩
  |succ r=>simpa using L4 (r:=r) ht (by simpa using e)
theorem Jf:∀{is:List Bool} {t:List Int} {r:Nat} {b:Bool} {v:Int},t∈tlU ws is->(if b then v=-1 else v=-2∨v∈ws)->t.set r v∈tlU ws (is.set r b)
 |[],t,r,b,v,h,_=>by
  have:t=[]:=by simpa[tlU] using h
  subst this;exact h
 |b0::is,t,r,b,v,h,hv=>by
  obtain⟨u,t',rfl,hu,ht⟩:=mem_tlU.mp h;cases r with
  |zero=>exact mem_tlU.mpr ⟨v,t',rfl,hv,ht⟩
  |succ r=>exact mem_tlU.mpr ⟨u,t'.set r v,rfl,hu,Jf ht hv⟩
theorem Mv(ws:List Int):∀is:List Bool,(tlU ws is).length<=(1+ws.length) ^ is.length
 |[]=>by simp[tlU]
 |b::is=>by
  have h:(tlU ws (b::is)).length=(if b then [(-1:Int)] else -2::ws).length * (tlU ws is).length:=by
   show ((if b then [(-1:Int)] else -2::ws).flatMap λv=>(tlU ws is).map (v::·)).length=_;generalize (if b then [(-1:Int)] else -2::ws)=l
   induction l with
   |nil=>simp
   |cons x l ih=>rw[List.flatMap_cons,AAG,ih,AAF,AAH,Nat.add_mul,Nat.one_mul,Nat.add_comm]
  rw[h,AAH,Nat.pow_succ,Nat.mul_comm];refine Nat.mul_le_mul (Mv ws is) ?_;cases b<;>simp<;>omega
noncomputable def Uc(ws:List Int)(is:List Bool)(a:Int):Option Int->List Cs
 |none=>(tlU ws is).map λt=>(a,-1,t)
 |some b=>(tlU ws is).map (λt=>(a,b,t))++(tlU ws is).map λt=>(b,-2,t)
theorem mem_Uc:c∈Uc ws is a m↔c.2.2∈tlU ws is/\(match m with|none=>c.1=a/\c.2.1=-1|some b=>(c.1=a/\c.2.1=b)∨(c.1=b/\c.2.1=-2)):=by
 cases m with
 |none=>
  show c∈(tlU ws is).map (λt=>(a,-1,t))↔_;rw[AAL];constructor
  ·rintro⟨t,ht,rfl⟩;exact⟨ht,rfl,rfl⟩
  ·rintro⟨ht,h1,h2⟩;exact⟨c.2.2,ht,by rw[←h1,←h2]⟩
 |some b=>
  show c∈(tlU ws is).map (λt=>(a,b,t))++(tlU ws is).map (λt=>(b,-2,t))↔_;rw[AAJ,AAL,AAL];constructor
  ·rintro(⟨t,ht,rfl⟩|⟨t,ht,rfl⟩)
   ·exact⟨ht,.inl ⟨rfl,rfl⟩⟩
   ·exact⟨ht,.inr ⟨rfl,rfl⟩⟩
  ·rintro⟨ht,⟨h1,h2⟩|⟨h1,h2⟩⟩
   ·exact .inl ⟨c.2.2,ht,by rw[←h1,←h2]⟩
   ·exact .inr ⟨c.2.2,ht,by rw[←h1,←h2]⟩
theorem W0(ws:List Int)(is:List Bool)(a:Int)(m:Option Int):(Uc ws is a m).length<=2 * (1+ws.length) ^ is.length:=by
 have:=Mv ws is;cases m with
 |none=>unfold Uc;rw[AAF];omega
 |some b=>unfold Uc;rw[AAG,AAF,AAF];omega
end Wb
namespace K12
open PySem L2 Mi Ht Nk Hs Wb
end K12
namespace K41
open PySem L2 Mi
end K41
namespace K41
open PySem L2 Mi Ht Nk Hs
end K41
namespace Mi
open PySem L2
end Mi
namespace K41
open PySem L2 Mi Ht Nk Hs
end K41
namespace K12
open PySem L2 Mi Ht Nk Hs Wb
section
variable{v:Int}{r:Nat}
theorem DS{c y:Cs}(h:Fb c=some y):c.2.1=-2/\y=(c.1,-1,c.2.2):=by
 unfold Fb at h;split at h
 ·exact⟨by assumption,(Option.some.inj h).symm⟩
 ·cases h
theorem DT{c y:Cs}(h:Dd r v c=some y):c.2.2[r]?=some v/\y=(c.1,c.2.1,c.2.2.set r (-1)):=by
 unfold Dd at h;split at h
 ·exact⟨by assumption,(Option.some.inj h).symm⟩
 ·cases h
end
theorem LB:PyData.strOk ("whole" : Str)=true:=by decide +kernel
theorem Ii{Z:Mh}{QD:D->Mh->Prop}(q:QD (.bl true) Z):WP (AW (.str "whole") (.str "whole")) Z QD:=Ls LB LB (by rw[beq_self_eq_true];exact q)
noncomputable abbrev mwD(sz bg:Int)(hs:List D):D:=.tup [.str "whole",.int sz,.int bg,.tup [],.tup hs]
noncomputable abbrev clD(cs:List Cs):D:=.tup (cs.map csD)
theorem E6(k:Nat)(cs:List Cs):Cl k (clD cs):=K16.cl_clW k cs
section
variable{v:Int}{cs:List Cs}{r:Nat}
noncomputable def HJ(cs:List Cs)(r:Nat)(v:Int):List Cs:=cs.filterMap (Dd r v)
end
end K12
set_option maxHeartbeats 4000000
namespace K16
open PySem L2 Mi Nk Wb Ht K13
end K16
set_option maxHeartbeats 4000000
namespace K16
open PySem L2 Mi Nk Wb Ht K13
section
variable{Z w5 w6 x6:Mh}{B w9:Sl}{d:D}{ds es:List D}{n:Nat}
variable{sz bg:Int}{ns:List Str}{kd:Str}
theorem Kd(N:Ns ns):∀(es:List Ev) (k:Nat) (L:List (Key×D)) (G:Nat->Bool) (as:List D) (b:Int) (o6 o7 o8:Option D),(∀e∈es,e.Ok ns sz)->wfG G es->DG L G->L.length+es.length<=1000->as.length+es.length<=1000->
  ∃(gs:List Int) (L':List (Key×D)) (b':Int) (o6' o7' o8':Option D),gs.length=es.length /\
   Cg (Gs [6,7]) ZT (Ct k (es.map (evD ns))) [some (mkK kd sz bg ns),some (.lst ev),some (.lst (ns.map D.str)),some (.ref Z.length),some (.ref (Z.length+1)),some (.int b),o6,o7,o8] (Z++[.dK L,.lst as]) =
    some ((.next,[some (mkK kd sz bg ns),some (.lst ev),some (.lst (ns.map D.str)),some (.ref Z.length),some (.ref (Z.length+1)),some (.int b'),o6',o7',o8']),Z++[.dK L',.lst (as++(es.zip gs).map λp=>Cz p.1 p.2)])
 |[],k,L,G,as,b,o6,o7,o8,_,_,_,_,_=>⟨[],L,b,o6,o7,o8,rfl,by simp[Ct];rfl⟩
 |e::es,k,L,G,as,b,o6,o7,o8,ok,wf,dg,hL,hA=>by
  have hz:=BV;have eo:=ok e (by simp);obtain⟨w1,w2⟩:=wf;rw[AAH] at hL hA;have t1:∀(S:Sl) (M:Mh),S[7]?=some (some (evD ns e))->S[2]?=some (some (.lst (ns.map D.str)))->S[0]?=some (some (mkK kd sz bg ns))->sIf (Gq (AL (AG BE (AC (AA 7) (AC (AA 2) (AC (mOp AH (AA 0) (mC (.int 1))) AK)))))) DW Au S M=some ((.next,S),M):=λS M h7 h2 h0=>
   piF (MX (b:=true) (AV (pd (ds:=[evD ns e,.lst (ns.map D.str),.int sz]) (pc (Az h7) (pc (Az h2) (pc (po (x:=mkK kd sz bg ns) (y:=.int 1) (Az h0) rfl rfl) rfl))) (Sv N eo)))) rfl
  have t2:∀(S:Sl) (M:Mh),S[7]?=some (some (evD ns e))->S[2]?=some (some (.lst (ns.map D.str)))->Ab (Ak Hw (AA 2) (AC (mOp AH (AA 7) (mC (.int 1))) AK)) (AO 8) S M=some ((.next,S.set 8 (some (.int e.hand))),M):=λS M h7 h2=>
   pa (CW (x:=.lst (ns.map D.str)) (w5:=M) (w6:=M) (x6:=M) (ds:=[.str (nm ns e.hand)]) (Az h2) rfl (pc (po (x:=evD ns e) (y:=.int 1) (Az h7) rfl (by cases e<;>rfl)) rfl) (YE N eo.h)) rfl
  have tb:∀(S:Sl) (M:Mh),S[7]?=some (some (evD ns e))->mOp AW (mOp AH (AA 7) (mC (.int 0))) (mC (.str "begin")) S M=some (.bl e.beg,M):=λS M h7=>po (x:=.str (bS e.beg)) (y:=.str "begin") (po (x:=evD ns e) (y:=.int 0) (Az h7) rfl (by cases e<;>rfl)) rfl Hk;have te:∀(S:Sl) (M:Mh),S[7]?=some (some (evD ns e))->AL (mOp AW (mOp AH (AA 7) (mC (.int 0))) (mC (.str "end"))) S M=some (!e.beg,M):=λS M h7=>AV (po (x:=.str (bS e.beg)) (y:=.str "end") (po (x:=evD ns e) (y:=.int 0) (Az h7) rfl (by cases e<;>rfl)) rfl Uv);have t3:∀(S:Sl) (M:Mh) (L:List (Key×D)),S[7]?=some (some (evD ns e))->S[8]?=some (some (.int e.hand))->S[3]?=some (some (.ref Z.length))->M[Z.length]?=some (.dK L)->DG L G->sIf (AL (mOp AW (mOp AW (mOp AH (AA 7) (mC (.int 0))) (mC (.str "begin"))) (mOp (LY false) (AA 8) (AA 3)))) DW Au S M=some ((.next,S),M):=λS M L h7 h8 h3 hM dg=>by
   have hv:(Ch L (.inl (e.hand:Int))).isSome=!e.beg:=by
    rcases dg e.hand with ⟨z1,z2⟩|⟨g,z1,z2⟩
    ·rw[z1,←w1,z2];rfl
    ·rw[z1,←w1,z2];rfl
   refine piF (AV (po (x:=.bl e.beg) (y:=.bl (!e.beg)) (tb S M h7) (po (x:=.int e.hand) (y:=.ref Z.length) (Az h8) (Az h3) (by rw[WQ hM,hv])) ?_)) rfl;rw[Uu];cases e.beg<;>rfl
  cases hb:e.beg with
  |true=>
   have dg1:=dg.put e.hand b;rw[hb] at w2;obtain⟨gs,L',b',o6',o7',o8',hl,go⟩:=Kd N (ev:=ev) es (k+1) (Cw L (.inl (e.hand:Int)) (.int b)) (λh=>if h=e.hand then true else G h) (as++[Cz e b]) (b+1) (some (.int k)) (some (evD ns e)) (some (.int e.hand)) (λx hx=>ok x (by simp[hx])) w2 dg1 (by have:=Gz L (.inl (e.hand:Int)) (.int b);omega) (by simp;omega);refine⟨b::gs,L',b',o6',o7',o8',by simp[hl],?_⟩;have ez:as++List.map (λp:Ev×Int=>Cz p.1 p.2) ((e,b)::es.zip gs)=as++[Cz e b]++(es.zip gs).map (λp=>Cz p.1 p.2):=by simp
   rw[List.zip_cons_cons,ez];refine Ah (x:=.tup [.int k,evD ns e]) (w9:=[some (mkK kd sz bg ns),some (.lst ev),some (.lst (ns.map D.str)),some (.ref Z.length),some (.ref (Z.length+1)),some (.int b),some (.int k),some (evD ns e),o8]) (w5:=Z++[.dK L,.lst as]) rfl ?_ go;refine AT (t1 _ _ rfl rfl rfl) (AT (t2 _ _ rfl rfl) (AT (t3 _ _ L rfl rfl rfl g2a dg) (AT (w9:=[some (mkK kd sz bg ns),some (.lst ev),some (.lst (ns.map D.str)),some (.ref Z.length),some (.ref (Z.length+1)),some (.int (b+1)),some (.int k),some (evD ns e),some (.int e.hand)]) (w5:=Z++[.dK (Cw L (.inl (e.hand:Int)) (.int b)),.lst as]) (Bt (w5:=Z++[.dK L,.lst as]) (AV ((tb _ _ rfl).trans (by rw[hb]))) (AT (w9:=[some (mkK kd sz bg ns),some (.lst ev),some (.lst (ns.map D.str)),some (.ref Z.length),some (.ref (Z.length+1)),some (.int b),some (.int k),some (evD ns e),some (.int e.hand)]) (w5:=Z++[.dK (Cw L (.inl (e.hand:Int)) (.int b)),.lst as]) ?_ (pa (po (x:=.int b) (y:=.int 1) rfl rfl rfl) rfl))) (AT (w5:=Z++[.dK (Cw L (.inl (e.hand:Int)) (.int b)),.lst (as++[Cz e b])]) (CY (d:=.non) (CW (x:=.ref (Z.length+1)) (ds:=[Cz e b]) (w5:=Z++[.dK (Cw L (.inl (e.hand:Int)) (.int b)),.lst as]) (w6:=Z++[.dK (Cw L (.inl (e.hand:Int)) (.int b)),.lst as]) (x6:=Z++[.dK (Cw L (.inl (e.hand:Int)) (.int b)),.lst as]) rfl (BC g2b) (pc (SI eo rfl rfl rfl (Nc g2a (by rw[Dk,if_pos rfl]))) rfl) ?_)) (Bc (w5:=Z++[.dK (Cw L (.inl (e.hand:Int)) (.int b)),.lst (as++[Cz e b])]) ((te _ _ rfl).trans (by rw[hb];rfl)) rfl)))))
   ·have:=Rf (B:=[some (mkK kd sz bg ns),some (.lst ev),some (.lst (ns.map D.str)),some (.ref Z.length),some (.ref (Z.length+1)),some (.int b),some (.int k),some (evD ns e),some (.int e.hand)]) (Z:=Z++[.dK L,.lst as]) (n:=Z.length) (mo:=AA 3) (mi:=AA 8) (mv:=AA 5) (v:=.int b) (k:=(e.hand:Int)) rfl rfl rfl g2a (by omega);rw[s2a] at this;exact this
   ·rw[CC g2b (by omega),s2b]
  |false=>
   have dg1:=dg.drop e.hand;rw[hb] at w1 w2;obtain⟨g,hg⟩:∃g:Int,Ch L (.inl (e.hand:Int))=some (.int g):=by
    rcases dg e.hand with ⟨z1,z2⟩|⟨g,z1,z2⟩
    ·rw[w1] at z2;cases z2
    ·exact⟨g,z1⟩
   obtain⟨gs,L',b',o6',o7',o8',hl,go⟩:=Kd N (ev:=ev) es (k+1) (D5 L (.inl (e.hand:Int))) (λh=>if h=e.hand then false else G h) (as++[Cz e g]) b (some (.int k)) (some (evD ns e)) (some (.int e.hand)) (λx hx=>ok x (by simp[hx])) w2 dg1 (by have:=Rj L (.inl (e.hand:Int));omega) (by simp;omega);refine⟨g::gs,L',b',o6',o7',o8',by simp[hl],?_⟩;have ez:as++List.map (λp:Ev×Int=>Cz p.1 p.2) ((e,g)::es.zip gs)=as++[Cz e g]++(es.zip gs).map (λp=>Cz p.1 p.2):=by simp
   rw[List.zip_cons_cons,ez];refine Ah (x:=.tup [.int k,evD ns e]) (w9:=[some (mkK kd sz bg ns),some (.lst ev),some (.lst (ns.map D.str)),some (.ref Z.length),some (.ref (Z.length+1)),some (.int b),some (.int k),some (evD ns e),o8]) (w5:=Z++[.dK L,.lst as]) rfl ?_ go;refine AT (t1 _ _ rfl rfl rfl) (AT (t2 _ _ rfl rfl) (AT (t3 _ _ L rfl rfl rfl g2a dg) (AT (w9:=[some (mkK kd sz bg ns),some (.lst ev),some (.lst (ns.map D.str)),some (.ref Z.length),some (.ref (Z.length+1)),some (.int b),some (.int k),some (evD ns e),some (.int e.hand)]) (w5:=Z++[.dK L,.lst as]) (Bc (w5:=Z++[.dK L,.lst as]) (AV ((tb _ _ rfl).trans (by rw[hb]))) rfl) (AT (w5:=Z++[.dK L,.lst (as++[Cz e g])]) (CY (d:=.non) (CW (x:=.ref (Z.length+1)) (ds:=[Cz e g]) (w5:=Z++[.dK L,.lst as]) (w6:=Z++[.dK L,.lst as]) (x6:=Z++[.dK L,.lst as]) rfl (BC g2b) (pc (SI eo rfl rfl rfl (Nc g2a hg)) rfl) ?_)) (Bt (w5:=Z++[.dK L,.lst (as++[Cz e g])]) ((te _ _ rfl).trans (by rw[hb];rfl)) (CY (d:=.int g) ?_))))))
   ·rw[CC g2b (by omega),s2b]
   ·have:=UE (B:=[some (mkK kd sz bg ns),some (.lst ev),some (.lst (ns.map D.str)),some (.ref Z.length),some (.ref (Z.length+1)),some (.int b),some (.int k),some (evD ns e),some (.int e.hand)]) (Z:=Z++[.dK L,.lst (as++[Cz e g])]) (n:=Z.length) (mo:=AA 3) (mi:=AA 8) (k:=(e.hand:Int)) rfl rfl g2a hg;rw[s2a] at this;exact this
theorem names_comp(h:S[0]?=some (some (mkK kd sz bg ns)))(hl:ns.length<=1000):B2 1 [] (Cy (mOp AH (AA 0) (mC (.int 4)))) (AO 0) Dq (mOp AH (AA 0) (mC (.int 0))) B9 S Z=some (.lst (ns.map D.str),Z):=by
 have hz:=BV;refine Bu (ds:=ns.map hdD) (es:=ns.map D.str) (EG (po (x:=mkK kd sz bg ns) (y:=.int 4) (Az h) rfl rfl)) (by rw[AAF];omega) ?_ (As (by rw[AAF];omega));have:=CI (Z:=Z) (mc:=Dq) (me:=mOp AH (AA 0) (mC (.int 0))) (z9:=[none]) (f:=hdD) (F:=D.str) (p:=λ_=>true) (xs:=ns) (ys:=[]) (λ_ _=>rfl) (λt _ _=>po (x:=hdD t) (y:=.int 0) rfl rfl rfl);rw[DL,List.nil_append] at this;exact this
theorem v_acts(N:Ns ns){es:List Ev}(ok:∀e∈es,e.Ok ns sz)(wf:wfG (λ_=>false) es)(hl:es.length<=100):∃gs:List Int,gs.length=es.length/\BF [mkK kd sz bg ns,.lst (es.map (evD ns))] Z=some (.lst ((es.zip gs).map λp=>Cz p.1 p.2),Z):=by
 have hz:=BV;have hhi:=N.hi;obtain⟨gs,L',b',o6,o7,o8,hgs,go⟩:=Kd (Z:=Z) (kd:=kd) (sz:=sz) (bg:=bg) N (ev:=es.map (evD ns)) es 0 [] (λ_=>false) [] 0 none none none ok wf (λh=>.inl ⟨rfl,rfl⟩) (by simp;omega) (by simp;omega);refine⟨gs,hgs,?_⟩;rw[eq_acts];refine JR (k:=Z.length+1) (x5:=[some (mkK kd sz bg ns),some (.lst (es.map (evD ns))),some (.lst (ns.map D.str)),some (.ref Z.length),some (.ref (Z.length+1)),some (.int b'),o6,o7,o8]) (g:=[.dK L',.lst ((es.zip gs).map λp=>Cz p.1 p.2)]) ?_ rfl (by omega) g2b (BB (λp=>Wq p) _);rw[List.nil_append] at go;refine AT (piF (MX (b:=true) (AV (pd (ds:=[.lst (es.map (evD ns)),.ty "list"]) rfl ?_))) rfl) (AT (w9:=[some (mkK kd sz bg ns),some (.lst (es.map (evD ns))),some (.lst (ns.map D.str)),none,none,none,none,none,none]) (pa (names_comp rfl (by omega)) rfl) (AT (w9:=[some (mkK kd sz bg ns),some (.lst (es.map (evD ns))),some (.lst (ns.map D.str)),some (.ref Z.length),none,none,none,none,none]) (w5:=Z++[.dK []]) rfl (AT (w9:=[some (mkK kd sz bg ns),some (.lst (es.map (evD ns))),some (.lst (ns.map D.str)),some (.ref Z.length),some (.ref (Z.length+1)),none,none,none,none]) (w5:=Z++[.dK [],.lst []]) ?_ (AT (w9:=[some (mkK kd sz bg ns),some (.lst (es.map (evD ns))),some (.lst (ns.map D.str)),some (.ref Z.length),some (.ref (Z.length+1)),some (.int 0),none,none,none]) (w5:=Z++[.dK [],.lst []]) rfl (AT (ET (ds:=Ct 0 (es.map (evD ns))) (w5:=Z++[.dK [],.lst []]) rfl go) (Dx (w5:=Z++[.dK L',.lst ((es.zip gs).map λp=>Cz p.1 p.2)]) rfl))))))
 ·show (EX "list" "list").map (λb=>(D.bl b,Z))=_;rw[show EX "list" "list" = some true from by decide];rfl
 ·refine Cq (d:=.ref (Z.length+1)) (w5:=Z++[.dK [],.lst []]) (BO (ds:=[]) (w5:=Z++[.dK []]) rfl ?_) rfl;show Dz [] (Z++[.dK []])=_;unfold Dz;rw[AM (show lim ([]:List D).length (Z++[.dK []])=some ((),Z++[.dK []]) from by unfold lim;rw[if_pos (by simp)])];simp
end
end K16
set_option maxHeartbeats 4000000
namespace K16
open PySem L2 Mi Nk Wb Ht K13
end K16
set_option maxHeartbeats 4000000
namespace K16
open PySem L2 Mi Nk Wb Ht K13
section
variable{bg:Int}
noncomputable def S0(bg:Int)(m:Nat):List Cs:=[(bg,-1,List.replicate m (-1))]
end
end K16
namespace K15
open PySem L2 Mi Ht Nk Hs Wb
open K13 (BB Be BV)
open K16 (D9 Bj Ik wH JY gA Av Ar A6 BH Af CF)
open K12 (Cl1 clD HJ mwD Ii E6 DS DT)
structure Shp(ws:List Int)(is:List Bool)(a:Int)(m:Option Int):Prop where
 pos:∀w∈ws,0<=w
 ha:a∈ws
 hm:∀b,m=some b->b∈ws
 len:is.length<=3
 few:2 * (1+ws.length) ^ is.length<900
section
variable{ws:List Int}{is:List Bool}{a:Int}{m:Option Int}
theorem SJ(S:Shp ws is a m)(h:c∈Uc ws is a m):c.1∈ws:=by
 obtain⟨_,h⟩:=mem_Uc.mp h;cases m with
 |none=>rw[h.1];exact S.ha
 |some b=>
  rcases h with ⟨h,_⟩|⟨h,_⟩
  ·rw[h];exact S.ha
  ·rw[h];exact S.hm b rfl
theorem Wz(S:Shp ws is a m)(h:c∈Uc ws is a m)(hx:x∈nxt c):x∈Uc ws is a m:=by
 have hw:=SJ S h;obtain⟨ht,hc⟩:=mem_Uc.mp h;rcases mem_nxt.mp hx with ⟨h0,rfl⟩|⟨i,hi,rfl⟩
 ·refine mem_Uc.mpr ⟨ht,?_⟩;cases m with
  |none=>exact absurd (by rw[hc.2] at h0;exact h0) (show ¬(0:Int)<=-1 by decide)
  |some b=>
   rcases hc with ⟨_,h2⟩|⟨_,h2⟩
   ·exact .inr ⟨h2,rfl⟩
   ·exact absurd (by rw[h2] at h0;exact h0) (show ¬(0:Int)<=-2 by decide)
 ·refine mem_Uc.mpr ⟨?_,hc⟩;show c.2.2.set i c.1∈tlU ws is;have hlt:i<c.2.2.length:=(AAT.mp hi).1;have hlt2:i<is.length:=by rw[←Jg ht];exact hlt
  have hb:is[i]?=some is[i]:=by simp[hlt2]
  obtain⟨v,hv,hv2⟩:=L4 ht hb;rw[hi] at hv;cases hv;have hf:is[i]=false:=by
   cases e:is[i] with
   |false=>rfl
   |true=>rw[e] at hv2;have h2:(-2:Int)=-1:=hv2;omega
  have:=Jf (r:=i) (b:=is[i]) (v:=c.1) ht (by rw[hf];exact .inr hw);have e:is.set i is[i]=is:=by simp
  rw[e] at this;exact this
theorem Wy(S:Shp ws is a m)(r:Rch c x)(h:c∈Uc ws is a m):x∈Uc ws is a m:=by
 induction r with
 |refl=>exact h
 |step _ s ih=>exact Wz S ih s
theorem SK(S:Shp ws is a m)(h:∀c∈cs,c∈Uc ws is a m)(hx:x∈clo cs):x∈Uc ws is a m:=by
 obtain⟨c,hc,hr⟩:=mem_clo.mp hx;exact Wy S (rch_iff.mp hr) (h c hc)
end
structure Fit(cs U:List Cs):Prop where
 nd:cs.Nodup
 sub:∀x∈clo cs,x∈U
 few:U.length<900
 len:∀x∈U,x.2.2.length<=3
theorem Wi(S:Shp ws is a m)(nd:cs.Nodup)(h:∀c∈cs,c∈Uc ws is a m):Fit cs (Uc ws is a m) where
 nd:=nd
 sub:=λx hx=>SK S h hx
 few:=AAr (W0 ws is a m) S.few
 len:=λx hx=>by rw[Jg (mem_Uc.mp hx).1];exact S.len
theorem Fit.many(F:Fit cs U):cs.length<=900:=by
 have:=Cf F.nd λx hx=>F.sub x (mem_clo.mpr ⟨x,hx,Fo x⟩);have:=F.few;omega
structure St(ws:List Int)(is:List Bool)(a:Int)(m:Option Int)(cs:List Cs):Prop where
 S:Shp ws is a m
 nd:cs.Nodup
 sub:∀c∈cs,c∈Uc ws is a m
section
variable{ws:List Int}{is:List Bool}{a b v:Int}{m:Option Int}{cs:List Cs}{r:Nat}
theorem St.fit(h:St ws is a m cs):Fit cs (Uc ws is a m):=Wi h.S h.nd h.sub
theorem St.many(h:St ws is a m cs):cs.length<=900:=h.fit.many
theorem St.tl(h:St ws is a m cs)(hc:c∈cs):c.2.2∈tlU ws is:=(mem_Uc.mp (h.sub c hc)).1
theorem St.len(h:St ws is a m cs)(hc:c∈cs):c.2.2.length=is.length:=Jg (h.tl hc)
theorem St.clo(h:St ws is a m cs)(k:Cl1 cs K):St ws is a m K:=⟨h.S,k.nd,λc hc=>SK h.S h.sub ((k.mem c).mp hc)⟩
theorem St.wb(h:St ws is a none cs)(hv:v∈ws):St ws is a (some v) (cs.map (GW v)):=by
 refine⟨⟨h.S.pos,h.S.ha,λb e=>by cases e;exact hv,h.S.len,h.S.few⟩,Wb.nodup_map_on (λx hx y hy z=>?_) h.nd,λc hc=>?_⟩
 ·have e1:=(mem_Uc.mp (h.sub x hx)).2.2;have e2:=(mem_Uc.mp (h.sub y hy)).2.2;obtain⟨a1,a2,a3⟩:=x;obtain⟨b1,b2,b3⟩:=y;simp only[GW,Prod.mk.injEq] at z e1 e2 ⊢;exact⟨z.1,e1.trans e2.symm,z.2.2⟩
 ·obtain⟨x,hx,rfl⟩:=AAL.mp hc;obtain⟨h1,h2,_⟩:=mem_Uc.mp (h.sub x hx);exact mem_Uc.mpr ⟨h1,.inl ⟨h2,rfl⟩⟩
theorem St.we(h:St ws is a (some b) cs):St ws is b none (cs.filterMap Fb):=by
 refine⟨⟨h.S.pos,h.S.hm b rfl,(λ_ e=>nomatch e),h.S.len,h.S.few⟩,Wb.nodup_fm_on (λx hx y hy z e1 e2=>?_) h.nd,λc hc=>?_⟩
 ·obtain⟨q1,r1⟩:=DS e1;obtain⟨q2,r2⟩:=DS e2;have z:=r1.symm.trans r2;obtain⟨a1,a2,a3⟩:=x;obtain⟨b1,b2,b3⟩:=y;simp only[Prod.mk.injEq] at z q1 q2 ⊢;exact⟨z.1,q1.trans q2.symm,z.2.2⟩
 ·obtain⟨x,hx,e⟩:=List.mem_filterMap.mp hc;obtain⟨q1,rfl⟩:=DS e;obtain⟨h1,h2⟩:=mem_Uc.mp (h.sub x hx);refine mem_Uc.mpr ⟨h1,?_,rfl⟩;have hb:=h.S.pos b (h.S.hm b rfl);rcases h2 with ⟨_,z⟩|⟨z,_⟩
  ·omega
  ·exact z
theorem St.get(h:St ws is a m cs)(hc:c∈cs)(ho:is[r]?=some o):∃v,c.2.2[r]?=some v/\(if o then v=-1 else v=-2∨v∈ws):=L4 (h.tl hc) ho
theorem St.rb(h:St ws is a m cs)(ho:is[r]?=some true):St ws (is.set r false) a m (cs.map (GX r)):=by
 refine⟨⟨h.S.pos,h.S.ha,h.S.hm,by rw[AAv];exact h.S.len,by rw[AAv];exact h.S.few⟩,Wb.nodup_map_on (λx hx y hy z=>?_) h.nd,λc hc=>?_⟩
 ·obtain⟨v1,e1,f1⟩:=h.get hx ho;obtain⟨v2,e2,f2⟩:=h.get hy ho;have f1:v1=-1:=f1;have f2:v2=-1:=f2;subst f1 f2;obtain⟨a1,a2,a3⟩:=x;obtain⟨b1,b2,b3⟩:=y;simp only[GX,Prod.mk.injEq] at z e1 e2 ⊢;exact⟨z.1,z.2.1,Jn (b:=0) e1 e2 z.2.2⟩
 ·obtain⟨x,hx,rfl⟩:=AAL.mp hc;obtain⟨h1,h2⟩:=mem_Uc.mp (h.sub x hx);exact mem_Uc.mpr ⟨Jf h1 (.inl rfl),h2⟩
theorem St.re(h:St ws is a m cs):St ws (is.set r true) a m (cs.filterMap (Dd r v)):=by
 refine⟨⟨h.S.pos,h.S.ha,h.S.hm,by rw[AAv];exact h.S.len,by rw[AAv];exact h.S.few⟩,Wb.nodup_fm_on (λx hx y hy z e1 e2=>?_) h.nd,λc hc=>?_⟩
 ·obtain⟨q1,r1⟩:=DT e1;obtain⟨q2,r2⟩:=DT e2;have z:=r1.symm.trans r2;obtain⟨a1,a2,a3⟩:=x;obtain⟨b1,b2,b3⟩:=y;simp only[Prod.mk.injEq] at z q1 q2 ⊢;exact⟨z.1,z.2.1,Jn (b:=0) q1 q2 z.2.2⟩
 ·obtain⟨x,hx,e⟩:=List.mem_filterMap.mp hc;obtain⟨q1,rfl⟩:=DT e;obtain⟨h1,h2⟩:=mem_Uc.mp (h.sub x hx);exact mem_Uc.mpr ⟨Jf (b:=true) h1 rfl,h2⟩
end
section
variable{Z:Mh}
theorem OE{cs U:List Cs}(nd:cs.Nodup)(hU:∀x∈clo cs,x∈U)(hN:U.length<900)(hw:∀x∈clo cs,x.2.2.length<=100):∃K:List Cs,K.Nodup/\(∀x,x∈K↔x∈clo cs)/\K.Pairwise (λx y=>cLt x y=true)/\∀Z:Mh,B3 [.lst (cs.map csD)] Z=some (.tup (K.map csD),Z):=by
 have key:∀Z:Mh,∃K:List Cs,K.Nodup/\(∀x,x∈K↔x∈clo cs)/\K.Pairwise (λx y=>cLt x y=true)/\B3 [.lst (cs.map csD)] Z=some (.tup (K.map csD),Z):=λZ=>by
  have hz:=BV;obtain⟨W,g,w,e⟩:=Ik (Z:=Z) nd hU (by omega) hw;have hl:W.length<1000:=by
   have:=Cf w.nd λx hx=>hU x (w.frm x hx);simp at this;omega
  refine⟨Gp (W.map (·.1)),(DR _).nodup_iff.mpr w.nd,λx=>by rw[(DR _).mem_iff];exact w.done,Ji w.nd,?_⟩;refine An (g:=.dC W::.lst []::g) (x5:=[some (.lst (cs.map csD))]) ?_ rfl (by unfold Cl;exact BB (D9 _) _);refine Dx (BO (ds:=[.lst ((Gp (W.map (·.1))).map csD)]) (w5:=wH Z W [] g) (Co (x:=.lst ((Gp (W.map (·.1))).map csD)) (w5:=wH Z W [] g) (BO (ds:=[.ref Z.length]) (w5:=wH Z W [] g) (Co (x:=.ref Z.length) (w5:=wH Z W [] g) (BO (ds:=[.lst (cs.map csD)]) (w5:=Z) rfl e) rfl) ?_) rfl) rfl);show bnd (Ie (.ref Z.length)) _ _=_;rw[AM (JY gA)];show (if W.length<1000 then some (D.lst ((Gp (W.map (·.1))).map csD),wH Z W [] g) else none)=_;rw[if_pos hl]
 obtain⟨K,k1,k2,k3,_⟩:=key [];refine⟨K,k1,k2,k3,λZ=>?_⟩;obtain⟨K',k1',k2',k3',e⟩:=key Z;have:K'=K:=Pd k3' k3 ((List.perm_ext_iff_of_nodup k1' k1).mpr λx=>(k2' x).trans (k2 x).symm);rw[this] at e;exact e
end
theorem ED{Z:Mh}(F:Fit cs U)(q:∀K,Cl1 cs K->QD (.tup (K.map csD)) Z):WP (B3 [.lst (cs.map csD)]) Z QD:=by
 obtain⟨K,k1,k2,k3,k4⟩:=OE F.nd F.sub F.few (λx hx=>by have:=F.len x (F.sub x hx);omega);exact Dj (k4 Z) (q K ⟨k1,k2,k3⟩)
section
variable{Z:Mh}{QD:D->Mh->Prop}{sz bg v:Int}{hs:List D}{cs U:List Cs}{r:Nat}
theorem Lr(hl:cs.length<=900)(F:Fit (cs.filterMap Fb) U)(q:∀K,Cl1 (cs.filterMap Fb) K->QD (clD K) Z):WP (Ax [mwD sz bg hs,clD cs]) Z QD:=by
 unfold Ax;refine DN rfl ?_;unfold Ar;wtm_at "c";refine Ii ?_;wtm_at "c";refine Dj (K16.v_csEnd (K:=cs) (h:=0) (v:=-1) (f:=Fb) (by omega) λc _ Z=>K16.v_ceW) ?_;wtm_at "c";refine ED F λK k=>?_;exact⟨_,_,[],rfl,by simp,E6 _ _,q K k⟩
theorem SX(hl:cs.length<=900)(hr:∀c∈cs,r<c.2.2.length)(h3:∀c∈cs,c.2.2.length<=3)(F:Fit (HJ cs r v) U)(q0:HJ cs r v=[]->QD .non Z)(q:HJ cs r v≠[]->∀K,Cl1 (HJ cs r v) K->QD (clD K) Z):WP (BN [mwD sz bg hs,clD cs,.int r,.int v]) Z QD:=by
 unfold BN;refine DN rfl ?_;unfold BH;wtm_at "c";refine Ii ?_;wtm_at "c";refine Dj (K16.v_csEnd (K:=cs) (h:=(r:Int)+1) (v:=v) (f:=Dd r v) (by omega) λc hc Z=>K16.v_ceR (hr c hc) (by have:=h3 c hc;omega)) ?_;wtm_at "c";(with_reducible apply PL);refine Dj (a:=!(HJ cs r v).isEmpty) (Z':=Z) ?_ ⟨λh=>?_,λh=>?_⟩
 ·unfold HJ Hf;rw[AM (Az (d:=.lst ((cs.filterMap (Dd r v)).map csD)) rfl)];rw[AM (show BT (.lst ((cs.filterMap (Dd r v)).map csD)) Z=some _ from rfl)];cases cs.filterMap (Dd r v)<;>rfl
 ·wtm_at "c";refine ED F λK k=>?_;exact⟨_,_,[],rfl,by simp,E6 _ _,q (by intro z;rw[z] at h;simp at h) K k⟩
 ·wtm_at "c";exact⟨_,_,[],rfl,by simp,by unfold Cl;trivial,q0 (by simpa using h)⟩
end
end K15
set_option maxHeartbeats 4000000
namespace K15
open PySem L2 Mi Nk Wb Ht
open K13 (Ev Ns Cz DL Bv bS BB CI evD Bu Ah GR BF Aa Hk DF As Am pa pc pd peF peT piF piT po pq pr Bf EG BV wfG Fe)
open K16 (Bd)
end K15
namespace L2
open PySem PySem.Spec PyProof.Rows Sem Ht
end L2
namespace Mi
open PySem L2 Ht
end Mi
set_option maxHeartbeats 2000000
namespace Xt
open PySem PySem.Spec PyProof.Rows Sem L2 Ht
section
variable{s:Shared}
set_option hygiene false in
local macro_rules | `(tactic| wtm_at "s")=>`(tactic| (
 refine AAA (wpAny_storeSet_of (s:={ s with toks:=s.toks+1 }) ho hd ?_ (by rw[sizeLine_eq];unfold scanBound at room;omega));have ho1:=get_put ho hd es1 t2;have sb1:=Heap.SameBut.update s.heap a (Obj.putSet es1 t2);by_cases hf:(!wd&&t2.tooFull)=true
 ·rw[if_pos hf];have rp:=relayAll_perm t2 es1 (SetTable.grown es1.size);have rf:=relayAll_fits t2 es1 (SetTable.grown es1.size);have rl:=relay_led t2 es1 (SetTable.grown es1.size);generalize relayAll t2 es1 (SetTable.grown es1.size)=ry at rp rf rl;obtain⟨es3,t3,gv3⟩:=ry;dsimp only at rp rf rl ⊢;have s3:es3.size=es1.size:=by simpa using rp.length_eq
  cases gv3
  all_goals
   first
    |refine AAA (AAB ?_)
    |refine AAA (wpAny_rule ?_)
   refine AAA (wpAny_storeSet_of (s:={ s with heap:=s.heap.update a (Obj.putSet es1 t2),toks:=s.toks+1 }) ho1 rfl ?_ (by rw[sizeLine_eq];unfold scanBound at room;omega));exact AAB (AAB (wrap es3 t3 _ o _ _ (sb1.trans (Heap.SameBut.update _ a _)) (get_put ho1 rfl es3 t3) rp rf (rl.1.trans fl.2.1) (rl.2 fl.2.2)))
 ·rw[if_neg hf];exact AAB (AAB (wrap es1 t2 _ o _ _ sb1 ho1 (.refl _) fl.1 fl.2.1 fl.2.2))))
end
end Xt
set_option maxHeartbeats 2000000
namespace Xt
open PySem PySem.Spec PyProof.Rows Sem L2 Ht
end Xt
set_option maxHeartbeats 2000000
namespace Xt
open PySem PySem.Spec PyProof.Rows Sem L2 Ht
end Xt
set_option maxHeartbeats 2000000
namespace Xt
open PySem PySem.Spec PyProof.Rows Sem L2 Ht
end Xt
set_option maxHeartbeats 2000000
namespace Xt
open PySem PySem.Spec PyProof.Rows Sem L2 Ht
end Xt
namespace L2
open PySem PySem.Spec PyProof.Rows Sem Ht Xt
end L2
namespace Mi
open PySem L2 Ht Xt
end Mi
namespace Mi
open PySem L2
end Mi
namespace Kst
open PySem L2 Mi
end Kst
namespace Mi
open PySem L2
end Mi
namespace K21
open PySem L2 Mi
end K21
namespace Mi
open PySem L2
end Mi
namespace K21
open PySem L2 Mi
end K21
namespace Mi
open PySem L2
end Mi
namespace K21
open PySem L2 Mi
end K21
namespace Mi
open PySem L2
end Mi
namespace K21
open PySem L2 Mi
end K21
namespace K21
open PySem L2 Mi Xt
end K21
namespace K21
open PySem L2 Mi
end K21
namespace Mi
open PySem L2
end Mi
namespace K21
open PySem L2 Mi
end K21
namespace Mi
open PySem L2
end Mi
namespace K21
open PySem L2 Mi
end K21
namespace Mi
open PySem L2
section
variable{B:Sl}{Z:Mh}{x y:D}{ds:List D}{ma mb:Sl->M D}{QD:D->Mh->Prop}{i j:Int}
theorem SU{x y:Str}(h1:PyData.strOk x=true)(h2:PyData.strOk y=true)(h:(x==y)=true)(q:QD (.bl true) Z):WP (AW (.str x) (.str y)) Z QD:=Ls h1 h2 (by rw[h];exact q)
theorem SV{x y:Str}(h1:PyData.strOk x=true)(h2:PyData.strOk y=true)(h:(x==y)=false)(q:QD (.bl false) Z):WP (AW (.str x) (.str y)) Z QD:=Ls h1 h2 (by rw[h];exact q)
theorem PH(h:i=j)(q:QD (.bl true) Z):WP (AW (.int i) (.int j)) Z QD:=Lu (by rw[beq_iff_eq.mpr h];exact q)
theorem PJ(h:i≠j)(q:QD (.bl false) Z):WP (AW (.int i) (.int j)) Z QD:=Lu (by rw[AAf.mpr h];exact q)
theorem PF(q:QD (.bl true) Z):WP (Ej false .non .non) Z QD:=⟨_,Z,rfl,q⟩
theorem SS{b:Bool}(q:QD (.bl b) Z):WP (Ej b (.tup ds) .non) Z QD:=by cases b<;>exact⟨_,Z,rfl,q⟩
noncomputable def WI(m1 m2:M D)(QD:D->Mh->Prop):Bool->Mh->Prop
 |true,Z=>WP m1 Z QD
 |false,Z=>WP m2 Z QD
theorem SR{mc:Sl->M Bool}(h:WP (mc B) Z (WI (ma B) (mb B) QD)):WP (mIf mc ma mb B) Z QD:=PL (A8 h λb _ z=>by cases b;exact⟨λe=>(nomatch e),λ_=>z⟩;exact⟨λ_=>z,λe=>(nomatch e)⟩)
theorem PB{m1 m2:M D}(h:WP m1 Z QD):WI m1 m2 QD true Z:=h
theorem PD{m1 m2:M D}(h:WP m2 Z QD):WI m1 m2 QD false Z:=h
end
end Mi
local macro_rules | `(tactic| wtm_at "e")=>`(tactic| (decide +kernel))
local macro_rules | `(tactic| wtm_at "f")=>`(tactic| first|omega|(focus (simp;done)))
local macro_rules | `(tactic| wtm_at "l")=>`(tactic| first
 |((with_reducible apply Mi.SV);(wtm_at "e");(wtm_at "e");(wtm_at "e"))|((with_reducible apply Mi.SU);(wtm_at "e");(wtm_at "e");(wtm_at "e"))|((with_reducible apply Mi.wqa_neT);(wtm_at "e");(wtm_at "e");(wtm_at "e"))|((with_reducible apply Mi.wqa_neF);(wtm_at "e");(wtm_at "e");(wtm_at "e"))
 |((with_reducible apply Mi.PH);(wtm_at "f"))|((with_reducible apply Mi.PJ);(wtm_at "f"))|((with_reducible apply Mi.wqa_neIT);(wtm_at "f"))|((with_reducible apply Mi.wqa_neIF);(wtm_at "f"))|((with_reducible apply Mi.wqa_ltT);(wtm_at "f"))|((with_reducible apply Mi.wqa_ltF);(wtm_at "f"))|((with_reducible apply Mi.wqa_gtT);(wtm_at "f"))|((with_reducible apply Mi.wqa_gtF);(wtm_at "f"))|((with_reducible apply Mi.wqa_geT);(wtm_at "f"))|((with_reducible apply Mi.wqa_geF);(wtm_at "f"))|((with_reducible apply Mi.wqa_leT);(wtm_at "f"))
 |(with_reducible apply Mi.PF)|(with_reducible apply Mi.wqa_isNt)|(with_reducible apply Mi.wqa_isI)|(with_reducible apply Mi.SS)|(with_reducible apply Mi.wqa_andT)|(with_reducible apply Mi.wqa_andF)|(with_reducible apply Mi.wqa_orT)|(with_reducible apply Mi.wqa_orF)|(with_reducible apply Mi.SR)|(with_reducible apply Mi.PB)|(with_reducible apply Mi.PD)|(with_reducible apply Mi.wqa_andV)|(with_reducible apply Mi.wqa_andVT)|(with_reducible apply Mi.wqa_andVF)|(with_reducible apply Mi.wqa_orV)|(with_reducible apply Mi.wqa_orVT)|(with_reducible apply Mi.wqa_orVF)|(with_reducible apply Mi.wqa_chain)
 |wtm_at "j")
local macro_rules | `(tactic| wtm_at "d")=>`(tactic| repeat wtm_at "l")
set_option maxHeartbeats 4000000
namespace K15
open PySem L2 Mi Nk Wb Ht
open K13 (Ev Ev.beg Ev.hand Ev.val Cz bS evD hdD Ns nm wfG Be BB BF Aj Fe)
open K16 (Af CF mkK mkW S0)
open K12 (Cl1 clD HJ mwD E6)
structure Bz(G:Nat->Bool)(is:List Bool)(mm:Option Int):Prop where
 w:mm.isSome=G 0
 r:∀r,r<is.length->is[r]?=some (!G (r+1))
section
variable{cs S:List Cs}
theorem HC{cs S K:List Cs}(e:Ev)(h:∀x,x∈cs↔x∈S)(k:Cl1 (pre cs e) K):∀x,x∈K↔x∈clo (pre S e):=λx=>(k.mem x).trans (UI (J5 h e) x)
end
end K15
namespace K15
open Nk Wb
open K13 (Ev Ev.beg Ev.hand Ev.val wfG)
def Cld(S:List Cs):Prop:=∀x∈S,∀y∈nxt x,y∈S
theorem HB(S:List Cs):Cld (clo S):=λx hx y hy=>by
 obtain⟨c,hc,h⟩:=mem_clo.mp hx;exact mem_clo.mpr ⟨c,hc,Js h hy⟩
theorem Hu{S:List Cs}{x y:Cs}(hx:x∈S)(r:Rch x y):y∈clo S:=mem_clo.mpr ⟨x,hx,rch_iff.mpr r⟩
theorem Hc{S:List Cs}{y:Cs}(h:y∈clo S):∃x∈S,Rch x y:=by
 obtain⟨c,hc,r⟩:=mem_clo.mp h;exact⟨c,hc,rch_iff.mp r⟩
noncomputable def one(e:Ev)(x:Cs):Option Cs:=match e with
 | .wb v=>some (GW v x)
 | .we=>Fb x
 | .rb r=>some (GX r x)
 | .re r v=>Dd r v x
theorem mem_one{S:List Cs}{e:Ev}{y:Cs}:y∈pre S e↔∃x∈S,one e x=some y:=by
 cases e<;>simp[pre,one]
theorem not_gone{S:List Cs}{e:Ev}:GN S e=false↔((∃r v,e=.re r v)->∃x∈S,∃y,one e x=some y):=by
 cases e with
 |re r v=>
  show (S.filterMap (Dd r v)).isEmpty=false↔_;constructor
  ·intro h _;cases hf:S.filterMap (Dd r v) with
   |nil=>rw[hf] at h;cases h
   |cons y l=>
    obtain⟨x,hx,e⟩:=List.mem_filterMap.mp (show y∈S.filterMap (Dd r v) by rw[hf];exact AAP);exact⟨x,hx,y,e⟩
  ·intro h;obtain⟨x,hx,y,e⟩:=h ⟨r,v,rfl⟩;cases hf:S.filterMap (Dd r v) with
   |nil=>
    have:y∈S.filterMap (Dd r v):=List.mem_filterMap.mpr ⟨x,hx,e⟩;rw[hf] at this;cases this
   |cons _ _=>rfl
 |_=>exact⟨(λ_ ⟨r,v,z⟩=>by cases z),λ_=>rfl⟩
theorem FD{S:List Cs}{e:Ev}{es:List Ev}:GJ S (e::es)=true↔GN S e=false/\GJ (clo (pre S e)) es=true:=by
 show (if GN S e=true then false else _)=true↔_;cases GN S e with
 |true=>simp
 |false=>simp
end K15
namespace K15
open Nk Wb Ht
open K13 (Ev Ev.beg Ev.hand Ev.val wfG)
abbrev In(sz:Int)(x:Int):Prop:=0<=x/\x<sz
end K15
namespace K15
open Nk Wb Ht
open K13 (Ev Ev.beg Ev.hand Ev.val wfG)
open K16 (S0)
end K15
namespace K15
open PySem Nk Wb Ht
open K13 (Ev Ev.beg Ev.hand Ev.val wfG Ns wf_app gA G0)
open K16 (S0)
variable{sz bg:Int}{m:Nat}
theorem cld_start:Cld (S0 bg m):=λx hx y hy=>by
 rw[AAK.mp hx] at hy;rcases mem_nxt.mp hy with ⟨h0,_⟩|⟨i,hi,_⟩
 ·exact absurd h0 (show ¬(0:Int)<=-1 by decide)
 ·have hi:(List.replicate m (-1:Int))[i]?=some (-2):=hi;rw[List.getElem?_replicate] at hi;split at hi<;>cases hi
noncomputable def wz:List Ev->List Int
 |[]=>[]
 | .wb v::es=>v::wz es
 |_::es=>wz es
theorem mem_wz:∀{es:List Ev},v∈wz es↔Ev.wb v∈es
 |[]=>by simp[wz]
 |e::es=>by
  have ih:=mem_wz (v:=v) (es:=es);cases e<;>simp[wz,ih]
theorem O9:∀{es:List Ev} {G:Nat->Bool},wfG G es->2 * (wz es).length<=es.length+(if G 0 then 0 else 1)
 |[],G,_=>by simp[wz]
 |e::es,G,h=>by
  obtain⟨h1,h2⟩:=h;have ih:=O9 h2;cases e with
  |wb v=>
   have h1:G 0=false:=h1;have ih:2 * (wz es).length<=es.length+0:=ih;rw[h1];show 2 * (v::wz es).length<=(_::es).length+1;rw[AAH,AAH];omega
  |we=>
   have h1:G 0=true:=h1;have ih:2 * (wz es).length<=es.length+1:=ih;rw[h1];show 2 * (wz es).length<=(_::es).length+0;rw[AAH];omega
  |rb r=>
   have ih:2 * (wz es).length<=es.length+(if G 0 then 0 else 1):=ih;show 2 * (wz es).length<=(_::es).length+_;rw[AAH];omega
  |re r v=>
   have ih:2 * (wz es).length<=es.length+(if G 0 then 0 else 1):=ih;show 2 * (wz es).length<=(_::es).length+_;rw[AAH];omega
structure Gd(ns:List Str)(sz bg:Int)(es:List Ev):Prop where
 N:Ns ns
 h0:2<=sz
 h1:sz<=10
 b0:0<=bg
 b1:bg<sz
 wf:wfG (λ_=>false) es
 ok:∀e∈es,e.Ok ns sz
 l1:es.length<=16
 l2:ns.length=4->es.length<=10
section
variable{ns:List Str}{es:List Ev}
theorem Gd.hv(h:Gd ns sz bg es):∀e∈es,∀v,e.val=some v->In sz v:=λe he v hv=>(h.ok e he).v v hv
theorem Gd.pre(h:Gd ns sz bg es)(i:Nat):Gd ns sz bg (es.take i):=⟨h.N,h.h0,h.h1,h.b0,h.b1,by
  have:=h.wf;rw[←List.take_append_drop i es] at this;exact(wf_app.mp this).1,λe he=>h.ok e (List.mem_of_mem_take he),by rw[List.length_take];have:=h.l1;omega,λz=>by rw[List.length_take];have:=h.l2 z;omega⟩
theorem Jv{a b:Nat}(h:a<=b):∀k,a ^ k<=b ^ k
 |0=>AAE _
 |k+1=>by rw[Nat.pow_succ,Nat.pow_succ];exact Nat.mul_le_mul (Jv h k) h
theorem Gd.shp(h:Gd ns sz bg es):Shp (bg::wz es) (List.replicate (ns.length-1) true) bg none where
 pos:=λw hw=>by
  rcases AAI.mp hw with rfl|hw
  ·exact h.b0
  ·exact(h.hv _ (mem_wz.mp hw) w rfl).1
 ha:=AAP
 hm:=(λb z=>by cases z)
 len:=by rw[AAn];have:=h.N.hi;omega
 few:=by
  have w:=O9 h.wf;have w:2 * (wz es).length<=es.length+1:=w;have a:=h.l1;have hi:=h.N.hi;have lo:=h.N.lo;rw[AAn,AAH];by_cases z:ns.length=4
  ·have b:=h.l2 z;have:=Jv (show 1+((wz es).length+1)<=7 by omega) 3;rw[z];show 2 * _ ^ 3<900;omega
  ·have q:ns.length-1=1∨ns.length-1=2:=by omega
   have t:=show 1+((wz es).length+1)<=10 by omega
   rcases q with q|q<;>rw[q]
   ·have:=Jv t 1;omega
   ·have:=Jv t 2;omega
end
end K15
namespace K93
open Nk Wb
open K13 (Ev Ev.beg Ev.hand Ev.val wfG)
open K15 (one Cld mem_one Hu Hc HB not_gone FD)
noncomputable def upd{α:Type}(f:Nat->α)(a:Nat)(x:α):Nat->α:=λi=>if i=a then x else f i
theorem AY:upd f a x a=x:=if_pos rfl
theorem AS(h:b≠a):upd f a x b=f b:=if_neg h
structure Tk where
 n:Nat
 op:Nat->Option Nat
 wv:Nat->Option (Option Int)
 fn:Nat->Option (Nat×Int)
noncomputable def Tk.ends(T:Tk)(h:Nat)(v:Int):Nat->Option (Nat×Int):=match T.op h with
 |some b=>upd T.fn b (some (T.n,v))
 |none=>T.fn
noncomputable def Tk.step(T:Tk):Ev->Tk
 | .wb v=>⟨T.n+1,upd T.op 0 (some T.n),upd T.wv T.n (some (some v)),T.fn⟩
 | .we=>⟨T.n+1,upd T.op 0 none,T.wv,T.ends 0 (-1)⟩
 | .rb r=>⟨T.n+1,upd T.op (r+1) (some T.n),upd T.wv T.n (some none),T.fn⟩
 | .re r v=>⟨T.n+1,upd T.op (r+1) none,T.wv,T.ends (r+1) v⟩
noncomputable def T0:Tk:=⟨0,λ_=>none,λ_=>none,λ_=>none⟩
structure Tk.Ok(T:Tk):Prop where
 lt:∀b,T.wv b≠none->b<T.n
 op:∀h b,T.op h=some b->T.fn b=none/\((h=0/\∃v,0<=v/\T.wv b=some (some v))∨(0<h/\T.wv b=some none))
 inj:∀h k b,T.op h=some b->T.op k=some b->h=k
 fn:∀b p v,T.fn b=some (p,v)->p<T.n/\T.wv b≠none
 go:∀b,T.wv b≠none->T.fn b=none->∃h,T.op h=some b
 pos:∀b v,T.wv b=some (some v)->0<=v
theorem ok0:T0.Ok:=⟨λ_ h=>absurd rfl h,(λ_ _ h=>by cases h),(λ_ _ _ h=>by cases h),(λ_ _ _ h=>by cases h),(λ_ h=>absurd rfl h),(λ_ _ h=>by cases h)⟩
def Bs(G:Nat->Bool)(T:Tk):Prop:=∀h,G h=(T.op h).isSome
theorem Qm{T:Tk}(o:T.Ok)(hw:T.op h=none)(k:(h=0/\∃v,0<=v/\w=some v)∨(0<h/\w=none)):Tk.Ok ⟨T.n+1,upd T.op h (some T.n),upd T.wv T.n (some w),T.fn⟩ where
 lt:=λb z=>by
  have z:upd T.wv T.n (some w) b≠none:=z;show b<T.n+1;by_cases e:b=T.n
  ·omega
  ·rw[AS e] at z;have:=o.lt b z;omega
 op:=λj b z=>by
  have z:upd T.op h (some T.n) j=some b:=z;show T.fn b=none/\((j=0/\∃v,0<=v/\upd T.wv T.n (some w) b=some (some v))∨(0<j/\upd T.wv T.n (some w) b=some none));by_cases e:j=h
  ·subst e;rw[AY] at z;cases z;rw[AY];refine⟨?_,?_⟩
   ·cases q:T.fn T.n with
    |none=>rfl
    |some p=>
     have:=o.lt _ (o.fn T.n p.1 p.2 q).2;omega
   ·rcases k with ⟨k1,v,k2,k3⟩|⟨k1,k2⟩
    ·exact .inl ⟨k1,v,k2,by rw[k3]⟩
    ·exact .inr ⟨k1,by rw[k2]⟩
  ·rw[AS e] at z;have q:=o.op j b z;have ne:b≠T.n:=λy=>by
    have:T.wv b≠none:=by
     rcases q.2 with ⟨_,v,_,y⟩|⟨_,y⟩<;>rw[y]<;>exact(λz=>by cases z)
    have:=o.lt b this;omega
   rw[AS ne];exact q
 inj:=λj k b y z=>by
  have old:∀i,T.op i≠some T.n:=λi y=>by
   have q:=(o.op i _ y).2;have:T.wv T.n≠none:=by
    rcases q with ⟨_,v,_,y⟩|⟨_,y⟩<;>rw[y]<;>exact(λz=>by cases z)
   have:=o.lt _ this;omega
  have y:upd T.op h (some T.n) j=some b:=y;have z:upd T.op h (some T.n) k=some b:=z;by_cases e1:j=h
  ·by_cases e2:k=h
   ·rw[e1,e2]
   ·rw[e1,AY] at y;rw[AS e2] at z;cases y;exact absurd z (old k)
  ·by_cases e2:k=h
   ·rw[e2,AY] at z;rw[AS e1] at y;cases z;exact absurd y (old j)
   ·rw[AS e1] at y;rw[AS e2] at z;exact o.inj j k b y z
 fn:=λb p v z=>by
  obtain⟨a1,a2⟩:=o.fn b p v z;refine⟨by show p<T.n+1;omega,?_⟩;show upd T.wv T.n (some w) b≠none;have:=o.lt b a2;rw[AS (by omega)];exact a2
 go:=λb y z=>by
  have y:upd T.wv T.n (some w) b≠none:=y;by_cases e:b=T.n
  ·exact⟨h,by show upd T.op h (some T.n) h=_;rw[AY,e]⟩
  ·rw[AS e] at y;obtain⟨j,q⟩:=o.go b y z;have ne:j≠h:=λe=>by rw[e,hw] at q;cases q
   exact⟨j,by show upd T.op h (some T.n) j=_;rw[AS ne];exact q⟩
 pos:=λb v z=>by
  have z:upd T.wv T.n (some w) b=some (some v):=z;by_cases e:b=T.n
  ·rw[e,AY] at z;cases z;rcases k with ⟨_,u,k2,k3⟩|⟨_,k3⟩
   ·cases k3;exact k2
   ·cases k3
  ·rw[AS e] at z;exact o.pos b v z
theorem Dr{T:Tk}(hb:T.op h=some b):T.ends h v=upd T.fn b (some (T.n,v)):=by unfold Tk.ends;rw[hb]
theorem Ql{T:Tk}(o:T.Ok)(hb:T.op h=some b):Tk.Ok ⟨T.n+1,upd T.op h none,T.wv,upd T.fn b (some (T.n,u))⟩ where
 lt:=λc z=>by have:=o.lt c z;show c<T.n+1;omega
 op:=λj c z=>by
  have z:upd T.op h none j=some c:=z;by_cases e:j=h
  ·rw[e,AY] at z;cases z
  ·rw[AS e] at z;have q:=o.op j c z;have ne:c≠b:=λy=>e (o.inj j h c z (by rw[y];exact hb));refine⟨?_,q.2⟩;show upd T.fn b _ c=none;rw[AS ne];exact q.1
 inj:=λj k c y z=>by
  have y:upd T.op h none j=some c:=y;have z:upd T.op h none k=some c:=z;by_cases e1:j=h
  ·rw[e1,AY] at y;cases y
  ·by_cases e2:k=h
   ·rw[e2,AY] at z;cases z
   ·rw[AS e1] at y;rw[AS e2] at z;exact o.inj j k c y z
 fn:=λc p v z=>by
  have z:upd T.fn b (some (T.n,u)) c=some (p,v):=z;show p<T.n+1/\_;by_cases e:c=b
  ·rw[e,AY] at z;cases z;refine⟨Nat.lt_succ_self _,?_⟩;show T.wv c≠none;rw[e];rcases(o.op h b hb).2 with ⟨_,v,_,y⟩|⟨_,y⟩<;>rw[y]<;>exact(λz=>by cases z)
  ·rw[AS e] at z;have:=o.fn c p v z;exact⟨by omega,this.2⟩
 go:=λc y z=>by
  have z:upd T.fn b (some (T.n,u)) c=none:=z;by_cases e:c=b
  ·rw[e,AY] at z;cases z
  ·rw[AS e] at z;obtain⟨j,q⟩:=o.go c y z;have ne:j≠h:=λy=>e (by rw[y,hb] at q;cases q;rfl);exact⟨j,by show upd T.op h none j=_;rw[AS ne];exact q⟩
 pos:=o.pos
theorem Fs{T:Tk}(o:T.Ok)(bs:Bs G T)(hw:G e.hand=!e.beg)(hv:∀v,e.val=some v->0<=v):(T.step e).Ok/\Bs (λx=>if x=e.hand then e.beg else G x) (T.step e):=by
 have ob:∀{h},G h=false->T.op h=none:=λ{h} z=>by
  have:=bs h;rw[z] at this;cases q:T.op h with
  |none=>rfl
  |some b=>rw[q] at this;cases this
 have oe:∀{h},G h=true->∃b,T.op h=some b:=λ{h} z=>by
  have:=bs h;rw[z] at this;cases q:T.op h with
  |none=>rw[q] at this;cases this
  |some b=>exact⟨b,rfl⟩
 have bu:∀(h:Nat) (x:Option Nat) (c:Bool),x.isSome=c->∀j,(if j=h then c else G j)=(upd T.op h x j).isSome:=λh x c hc j=>by
  by_cases e:j=h
  ·rw[if_pos e,e,AY,hc]
  ·rw[if_neg e,AS e];exact bs j
 cases e with
 |wb v=>exact⟨Qm o (ob hw) (.inl ⟨rfl,v,hv v rfl,rfl⟩),bu 0 _ _ rfl⟩
 |rb r=>exact⟨Qm o (ob hw) (.inr ⟨Nat.succ_pos r,rfl⟩),bu (r+1) _ _ rfl⟩
 |we=>
  obtain⟨b,hb⟩:∃b,T.op 0=some b:=oe hw;refine⟨?_,bu 0 _ _ rfl⟩;show Tk.Ok ⟨_,_,_,T.ends 0 (-1)⟩;rw[Dr hb];exact Ql o hb
 |re r v=>
  obtain⟨b,hb⟩:∃b,T.op (r+1)=some b:=oe hw;refine⟨?_,bu (r+1) _ _ rfl⟩;show Tk.Ok ⟨_,_,_,T.ends (r+1) v⟩;rw[Dr hb];exact Ql o hb
noncomputable abbrev Od:=List (Nat×Int)
noncomputable def Fu(w:Int)(o:Od):Int:=o.foldl (λ_ p=>p.2) w
theorem JB:Fu w (o++[p])=p.2:=by unfold Fu;rw[List.foldl_append];rfl
noncomputable def chn(T:Tk):Int->Od->Prop
 |_,[]=>True
 |w,p::o=>p.2=((T.wv p.1).bind id).getD w/\chn T p.2 o
theorem chn_app:∀{o q:Od} {w:Int},chn T w (o++q)↔chn T w o/\chn T (Fu w o) q
 |[],q,w=>⟨λh=>⟨trivial,h⟩,λh=>h.2⟩
 |p::o,q,w=>by
  have ih:=chn_app (T:=T) (o:=o) (q:=q) (w:=p.2);show _/\chn T p.2 (o++q)↔(_/\chn T p.2 o)/\chn T (Fu p.2 o) q;rw[ih,and_assoc]
structure V0(T:Tk)(bg:Int)(o:Od):Prop where
 nd:(o.map Prod.fst).Nodup
 be:∀p∈o,T.wv p.1≠none
 ch:chn T bg o
 tl:∀b u p v,(b,u)∈o->T.fn b=some (p,v)->T.wv b=some none->u=v
 od:o.Pairwise λi j=>∀p v,T.fn j.1=some (p,v)->i.1<=p
structure V(T:Tk)(bg:Int)(o:Od):Prop extends V0 T bg o where
 all:∀b,T.fn b≠none->∃u,(b,u)∈o
theorem V0.left(h:V0 T bg (o++q)):V0 T bg o where
 nd:=by have:=h.nd;rw[AAX,List.nodup_append] at this;exact this.1
 be:=λp hp=>h.be p (AAc _ hp)
 ch:=(chn_app.mp h.ch).1
 tl:=λb u p v hb=>h.tl b u p v (AAc _ hb)
 od:=(List.pairwise_append.mp h.od).1
theorem V0.one(h:V0 T bg o)(h1:(b,u)∈o)(h2:(b,v)∈o):u=v:=by
 have nd:=h.nd;clear h
 induction o with
 |nil=>cases h1
 |cons p o ih=>
  rw[AAW,List.nodup_cons] at nd;rcases AAI.mp h1 with e1|e1
  ·rcases AAI.mp h2 with e2|e2
   ·rw[←e1] at e2;cases e2;rfl
   ·exact absurd (AAL.mpr ⟨_,e2,rfl⟩) (by rw[←e1] at nd;exact nd.1)
  ·rcases AAI.mp h2 with e2|e2
   ·exact absurd (AAL.mpr ⟨_,e1,rfl⟩) (by rw[←e2] at nd;exact nd.1)
   ·exact ih e1 e2 nd.2
theorem N2(o:T.Ok):∀{q:Od} {w:Int},0<=w->chn T w q->(∀p∈q,0<=p.2)/\0<=Fu w q
 |[],w,h,_=>⟨(λ_ z=>by cases z),h⟩
 |p::q,w,h,c=>by
  obtain⟨c1,c2⟩:=c;have hp:0<=p.2:=by
   rw[c1];cases e:T.wv p.1 with
   |none=>exact h
   |some x=>
    cases x with
    |none=>exact h
    |some v=>exact o.pos _ _ e
  obtain⟨a,b⟩:=N2 o hp c2;exact⟨λx hx=>(AAI.mp hx).elim (λz=>by rw[z];exact hp) (a x),b⟩
structure Rp(T:Tk)(bg:Int)(m:Nat)(o:Od)(x:Cs):Prop where
 v:x.1=Fu bg o
 w0:T.op 0=none->x.2.1=-1
 w1:∀b u,T.op 0=some b->(b,u)∈o->x.2.1=-2
 w2:∀b,T.op 0=some b->(∀u,(b,u)∉o)->T.wv b=some (some x.2.1)
 n:x.2.2.length=m
 r0:∀r,r<m->T.op (r+1)=none->x.2.2[r]?=some (-1)
 r1:∀r b u,r<m->T.op (r+1)=some b->(b,u)∈o->x.2.2[r]?=some u
 r2:∀r b,r<m->T.op (r+1)=some b->(∀u,(b,u)∉o)->x.2.2[r]?=some (-2)
variable{T:Tk}{bg:Int}{m:Nat}{o q:Od}{x y:Cs}
theorem NP(ok:T.Ok)(h:V0 T bg o)(u:Int):(T.n,u)∉o:=λz=>by
 have:=ok.lt _ (h.be _ z);exact AAw _ this
theorem EA:∀{o:Od} {w:Int},(∀p∈o,T'.wv p.1=T.wv p.1)->chn T w o->chn T' w o
 |[],_,_,_=>trivial
 |p::o,w,h,c=>⟨by rw[h p AAP];exact c.1,EA (λx hx=>h x (AAQ _ hx)) c.2⟩
theorem UW(ok:T.Ok)(h:V T bg o):V ⟨T.n+1,f,upd T.wv T.n (some w),T.fn⟩ bg o:=by
 have old:∀p∈o,upd T.wv T.n (some w) p.1=T.wv p.1:=λp hp=>AS (AAe (ok.lt _ (h.be p hp)));exact⟨⟨h.nd,λp hp=>by show upd T.wv T.n (some w) p.1≠none;rw[old p hp];exact h.be p hp,EA old h.ch,λb u p v hb e z=>h.tl b u p v hb e (by have:=old _ hb;rw[←this];exact z),h.od⟩,h.all⟩
theorem UV(ok:T.Ok)(h:V T bg o)(hb:(b,w)∈o)(hw:T.wv b=some none->w=u):V ⟨T.n+1,f,T.wv,upd T.fn b (some (T.n,u))⟩ bg o:=by
 refine⟨⟨h.nd,h.be,EA (T:=T) (λ_ _=>rfl) h.ch,λc s p v hc e z=>?_,?_⟩,λc e=>?_⟩
 ·have e:upd T.fn b (some (T.n,u)) c=some (p,v):=e;by_cases y:c=b
  ·subst y;rw[AY] at e;cases e;rw[h.one hc hb];exact hw z
  ·rw[AS y] at e;exact h.tl c s p v hc e z
 ·refine List.Pairwise.imp_of_mem (λ{i j} hi hj z p v e=>?_) h.od;have e:upd T.fn b (some (T.n,u)) j.1=some (p,v):=e;by_cases y:j.1=b
  ·rw[y,AY] at e;cases e;exact Nat.le_of_lt (ok.lt _ (h.be i hi))
  ·rw[AS y] at e;exact z p v e
 ·have e:upd T.fn b (some (T.n,u)) c≠none:=e;by_cases y:c=b
  ·exact⟨w,by rw[y];exact hb⟩
  ·rw[AS y] at e;exact h.all c e
theorem Y8(ok:T.Ok)(e:T.op h=some b):b<T.n:=ok.lt b (by
 rcases(ok.op h b e).2 with ⟨_,v,_,y⟩|⟨_,y⟩<;>rw[y]<;>exact(λz=>by cases z))
theorem L6{l:List Int}(h:r<l.length):(l.set r v)[r]?=some v:=List.getElem?_set_self h
theorem Ua(ok:T.Ok)(h:V0 T bg o)(r:Rp T bg m o x):Rp (T.step (.wb v)) bg m o (GW v x) where
 v:=r.v
 w0:=λe=>by
  have e:upd T.op 0 (some T.n) 0=none:=e;rw[AY] at e;cases e
 w1:=λb u e hb=>by
  have e:upd T.op 0 (some T.n) 0=some b:=e;rw[AY] at e;cases e;exact absurd hb (NP ok h u)
 w2:=λb e _=>by
  have e:upd T.op 0 (some T.n) 0=some b:=e;rw[AY] at e;cases e;exact AY
 n:=r.n
 r0:=λj hj e=>r.r0 j hj (by have e:upd T.op 0 (some T.n) (j+1)=none:=e;rw[AS (by omega)] at e;exact e)
 r1:=λj b u hj e=>r.r1 j b u hj (by have e:upd T.op 0 (some T.n) (j+1)=some b:=e;rw[AS (by omega)] at e;exact e)
 r2:=λj b hj e=>r.r2 j b hj (by have e:upd T.op 0 (some T.n) (j+1)=some b:=e;rw[AS (by omega)] at e;exact e)
theorem Ud{k:Nat}(ok:T.Ok)(hk:k<m)(h:V0 T bg o)(r:Rp T bg m o x):Rp (T.step (.rb k)) bg m o (GX k x) where
 v:=r.v
 w0:=λe=>r.w0 (by have e:upd T.op (k+1) (some T.n) 0=none:=e;rw[AS (by omega)] at e;exact e)
 w1:=λb u e=>r.w1 b u (by have e:upd T.op (k+1) (some T.n) 0=some b:=e;rw[AS (by omega)] at e;exact e)
 w2:=λb e hb=>by
  have e:upd T.op (k+1) (some T.n) 0=some b:=e;rw[AS (by omega)] at e;show upd T.wv T.n (some none) b=_;rw[AS (AAe (Y8 ok e))];exact r.w2 b e hb
 n:=by show (x.2.2.set k (-2)).length=m;rw[AAv];exact r.n
 r0:=λj hj e=>by
  have e:upd T.op (k+1) (some T.n) (j+1)=none:=e;show (x.2.2.set k (-2))[j]?=_;by_cases z:j=k
  ·rw[z,AY] at e;cases e
  ·rw[AS (by omega)] at e;rw[AAo (Ne.symm z)];exact r.r0 j hj e
 r1:=λj b u hj e hb=>by
  have e:upd T.op (k+1) (some T.n) (j+1)=some b:=e;show (x.2.2.set k (-2))[j]?=_;by_cases z:j=k
  ·rw[z,AY] at e;cases e;exact absurd hb (NP ok h u)
  ·rw[AS (by omega)] at e;rw[AAo (Ne.symm z)];exact r.r1 j b u hj e hb
 r2:=λj b hj e hb=>by
  have e:upd T.op (k+1) (some T.n) (j+1)=some b:=e;show (x.2.2.set k (-2))[j]?=_;by_cases z:j=k
  ·rw[z];exact L6 (by rw[r.n];exact hk)
  ·rw[AS (by omega)] at e;rw[AAo (Ne.symm z)];exact r.r2 j b hj e hb
theorem UZ(r:Rp T bg m o x):Rp (T.step .we) bg m o (x.1,-1,x.2.2) where
 v:=r.v
 w0:=λ_=>rfl
 w1:=λb u e=>by
  have e:upd T.op 0 none 0=some b:=e;rw[AY] at e;cases e
 w2:=λb e=>by
  have e:upd T.op 0 none 0=some b:=e;rw[AY] at e;cases e
 n:=r.n
 r0:=λj hj e=>r.r0 j hj (by have e:upd T.op 0 none (j+1)=none:=e;rw[AS (by omega)] at e;exact e)
 r1:=λj b u hj e=>r.r1 j b u hj (by have e:upd T.op 0 none (j+1)=some b:=e;rw[AS (by omega)] at e;exact e)
 r2:=λj b hj e=>r.r2 j b hj (by have e:upd T.op 0 none (j+1)=some b:=e;rw[AS (by omega)] at e;exact e)
theorem Ub{k:Nat}(hk:k<m)(r:Rp T bg m o x):Rp (T.step (.re k v)) bg m o (x.1,x.2.1,x.2.2.set k (-1)) where
 v:=r.v
 w0:=λe=>r.w0 (by have e:upd T.op (k+1) none 0=none:=e;rw[AS (by omega)] at e;exact e)
 w1:=λb u e=>r.w1 b u (by have e:upd T.op (k+1) none 0=some b:=e;rw[AS (by omega)] at e;exact e)
 w2:=λb e=>r.w2 b (by have e:upd T.op (k+1) none 0=some b:=e;rw[AS (by omega)] at e;exact e)
 n:=by show (x.2.2.set k (-1)).length=m;rw[AAv];exact r.n
 r0:=λj hj e=>by
  have e:upd T.op (k+1) none (j+1)=none:=e;show (x.2.2.set k (-1))[j]?=_;by_cases z:j=k
  ·rw[z];exact L6 (by rw[r.n];exact hk)
  ·rw[AS (by omega)] at e;rw[AAo (Ne.symm z)];exact r.r0 j hj e
 r1:=λj b u hj e hb=>by
  have e:upd T.op (k+1) none (j+1)=some b:=e;show (x.2.2.set k (-1))[j]?=_;by_cases z:j=k
  ·rw[z,AY] at e;cases e
  ·rw[AS (by omega)] at e;rw[AAo (Ne.symm z)];exact r.r1 j b u hj e hb
 r2:=λj b hj e hb=>by
  have e:upd T.op (k+1) none (j+1)=some b:=e;show (x.2.2.set k (-1))[j]?=_;by_cases z:j=k
  ·rw[z,AY] at e;cases e
  ·rw[AS (by omega)] at e;rw[AAo (Ne.symm z)];exact r.r2 j b hj e hb
theorem UU(h:V T bg o)(ok:T.Ok)(hn:∀u,(b,u)∉o)(hb:T.wv b≠none)(hf:T.fn b=none)(hu:u=((T.wv b).bind id).getD (Fu bg o)):V T bg (o++[(b,u)]):=by
 refine⟨⟨?_,λp hp=>?_,chn_app.mpr ⟨h.ch,hu,trivial⟩,λc s p v hc e=>?_,?_⟩,λc e=>?_⟩
 ·rw[AAX,List.nodup_append];refine⟨h.nd,by simp,λc hc d hd=>?_⟩;rw[AAK.mp hd];rintro rfl;obtain⟨p,hp,e⟩:=AAL.mp hc;exact hn p.2 (by rw[←e];exact hp)
 ·rcases AAJ.mp hp with z|z
  ·exact h.be p z
  ·rw[AAK.mp z];exact hb
 ·rcases AAJ.mp hc with z|z
  ·exact h.tl c s p v z e
  ·cases AAK.mp z;rw[hf] at e;cases e
 ·refine List.pairwise_append.mpr ⟨h.od,by simp,λi hi j hj p v e=>?_⟩;rw[AAK.mp hj,hf] at e;cases e
 ·obtain⟨s,hs⟩:=h.all c e;exact⟨s,AAc _ hs⟩
theorem mem_snoc:(c,s)∈o++[(b,u)]↔(c,s)∈o∨(c=b/\s=u):=by
 rw[AAJ,AAK,Prod.mk.injEq]
theorem Ue(hb:T.op 0=some b)(ok:T.Ok)(r:Rp T bg m o x):Rp T bg m (o++[(b,v)]) (v,-2,x.2.2) where
 v:=(JB (p:=(b,v))).symm
 w0:=λe=>by rw[hb] at e;cases e
 w1:=λ_ _ _ _=>rfl
 w2:=λc e hc=>by
  rw[hb] at e;cases e;exact absurd (mem_snoc.mpr (.inr ⟨rfl,rfl⟩)) (hc v)
 n:=r.n
 r0:=r.r0
 r1:=λj c u hj e hc=>by
  rcases mem_snoc.mp hc with z|⟨z,_⟩
  ·exact r.r1 j c u hj e z
  ·rw[z] at e;exact absurd (ok.inj _ _ _ hb e) (by omega)
 r2:=λj c hj e hc=>r.r2 j c hj e λu z=>hc u (mem_snoc.mpr (.inl z))
theorem Uf{b k:Nat}(hk:k<m)(hb:T.op (k+1)=some b)(hn:∀u,(b,u)∉o)(ok:T.Ok)(r:Rp T bg m o x):Rp T bg m (o++[(b,x.1)]) (mvR x k) where
 v:=(JB (p:=(b,x.1))).symm
 w0:=r.w0
 w1:=λc u e hc=>by
  rcases mem_snoc.mp hc with z|⟨z,_⟩
  ·exact r.w1 c u e z
  ·rw[z] at e;exact absurd (ok.inj _ _ _ hb e) (by omega)
 w2:=λc e hc=>r.w2 c e λu z=>hc u (mem_snoc.mpr (.inl z))
 n:=by show (x.2.2.set k x.1).length=m;rw[AAv];exact r.n
 r0:=λj hj e=>by
  show (x.2.2.set k x.1)[j]?=_;have z:k≠j:=λz=>by rw[←z,hb] at e;cases e
  rw[AAo z];exact r.r0 j hj e
 r1:=λj c u hj e hc=>by
  show (x.2.2.set k x.1)[j]?=_;by_cases z:k=j
  ·subst z;rw[hb] at e;cases e;rw[L6 (by rw[r.n];exact hk)];rcases mem_snoc.mp hc with z|⟨_,z⟩
   ·exact absurd z (hn u)
   ·rw[z]
  ·rw[AAo z];rcases mem_snoc.mp hc with y|⟨y,_⟩
   ·exact r.r1 j c u hj e y
   ·rw[y] at e;exact absurd (ok.inj _ _ _ hb e) (by omega)
 r2:=λj c hj e hc=>by
  show (x.2.2.set k x.1)[j]?=_;have z:k≠j:=λz=>by
   subst z;rw[hb] at e;cases e;exact hc x.1 (mem_snoc.mpr (.inr ⟨rfl,rfl⟩))
  rw[AAo z];exact r.r2 j c hj e λu y=>hc u (mem_snoc.mpr (.inl y))
theorem had(o:Od)(b:Nat):(∃u,(b,u)∈o)∨∀u,(b,u)∉o:=by
 by_cases h:∃u,(b,u)∈o
 ·exact .inl h
 ·exact .inr λu z=>h ⟨u,z⟩
theorem S8(ok:T.Ok)(b0:0<=bg)(h:V T bg o)(r:Rp T bg m o x)(s:y∈nxt x):∃o',V T bg o'/\Rp T bg m o' y:=by
 obtain⟨ps,lp⟩:=N2 ok b0 h.ch;rcases mem_nxt.mp s with ⟨h0,rfl⟩|⟨i,hi,rfl⟩
 ·cases e:T.op 0 with
  |none=>rw[r.w0 e] at h0;exact absurd h0 (by decide)
  |some b=>
   rcases had o b with ⟨u,hu⟩|hn
   ·rw[r.w1 b u e hu] at h0;exact absurd h0 (by decide)
   ·have w:=r.w2 b e hn;exact⟨_,UU h ok hn (by rw[w];exact λz=>by cases z) (ok.op 0 b e).1 (u:=x.2.1) (by rw[w];rfl),Ue e ok r⟩
 ·have hi':i<m:=by rw[←r.n];exact(AAT.mp hi).1
  cases e:T.op (i+1) with
  |none=>rw[r.r0 i hi' e] at hi;cases hi
  |some b=>
   rcases had o b with ⟨u,hu⟩|hn
   ·rw[r.r1 i b u hi' e hu] at hi;cases hi;exact absurd (show (0:Int)<=-2 from ps _ hu) (by decide)
   ·have w:T.wv b=some none:=by
     rcases(ok.op _ b e).2 with ⟨z,_⟩|⟨_,z⟩
     ·omega
     ·exact z
    exact⟨_,UU h ok hn (by rw[w];exact λz=>by cases z) (ok.op _ b e).1 (u:=x.1) (by rw[w];exact r.v),Uf hi' e hn ok r⟩
variable{T:Tk}{bg:Int}{m:Nat}{o q:Od}{x y:Cs}
theorem Fg(h:f=some a):f≠none:=λz=>by rw[h] at z;cases z
theorem Iy(bs:Bs G T)(z:G h=true):∃b,T.op h=some b:=by
 have:=bs h;rw[z] at this;cases q:T.op h with
 |none=>rw[q] at this;cases this
 |some b=>exact⟨b,rfl⟩
theorem VW(ok:T.Ok)(bs:Bs G T)(hw:G e.hand=!e.beg)(hv:∀v,e.val=some v->0<=v)(hm:e.hand<m+1)(h:V T bg o)(r:Rp T bg m o x)(s:one e x=some y):V (T.step e) bg o/\Rp (T.step e) bg m o y:=by
 cases e with
 |wb v=>
  have s:some (GW v x)=some y:=s;cases s;exact⟨UW ok h,Ua ok h.toV0 r⟩
 |rb k=>
  have s:some (GX k x)=some y:=s;cases s;exact⟨UW ok h,Ud ok (Nat.lt_of_succ_lt_succ hm) h.toV0 r⟩
 |we=>
  obtain⟨c,rfl⟩:=K12.DS s;obtain⟨b,hb⟩:∃b,T.op 0=some b:=Iy bs hw;refine⟨?_,UZ r⟩;show V ⟨_,_,_,T.ends 0 (-1)⟩ bg o;rw[Dr hb];rcases had o b with ⟨u,hu⟩|hn
  ·refine UV ok h hu λz=>?_;rcases(ok.op 0 b hb).2 with ⟨_,v,_,y⟩|⟨y,_⟩
   ·rw[y] at z;cases z
   ·omega
  ·have w:=r.w2 b hb hn;rw[c] at w;exact absurd (ok.pos _ _ w) (by decide)
 |re k v=>
  obtain⟨c,rfl⟩:=K12.DT s;obtain⟨b,hb⟩:∃b,T.op (k+1)=some b:=Iy bs hw;have hk:k<m:=Nat.lt_of_succ_lt_succ hm;have v0:=hv v rfl;refine⟨?_,Ub hk r⟩;show V ⟨_,_,_,T.ends (k+1) v⟩ bg o;rw[Dr hb];rcases had o b with ⟨u,hu⟩|hn
  ·refine UV ok h hu λ_=>?_;rw[r.r1 k b u hk hb hu] at c;cases c;rfl
  ·rw[r.r2 k b hk hb hn] at c;cases c;exact absurd v0 (by decide)
def Hm(T:Tk)(m:Nat):Prop:=∀h b,T.op h=some b->h<m+1
theorem KH(h:Hm T m)(he:e.hand<m+1):Hm (T.step e) m:=by
 have key:∀(k:Nat) (a:Option Nat),k<m+1->∀j b,upd T.op k a j=some b->j<m+1:=λk a hk j b z=>by
  by_cases y:j=k
  ·omega
  ·rw[AS y] at z;exact h j b z
 cases e with
 |wb v=>exact key 0 _ he
 |we=>exact key 0 _ he
 |rb r=>exact key (r+1) _ he
 |re r v=>exact key (r+1) _ he
theorem NT(ok:T.Ok)(hm:Hm T m):∀(q:Od) {o:Od} {y:Cs},V0 T bg (o++q)->(∀p∈q,T.fn p.1=none)->Rp T bg m o y->∃z,Rch y z/\Rp T bg m (o++q) z
 |[],o,y,_,_,r=>⟨y,.refl _,by rw[AAa];exact r⟩
 |(b,u)::q,o,y,h,hf,r=>by
  have e:o++(b,u)::q=(o++[(b,u)])++q:=by simp
  have h1:V0 T bg (o++[(b,u)]):=by rw[e] at h;exact h.left
  have hn:∀s,(b,s)∉o:=λs z=>by
   have:=h1.nd;rw[AAX,List.nodup_append] at this;exact this.2.2 b (AAL.mpr ⟨_,z,rfl⟩) b (by simp) rfl
  have hb:T.wv b≠none:=h1.be _ (AAb _ (AAK.mpr rfl));have hu:u=((T.wv b).bind id).getD (Fu bg o):=(chn_app.mp h1.ch).2.1;obtain⟨j,hj⟩:=ok.go b hb (hf _ AAP);obtain⟨z,s,r'⟩:∃z,z∈nxt y/\Rp T bg m (o++[(b,u)]) z:=by
   cases j with
   |zero=>
    have w:=r.w2 b hj hn;rw[w] at hu;have hu:u=y.2.1:=hu;exact⟨_,mem_nxt.mpr (.inl ⟨ok.pos _ _ w,rfl⟩),by rw[←hu];exact Ue hj ok r⟩
   |succ k=>
    have hk:k<m:=Nat.lt_of_succ_lt_succ (hm _ _ hj);have w:T.wv b=some none:=by
     rcases(ok.op _ b hj).2 with ⟨z,_⟩|⟨_,z⟩
     ·omega
     ·exact z
    rw[w] at hu;have hu:u=Fu bg o:=hu;exact⟨_,mem_nxt.mpr (.inr ⟨k,r.r2 k b hk hj hn,rfl⟩),by rw[hu,←r.v];exact Uf hk hj hn ok r⟩
  rw[e] at h ⊢;obtain⟨z',s',r''⟩:=NT ok hm q h (λp hp=>hf p (AAQ _ hp)) r';exact⟨z',Rch.trans (.step (.refl _) s) s',r''⟩
theorem Mt(h:V0 ⟨T.n+1,f,upd T.wv T.n (some w),T.fn⟩ bg o)(hn:∀u,(T.n,u)∉o):V0 T bg o:=by
 have old:∀p∈o,upd T.wv T.n (some w) p.1=T.wv p.1:=λp hp=>AS λz=>hn p.2 (by rw[←z];exact hp);exact⟨h.nd,λp hp=>by have:=h.be p hp;rw[←old p hp];exact this,EA (T:=⟨T.n+1,f,upd T.wv T.n (some w),T.fn⟩) (λp hp=>(old p hp).symm) h.ch,λb u p v hb e z=>h.tl b u p v hb e ((old _ hb).trans z),h.od⟩
theorem Ny{f:Nat->Option Nat}{g:Cs->Cs}(ok:T.Ok)(ok':Tk.Ok ⟨T.n+1,f,upd T.wv T.n (some w),T.fn⟩)(hm':Hm ⟨T.n+1,f,upd T.wv T.n (some w),T.fn⟩ m)(h:V ⟨T.n+1,f,upd T.wv T.n (some w),T.fn⟩ bg o)
  (hg:∀o x,V0 T bg o->Rp T bg m o x->Rp ⟨T.n+1,f,upd T.wv T.n (some w),T.fn⟩ bg m o (g x)):∃o',V T bg o'/\∀x,Rp T bg m o' x->∃z,Rch (g x) z/\Rp ⟨T.n+1,f,upd T.wv T.n (some w),T.fn⟩ bg m o z:=by
 have fn0:T.fn T.n=none:=by
  cases q:T.fn T.n with
  |none=>rfl
  |some p=>exact absurd (ok.lt _ (ok.fn T.n p.1 p.2 q).2) (AAw _)
 rcases had o T.n with ⟨u,hu⟩|hn
 ·obtain⟨o1,o2,rfl⟩:=List.append_of_mem hu;have nd:=h.nd;rw[AAX,AAW,List.nodup_append] at nd;have v1:=Mt h.toV0.left λs z=>nd.2.2 T.n (AAL.mpr ⟨_,z,rfl⟩) T.n AAP rfl;have late:∀p∈o2,T.fn p.1=none:=λp hp=>by
   cases q:T.fn p.1 with
   |none=>rfl
   |some y=>
    have od:=(List.pairwise_append.mp h.od).2.1;have:=(AAx.mp od).1 p hp y.1 y.2 q;have l:=(ok.fn p.1 y.1 y.2 q).1;exact absurd this (Nat.not_le_of_lt l)
  refine⟨o1,⟨v1,λb e=>?_⟩,λx r=>?_⟩
  ·obtain⟨s,hs⟩:=h.all b e;rcases AAJ.mp hs with z|z
   ·exact⟨s,z⟩
   ·rcases AAI.mp z with z|z
    ·cases z;exact absurd fn0 e
    ·exact absurd (late _ z) e
  ·exact NT ok' hm' ((T.n,u)::o2) h.toV0 (λp hp=>(AAI.mp hp).elim (λz=>by rw[z];exact fn0) (late p)) (hg o1 x v1 r)
 ·have v1:=Mt h.toV0 hn;exact⟨o,⟨v1,h.all⟩,λx r=>⟨_,.refl _,hg o x v1 r⟩⟩
theorem Ms(ok:T.Ok)(hb:T.op h=some b)(v:V ⟨T.n+1,f,T.wv,upd T.fn b (some (T.n,u))⟩ bg o):V T bg o:=by
 have f0:=(ok.op h b hb).1;have old:∀c,T.fn c≠none->upd T.fn b (some (T.n,u)) c=T.fn c:=λc z=>AS λe=>z (by rw[e];exact f0);exact⟨⟨v.nd,v.be,EA (T:=⟨T.n+1,f,T.wv,upd T.fn b (some (T.n,u))⟩) (λ_ _=>rfl) v.ch,λc s p w hc e=>v.tl c s p w hc ((old c (Fg e)).trans e),v.od.imp λ{i j} z p w e=>z p w ((old j.1 (Fg e)).trans e)⟩,λc e=>v.all c (by show upd T.fn b _ c≠none;rw[old c e];exact e)⟩
theorem Ry(ok:T.Ok)(bs:Bs G T)(hM:Hm T m)(hw:G e.hand=!e.beg)(hv:∀v,e.val=some v->0<=v)(hm:e.hand<m+1)(h:V (T.step e) bg o):∃o',V T bg o'/\∀x,Rp T bg m o' x->∃y z,one e x=some y/\Rch y z/\Rp (T.step e) bg m o z:=by
 have ok':=(Fs ok bs hw hv).1;have hm':=KH hM hm;cases e with
 |wb v=>
  obtain⟨o',a,b⟩:=Ny (g:=GW v) ok ok' hm' h λo x v r=>Ua ok v r;exact⟨o',a,λx r=>by obtain⟨z,c⟩:=b x r;exact⟨_,z,rfl,c⟩⟩
 |rb k=>
  obtain⟨o',a,b⟩:=Ny (g:=GX k) ok ok' hm' h λo x v r=>Ud ok (Nat.lt_of_succ_lt_succ hm) v r;exact⟨o',a,λx r=>by obtain⟨z,c⟩:=b x r;exact⟨_,z,rfl,c⟩⟩
 |we=>
  obtain⟨b,hb⟩:∃b,T.op 0=some b:=Iy bs hw;have h':V ⟨T.n+1,upd T.op 0 none,T.wv,upd T.fn b (some (T.n,-1))⟩ bg o:=by rw[←Dr hb];exact h
  obtain⟨u,hu⟩:=h'.all b (Fg AY);refine⟨o,Ms ok hb h',λx r=>⟨_,_,?_,.refl _,UZ r⟩⟩;show Fb x=_;unfold Fb;rw[if_pos (r.w1 b u hb hu)]
 |re k v=>
  obtain⟨b,hb⟩:∃b,T.op (k+1)=some b:=Iy bs hw;have hk:k<m:=Nat.lt_of_succ_lt_succ hm;have h':V ⟨T.n+1,upd T.op (k+1) none,T.wv,upd T.fn b (some (T.n,v))⟩ bg o:=by rw[←Dr hb];exact h
  obtain⟨u,hu⟩:=h'.all b (Fg AY);have w:T.wv b=some none:=by
   rcases(ok.op _ b hb).2 with ⟨z,_⟩|⟨_,z⟩
   ·omega
   ·exact z
  have uv:u=v:=h'.tl b u T.n v hu AY w;refine⟨o,Ms ok hb h',λx r=>⟨_,_,?_,.refl _,Ub hk r⟩⟩;show Dd k v x=_;unfold Dd;rw[if_pos (by rw[r.r1 k b u hk hb hu,uv])]
noncomputable def run(T:Tk)(es:List Ev):Tk:=es.foldl Tk.step T
theorem Xs:∀(es:List Ev) {T:Tk} {G:Nat->Bool} {o:Od},T.Ok->Bs G T->Hm T m->wfG G es->(∀e∈es,∀v,e.val=some v->0<=v)->(∀e∈es,e.hand<m+1)->V (run T es) bg o->∃o',V T bg o'
 |[],T,G,o,_,_,_,_,_,_,h=>⟨o,h⟩
 |e::es,T,G,o,ok,bs,hM,wf,hv,hh,h=>by
  have hv1:=hv e AAP;have hh1:=hh e AAP;obtain⟨ok',bs'⟩:=Fs ok bs wf.1 hv1;obtain⟨o1,h1⟩:=Xs es ok' bs' (KH hM hh1) wf.2 (λx hx=>hv x (AAQ _ hx)) (λx hx=>hh x (AAQ _ hx)) h;obtain⟨o2,h2,_⟩:=Ry ok bs hM wf.1 hv1 hh1 h1;exact⟨o2,h2⟩
theorem Nf(b0:0<=bg):∀(es:List Ev) {S:List Cs} {T:Tk} {G:Nat->Bool},T.Ok->Bs G T->Hm T m->Cld S->(∀x∈S,∃o,V T bg o/\Rp T bg m o x)->(∀o,V T bg o->∃x∈S,Rp T bg m o x)->(∃x,x∈S)->wfG G es->(∀e∈es,∀v,e.val=some v->0<=v)->(∀e∈es,e.hand<m+1)->(GJ S es=true↔∃o,V (run T es) bg o)
 |[],S,T,G,_,_,_,_,sn,_,⟨x,hx⟩,_,_,_=>⟨λ_=>by obtain⟨o,h,_⟩:=sn x hx;exact⟨o,h⟩,λ_=>rfl⟩
 |e::es,S,T,G,ok,bs,hM,cl,sn,cm,⟨x0,hx0⟩,wf,hv,hh=>by
  have hv1:=hv e AAP;have hh1:=hh e AAP;have hv2:=λx (hx:x∈es)=>hv x (AAQ e hx);have hh2:=λx (hx:x∈es)=>hh x (AAQ e hx);obtain⟨ok',bs'⟩:=Fs ok bs wf.1 hv1;have hM':=KH hM hh1;have sn':∀y∈clo (pre S e),∃o,V (T.step e) bg o/\Rp (T.step e) bg m o y:=λy hy=>by
   obtain⟨z,hz,r⟩:=Hc hy;obtain⟨x,hx,s⟩:=mem_one.mp hz;obtain⟨o,h,rp⟩:=sn x hx;have:=VW ok bs wf.1 hv1 hh1 h rp s;clear hy hz s h rp
   induction r with
   |refl=>exact⟨o,this⟩
   |step _ s ih=>
    obtain⟨o',h',rp'⟩:=ih;exact S8 ok' b0 h' rp' s
  have cm':∀o,V (T.step e) bg o->∃x∈clo (pre S e),Rp (T.step e) bg m o x:=λo h=>by
   obtain⟨o',h',k⟩:=Ry ok bs hM wf.1 hv1 hh1 h;obtain⟨x,hx,r⟩:=cm o' h';obtain⟨y,z,s,rc,rp⟩:=k x r;exact⟨z,Hu (mem_one.mpr ⟨x,hx,s⟩) rc,rp⟩
  have ne:GN S e=false->∃y,y∈clo (pre S e):=λg=>by
   have of1:∀x y,x∈S->one e x=some y->∃y,y∈clo (pre S e):=λx y hx s=>⟨y,Hu (mem_one.mpr ⟨x,hx,s⟩) (.refl _)⟩;cases e with
   |wb v=>exact of1 x0 _ hx0 rfl
   |rb k=>exact of1 x0 _ hx0 rfl
   |re k v=>
    obtain⟨x,hx,y,s⟩:=not_gone.mp g ⟨k,v,rfl⟩;exact of1 x y hx s
   |we=>
    obtain⟨b,hb⟩:∃b,T.op 0=some b:=Iy bs wf.1;obtain⟨o,h,r⟩:=sn x0 hx0;rcases had o b with ⟨u,hu⟩|hn
    ·exact of1 x0 _ hx0 (by show Fb x0=_;unfold Fb;rw[if_pos (r.w1 b u hb hu)])
    ·exact of1 (x0.2.1,-2,x0.2.2) _ (cl x0 hx0 _ (mem_nxt.mpr (.inl ⟨ok.pos _ _ (r.w2 b hb hn),rfl⟩))) rfl
  rw[FD];show _↔∃o,V (run (T.step e) es) bg o;cases g:GN S e with
  |false=>
   rw[Nf b0 es ok' bs' hM' (HB _) sn' cm' (ne g) wf.2 hv2 hh2];exact⟨λz=>z.2,λz=>⟨rfl,z⟩⟩
  |true=>
   refine⟨(λz=>by cases z.1),λ⟨o,h⟩=>?_⟩;obtain⟨o',h'⟩:=Xs es ok' bs' hM' wf.2 hv2 hh2 h;obtain⟨z,hz,_⟩:=cm' o' h';obtain⟨w,hw,_⟩:=Hc hz;obtain⟨x,hx,s⟩:=mem_one.mp hw;have:GN S e=false:=not_gone.mpr λ_=>⟨x,hx,w,s⟩;rw[this] at g;cases g
theorem K3(b0:0<=bg):Rp T0 bg m [] (bg,-1,List.replicate m (-1)) where
 v:=rfl
 w0:=λ_=>rfl
 w1:=(λ_ _ e=>by cases e)
 w2:=(λ_ e=>by cases e)
 n:=AAn
 r0:=λr hr _=>by show (List.replicate m (-1:Int))[r]?=_;rw[List.getElem?_replicate,if_pos hr]
 r1:=(λ_ _ _ _ e=>by cases e)
 r2:=(λ_ _ _ e=>by cases e)
theorem Su(h:V T0 bg o):o=[]:=by
 cases o with
 |nil=>rfl
 |cons p o=>exact absurd rfl (h.be p AAP)
theorem W8:V T0 bg []:=⟨⟨List.nodup_nil,(λ_ h=>by cases h),trivial,(λ_ _ _ _ h=>by cases h),List.Pairwise.nil⟩,λ_ h=>absurd rfl h⟩
theorem Of(b0:0<=bg)(wf:wfG (λ_=>false) es)(hv:∀e∈es,∀v,e.val=some v->0<=v)(hh:∀e∈es,e.hand<m+1):GJ (K16.S0 bg m) es=true↔∃o,V (run T0 es) bg o:=
 Nf b0 es ok0 (λ_=>rfl) (λ_ _ e=>by cases e) K15.cld_start (λx hx=>by rw[AAK.mp hx];exact⟨[],W8,K3 b0⟩) (λo h=>⟨_,AAK.mpr rfl,by rw[Su h];exact K3 b0⟩) ⟨_,AAK.mpr rfl⟩ wf hv hh
end K93
namespace K93
open Nk Wb
open K13 (Ev Ev.beg Ev.hand Ev.val wfG)
variable{T:Tk}{bg:Int}
noncomputable def noE(T:Tk)(left:List Nat):Bool:=left.all λb=>(T.fn b).isNone
noncomputable def FY(T:Tk)(left:List Nat)(b:Nat):Bool:=left.all λj=>decide (j=b)||match T.fn j with
 |some (p,_)=>decide (b<=p)
 |none=>true
noncomputable def bb(T:Tk):Nat->List Nat->Int->Bool
 |0,left,_=>noE T left
 |n+1,left,w=>noE T left||left.any λb=>FY T left b&&(match T.wv b with
  |some (some v)=>bb T n (left.filter λj=>decide (j≠b)) v
  |_=>(match T.fn b with
   |some (_,v)=>decide (v=w)
   |none=>false)&&bb T n (left.filter λj=>decide (j≠b)) w)
structure Vl(T:Tk)(left:List Nat)(w:Int)(o:Od):Prop where
 nd:(o.map Prod.fst).Nodup
 sub:∀p∈o,p.1∈left
 ch:chn T w o
 tl:∀b u p v,(b,u)∈o->T.fn b=some (p,v)->T.wv b=some none->u=v
 od:o.Pairwise λi j=>∀p v,T.fn j.1=some (p,v)->i.1<=p
 all:∀b∈left,T.fn b≠none->∃u,(b,u)∈o
theorem noE_iff:noE T left=true↔∀b∈left,T.fn b=none:=by
 unfold noE;rw[List.all_eq_true];exact forall_congr' λb=>forall_congr' λ_=>Option.isNone_iff_eq_none
theorem mayS_iff:FY T left b=true↔∀j∈left,j≠b->∀p v,T.fn j=some (p,v)->b<=p:=by
 unfold FY;rw[List.all_eq_true];refine forall_congr' λj=>forall_congr' λ_=>?_;cases e:T.fn j with
 |none=>exact⟨(λ_ _ _ _ z=>by cases z),λ_=>Bool.or_true _⟩
 |some q=>
  obtain⟨p,v⟩:=q;show (decide (j=b)||decide (b<=p))=true↔_;rw[Bool.or_eq_true,decide_eq_true_iff,decide_eq_true_iff];constructor
  ·rintro(z|z) y p' v' q
   ·exact absurd z y
   ·cases q;exact z
  ·intro h;by_cases y:j=b
   ·exact .inl y
   ·exact .inr (h y p v rfl)
theorem rest_mem{left:List Nat}:(j∈left.filter λj=>decide (j≠b))↔j∈left/\j≠b:=by
 rw[List.mem_filter,decide_eq_true_iff]
theorem HZ:∀{left:List Nat},b∈left->(left.filter λj=>decide (j≠b)).length<left.length
 |a::left,h=>by
  have le:=List.length_filter_le (λj=>decide (j≠b)) left;by_cases z:a=b
  ·rw[List.filter_cons_of_neg (by rw[decide_eq_true_iff];exact λy=>y z),AAH];omega
  ·rw[List.filter_cons_of_pos (by rw[decide_eq_true_iff];exact z),AAH,AAH];have:=HZ ((AAI.mp h).resolve_left (Ne.symm z));omega
theorem Vl.cons{left:List Nat}{b:Nat}(hb:b∈left)(ms:FY T left b=true)(hu:u=((T.wv b).bind id).getD w)(ht:∀p v,T.fn b=some (p,v)->T.wv b=some none->u=v)(h:Vl T (left.filter λj=>decide (j≠b)) u o):Vl T left w ((b,u)::o) where
 nd:=by
  rw[AAW,List.nodup_cons];refine⟨λz=>?_,h.nd⟩;obtain⟨p,hp,e⟩:=AAL.mp z;exact(rest_mem.mp (h.sub p hp)).2 e
 sub:=λp hp=>(AAI.mp hp).elim (λz=>by rw[z];exact hb) λz=>(rest_mem.mp (h.sub p z)).1
 ch:=⟨hu,h.ch⟩
 tl:=λc s p v hc e z=>by
  rcases AAI.mp hc with y|y
  ·cases y;exact ht p v e z
  ·exact h.tl c s p v y e z
 od:=AAx.mpr ⟨λj hj p v e=>by
  have:=rest_mem.mp (h.sub j hj);exact mayS_iff.mp ms j.1 this.1 this.2 p v e,h.od⟩
 all:=λc hc e=>by
  by_cases z:c=b
  ·exact⟨u,by rw[z];exact AAP⟩
  ·obtain⟨s,hs⟩:=h.all c (rest_mem.mpr ⟨hc,z⟩) e;exact⟨s,AAQ _ hs⟩
theorem Vl.tail{left:List Nat}{b:Nat}(h:Vl T left w ((b,u)::o)):Vl T (left.filter λj=>decide (j≠b)) u o where
 nd:=by have:=h.nd;rw[AAW,List.nodup_cons] at this;exact this.2
 sub:=λp hp=>rest_mem.mpr ⟨h.sub p (AAQ _ hp),λe=>by
  have:=h.nd;rw[AAW,List.nodup_cons] at this;exact this.1 (AAL.mpr ⟨p,hp,e⟩)⟩
 ch:=h.ch.2
 tl:=λc s p v hc=>h.tl c s p v (AAQ _ hc)
 od:=(AAx.mp h.od).2
 all:=λc hc e=>by
  obtain⟨c1,c2⟩:=rest_mem.mp hc;obtain⟨s,hs⟩:=h.all c c1 e;rcases AAI.mp hs with z|z
  ·cases z;exact absurd rfl c2
  ·exact⟨s,z⟩
theorem GY:∀(n:Nat) {left:List Nat} {w:Int},left.length<=n->(∀b∈left,T.wv b≠none/\(T.wv b=some none->T.fn b≠none))->(bb T n left w=true↔∃o,Vl T left w o)
 |0,left,w,hl,hk=>by
  have:left=[]:=List.length_eq_zero_iff.mp (Nat.le_zero.mp hl);subst this;exact⟨λ_=>⟨[],List.nodup_nil,(λ_ h=>by cases h),trivial,(λ_ _ _ _ h=>by cases h),.nil,(λ_ h=>by cases h)⟩,λ_=>rfl⟩
 |n+1,left,w,hl,hk=>by
  have hk':∀b,∀c∈left.filter (λj=>decide (j≠b)),T.wv c≠none/\(T.wv c=some none->T.fn c≠none):=λb c hc=>hk c (rest_mem.mp hc).1;have hl':∀b∈left,(left.filter λj=>decide (j≠b)).length<=n:=λb hb=>by have:=HZ hb;omega
  show (noE T left||left.any _)=true↔_;rw[Bool.or_eq_true,List.any_eq_true];constructor
  ·rintro(h|⟨b,hb,h⟩)
   ·exact⟨[],List.nodup_nil,(λ_ h=>by cases h),trivial,(λ_ _ _ _ h=>by cases h),.nil,λb hb e=>absurd (noE_iff.mp h b hb) e⟩
   ·rw[Bool.and_eq_true] at h;obtain⟨ms,h⟩:=h;obtain⟨k1,k2⟩:=hk b hb;cases e:T.wv b with
    |none=>exact absurd e k1
    |some a=>
     rw[e] at h;cases a with
     |some v=>
      obtain⟨o,ho⟩:=(GY n (hl' b hb) (hk' b)).mp h;exact⟨_,ho.cons hb ms (by rw[e];rfl) (λ_ _ _ z=>by rw[e] at z;cases z)⟩
     |none=>
      have h:((match T.fn b with|some (_,v)=>decide (v=w)|none=>false)&&bb T n (left.filter λj=>decide (j≠b)) w)=true:=h;rw[Bool.and_eq_true] at h;obtain⟨o,ho⟩:=(GY n (hl' b hb) (hk' b)).mp h.2;refine⟨_,ho.cons hb ms (by rw[e];rfl) λp v q _=>?_⟩;have h1:=h.1;rw[q] at h1;exact(of_decide_eq_true h1).symm
  ·rintro⟨o,h⟩;cases o with
   |nil=>
    refine .inl (noE_iff.mpr λb hb=>Classical.byContradiction λe=>?_);obtain⟨u,hu⟩:=h.all b hb e;cases hu
   |cons q o=>
    obtain⟨b,u⟩:=q;have hb:b∈left:=h.sub _ AAP;obtain⟨k1,k2⟩:=hk b hb;have ms:FY T left b=true:=mayS_iff.mpr λj hj ne p v e=>by
     obtain⟨s,hs⟩:=h.all j hj (Fg e);rcases AAI.mp hs with z|z
     ·cases z;exact absurd rfl ne
     ·exact(AAx.mp h.od).1 _ z p v e
    have ih:=(GY n (hl' b hb) (hk' b)).mpr ⟨o,h.tail⟩;have hu:u=((T.wv b).bind id).getD w:=h.ch.1;refine .inr ⟨b,hb,?_⟩;rw[ms,Bool.true_and];cases e:T.wv b with
    |none=>exact absurd e k1
    |some a=>
     rw[e] at hu;cases a with
     |some v=>
      have hu:u=v:=hu;rw[hu] at ih;exact ih
     |none=>
      have hu:u=w:=hu;rw[hu] at ih;cases q:T.fn b with
      |none=>exact absurd q (k2 e)
      |some y=>
       obtain⟨p,v⟩:=y;have:=h.tl b u p v AAP q e;show (decide (v=w)&&bb T n (left.filter λj=>decide (j≠b)) w)=true;rw[ih,Bool.and_true,decide_eq_true_iff,←this,hu]
noncomputable def cnt(T:Tk)(b:Nat):Bool:=match T.wv b with
 |some (some _)=>true
 |some none=>(T.fn b).isSome
 |none=>false
noncomputable def dl(T:Tk):List Nat:=(List.range T.n).filter (cnt T)
theorem cnt_iff:cnt T b=true↔T.wv b≠none/\(T.wv b=some none->T.fn b≠none):=by
 unfold cnt;cases e:T.wv b with
 |none=>exact⟨(λz=>by cases z),λz=>absurd rfl z.1⟩
 |some a=>
  cases a with
  |some v=>exact⟨λ_=>⟨(λz=>by cases z),(λz=>by cases z)⟩,λ_=>rfl⟩
  |none=>
   cases q:T.fn b with
   |none=>exact⟨(λz=>by cases z),λz=>absurd rfl (z.2 rfl)⟩
   |some y=>exact⟨λ_=>⟨(λz=>by cases z),(λ_ z=>by cases z)⟩,λ_=>rfl⟩
theorem Eo(ok:T.Ok):b∈dl T↔T.wv b≠none/\(T.wv b=some none->T.fn b≠none):=by
 unfold dl;rw[List.mem_filter,List.mem_range,cnt_iff];exact⟨λz=>z.2,λz=>⟨ok.lt b z.1,z⟩⟩
theorem IH:∀{o:Od} {w:Int},(∀p∈o,T.wv p.1≠none)->chn T w o->chn T w (o.filter λp=>cnt T p.1)
 |[],_,_,_=>trivial
 |p::o,w,hb,c=>by
  have ih:=IH (λx hx=>hb x (AAQ _ hx)) c.2;by_cases z:cnt T p.1=true
  ·rw[List.filter_cons_of_pos (p:=λp:Nat×Int=>cnt T p.1) z];exact⟨c.1,ih⟩
  ·rw[List.filter_cons_of_neg (p:=λp:Nat×Int=>cnt T p.1) z];have e:T.wv p.1=some none:=by
    cases e:T.wv p.1 with
    |none=>exact absurd e (hb p AAP)
    |some a=>
     cases a with
     |none=>rfl
     |some v=>exact absurd (show cnt T p.1=true by unfold cnt;rw[e]) z
   have c1:=c.1;rw[e] at c1;have c1:p.2=w:=c1;rw[c1] at ih;exact ih
theorem XA(ok:T.Ok):(∃o,V T bg o)↔bb T (dl T).length (dl T) bg=true:=by
 rw[GY _ (AAE _) λb hb=>(Eo ok).mp hb];constructor
 ·rintro⟨o,h⟩;have sb:(o.filter λp=>cnt T p.1).Sublist o:=List.filter_sublist;refine⟨_,h.nd.sublist (sb.map _),λp hp=>?_,IH h.be h.ch,λb u p v hb=>h.tl b u p v (sb.subset hb),h.od.sublist sb,λb hb e=>?_⟩
  ·exact(Eo ok).mpr (cnt_iff.mp (List.mem_filter.mp hp).2)
  ·obtain⟨u,hu⟩:=h.all b e;exact⟨u,List.mem_filter.mpr ⟨hu,cnt_iff.mpr ((Eo ok).mp hb)⟩⟩
 ·rintro⟨o,h⟩;refine⟨o,⟨h.nd,λp hp=>((Eo ok).mp (h.sub p hp)).1,h.ch,h.tl,h.od⟩,λb e=>h.all b ((Eo ok).mpr ⟨?_,λ_=>e⟩) e⟩;cases q:T.fn b with
  |none=>exact absurd q e
  |some y=>exact(ok.fn b y.1 y.2 q).2
end K93
set_option maxHeartbeats 4000000
namespace K13
open PySem L2 Mi Ht
section
variable{Z:Mh}{ds es:List D}{n:Nat}
variable{sz:Int}{ns:List Str}
theorem t3a:(Z++[a,b,c])[Z.length]?=some a:=by rw[AAR (AAE _)];simp
theorem t3b:(Z++[a,b,c])[Z.length+1]?=some b:=by rw[AAR (by omega)];simp
theorem t3c:(Z++[a,b,c])[Z.length+2]?=some c:=by rw[AAR (by omega)];simp
theorem u3a:(Z++[a,b,c]).set Z.length x=Z++[x,b,c]:=by rw[AAg _ _ (AAE _)];simp
theorem u3b:(Z++[a,b,c]).set (Z.length+1) x=Z++[a,x,c]:=by rw[AAg _ _ (by omega)];simp
theorem u3c:(Z++[a,b,c]).set (Z.length+2) x=Z++[a,b,x]:=by rw[AAg _ _ (by omega)];simp
theorem YD(h1:PyData.strOk x=true)(h2:PyData.strOk y=true):EM (.str x) (.str y) Z=some (.bl (!(x==y)),Z):=by
 show (if SeqAt.shaped (.str x)=true/\SeqAt.shaped (.str y)=true then some (D.bl (!(x==y)),Z) else none)=_;rw[if_pos ⟨EH h1,EH h2⟩]
noncomputable abbrev bD(ns:List Str)(bs:List Nat):List D:=(bs.map (nm ns)).map D.str
theorem Qw(N:Ns ns){bs:List Nat}(hb:∀h∈bs,h<ns.length)(hh:h<ns.length):nm ns h∈bs.map (nm ns)↔h∈bs:=by
 constructor
 ·intro z;obtain⟨k,hk,e⟩:=AAL.mp z;exact N.inj (hb k hk) hh e ▸ hk
 ·exact λz=>AAL.mpr ⟨h,z,rfl⟩
theorem RD(N:Ns ns){bs:List Nat}(hb:∀h∈bs,h<ns.length)(hh:h<ns.length)(hn:Z[n]?=some (.lst (bD ns bs))):EN false (.str (nm ns h)) (.ref n) Z=some (.bl (decide (h∈bs)),Z):=by
 show Hv false (.str (nm ns h)) (.ref n) Z=_;rw[RC (xs:=bs.map (nm ns)) (show BT (.ref n) Z=some (bD ns bs,Z) from by show (match Z[n]? with|some (.lst ds)=>some (ds,Z)|_=>none)=_;rw[hn])];have:decide (nm ns h∈bs.map (nm ns))=decide (h∈bs):=by
  by_cases z:h∈bs
  ·rw[AAO z,AAO ((Qw N hb hh).mpr z)]
  ·rw[AAN z,AAN λy=>z ((Qw N hb hh).mp y)]
 rw[this];rfl
theorem JL(N:Ns ns):∀{bs:List Nat} {h:Nat},(∀k∈bs,k<ns.length)->h<ns.length->h∈bs->∃j,((bs.map (nm ns)).map V.str).findIdx? (λz=>eqV z (V.str (nm ns h)))=some j/\bs.eraseIdx j=bs.erase h
 |[],h,_,_,hm=>by cases hm
 |k::bs,h,hb,hh,hm=>by
  rw[AAW,AAW,List.findIdx?_cons];have ev:eqV (V.str (nm ns k)) (V.str (nm ns h))=(k==h):=by
   show (nm ns k==nm ns h)=_;exact Qt N (hb k (by simp)) hh
  rw[ev];by_cases e:k=h
  ·subst e;exact⟨0,by simp,by simp⟩
  ·have hm':h∈bs:=(AAI.mp hm).resolve_left λz=>e z.symm;obtain⟨j,h1,h2⟩:=JL N (λx hx=>hb x (by simp[hx])) hh hm';refine⟨j+1,?_,?_⟩
   ·rw[AAf.mpr e,h1];rfl
   ·rw[List.eraseIdx_cons_succ,h2,List.erase_cons_tail (by simpa using e)]
theorem YB(N:Ns ns)(hb:∀h∈bs,h<ns.length)(hh:h<ns.length)(hm:h∈bs)(hn:Z[n]?=some (.lst (bD ns bs))):MA (.ref n) [.str (nm ns h)] Z=some (.non,Z.set n (.lst (bD ns (bs.erase h)))):=by
 obtain⟨j,h1,h2⟩:=JL N hb hh hm;show HH n _ Z=_;unfold HH;rw[hn];have e1:Dc (bD ns bs)=some ((bs.map (nm ns)).map V.str):=FE _;show Option.map _ (match Fy (.str (nm ns h)),Dc (bD ns bs) with
  |some y,some xs=>(xs.findIdx? λz=>eqV z y).map λj=>(D.non,(bD ns bs).eraseIdx j)
  |_,_=>none)=_
 rw[e1];show Option.map _ ((((bs.map (nm ns)).map V.str).findIdx? λz=>eqV z (V.str (nm ns h))).map λj=>(D.non,(bD ns bs).eraseIdx j))=_;rw[h1];show some (D.non,Z.set n (.lst ((bD ns bs).eraseIdx j)))=_;have e2:(bD ns bs).eraseIdx j=bD ns (bs.erase h):=by
  rw[←h2];have em:∀{α β:Type} (f:α->β) (l:List α) (j:Nat),(l.map f).eraseIdx j=(l.eraseIdx j).map f:=by
   intro α β f l
   induction l with
   |nil=>intro j;simp
   |cons a l ih=>
    intro j;cases j with
    |zero=>rfl
    |succ j=>rw[AAW,List.eraseIdx_cons_succ,List.eraseIdx_cons_succ,AAW,ih]
  show ((bs.map (nm ns)).map D.str).eraseIdx j=_;rw[em,em]
 rw[e2]
noncomputable abbrev evB:Sl->M (Fl×Sl):=(AU (Ab (mOp AH (AG B4 (AC (AA 6) (AC (mC (.int 1)) AK))) (mC (.int 0))) (AO 7))
  (AU (Ab (mOp AH (AA 5) (mOp Bi (AA 7) (AG BX (AC (AA 5) AK)))) (AO 8))
  (AU (sIf (AL (mOp AW (mOp Bi (mOp BW (AA 7) (mC (.int 4))) (mC (.int 3))) (mC (.int 0)))) (Ab (mOp AH (AA 5) (mC (.int 0))) (AO 8)) Au)
  (AU (Ab (mOp Bi (mOp BW (AA 7) (mC (.int 60))) (mOp AH (AA 0) (mC (.int 1)))) (AO 9))
  (AU (Ab (AG A1 (AC (mOp AH (AG B9 (AC (mC (.str "begin")) (AC (mC (.str "end")) AK))) (AG KF (AC (mOp (EN false) (AA 8) (AA 2)) AK))) (AC (AA 8) AK))) (AO 10))
  (AU (sIf (CO (AL (mOp AW (AA 8) (mOp AH (AA 5) (mC (.int 0))))) (AL (mOp AW (mOp AH (AA 10) (mC (.int 0))) (mC (.str "begin"))))) (AU (Ab (mOp Ap (AA 10) (AG A1 (AC (AA 9) AK))) (AO 10))
  (BD (Ak CT (AA 4) (AC (AA 9) AK)))) Au)
  (AU (sIf (CO (AL (mOp EM (AA 8) (mOp AH (AA 5) (mC (.int 0))))) (AL (mOp AW (mOp AH (AA 10) (mC (.int 0))) (mC (.str "end"))))) (Ab (mOp Ap (AA 10) (AG A1 (AC (AG CH (AC (AA 0) (AC (AA 4) (AC (mOp BW (AA 7) (mC (.int 60))) AK)))) AK))) (AO 10)) Au)
  (AU (BD (Ak CT (AA 3) (AC (AA 10) AK)))
  (sIf (AL (mOp (EN false) (AA 8) (AA 2))) (BD (Ak MA (AA 2) (AC (AA 8) AK))) (BD (Ak CT (AA 2) (AC (AA 8) AK))))))))))))
structure Bsy(ns:List Str)(sz:Int)(es:List Ev)(bs:List Nat)(ws:List Int):Prop where
 wf:wfG G0 es
 ok:∀e∈es,e.Ok ns sz
 lt:∀h∈bs,h<ns.length
 nd:bs.Nodup
 mem:∀h,decide (h∈bs)=gA G0 es h
 ws:∀x∈ws,0<=x/\x<sz
noncomputable abbrev sl6(mk names:D)(cells:D)(L:Nat)(o6 o7 o8 o9 o10:Option D):Sl:=[some mk,some cells,some (.ref L),some (.ref (L+1)),some (.ref (L+2)),some names,o6,o7,o8,o9,o10]
end
end K13
set_option maxHeartbeats 4000000
namespace K13
open PySem L2 Mi Ht
section
variable{Z:Mh}{ds:List D}
variable{ns:List Str}
theorem Ya{k:Nat}(e:Ev):Cl k (evD ns e):=by cases e<;>simp[evD,Ev.val,Cl,ClL]
theorem Ut{a:Bool}:EM (.bl a) (.bl a) Z=some (.bl false,Z):=by cases a<;>rfl
theorem Pc{cs:List Int}(h:cs.length<=63):∃c:Int,Bb [.scr cs,.int 0] Z=some (.int c,Z):=by
 have tl:∀S:Sl,S=[some (.scr cs),some (.int 0)]->AL (mOp Jt (AA 1) (AG BX (AC (AA 0) AK))) S Z=some (decide ((0:Int)<cs.length),Z):=λS hS=>by
  subst hS;refine AV (po (x:=.int 0) (y:=.int cs.length) rfl (pd (ds:=[.scr cs]) rfl ?_) rfl);show some (D.int (((cs.map D.int).length:Nat):Int),Z)=_;rw[AAF]
 cases cs with
 |nil=>
  refine⟨0,An (g:=[]) (x5:=[some (.scr []),some (.int 0)]) ?_ rfl (Be _ _)⟩;rw[AAa];exact pq (piF (tl _ rfl) rfl) (pr rfl)
 |cons c cs=>
  refine⟨c,An (g:=[]) (x5:=[some (.scr (c::cs)),some (.int 0)]) ?_ rfl (Be _ _)⟩;rw[AAa];refine DQ (piT ((tl _ rfl).trans ?_) (pr (po (x:=.scr (c::cs)) (y:=.int 0) rfl rfl ?_)))
  ·rw[AAO (by simp)]
  ·show bnd (BT (.scr (c::cs))) (λds=>ixD ds 0) Z=_;rw[AM (show BT (.scr (c::cs)) Z=some ((c::cs).map D.int,Z) from rfl)];unfold ixD;rw[show atI ((c::cs).map D.int) 0=some (.int c) from Bv (r:=0) rfl];rfl
end
end K13
namespace K93
open PySem L2 Mi Nk Wb Ht
open K13 (po pc pd p2 pq pa piT piF pr Ah GR Bf As Bv BV Be)
noncomputable def ddD(T:Tk)(b:Nat):D:=.lst [.int b,(match T.fn b with|some (p,_)=>.int p|none=>.non),.str (match T.wv b with|some (some _) => "writes" |_ => "reads"),(match T.wv b with|some (some v)=>.int v|_=>match T.fn b with|some (_,v)=>.int v|none=>.non)]
noncomputable abbrev ddL(T:Tk):D:=.lst ((dl T).map (ddD T))
noncomputable abbrev ksD(ks:List Nat):D:=.lst (ks.map λk:Nat=>D.int k)
noncomputable def fk(T:Tk)(k:Nat):Nat:=(dl T).getD k 0
section
variable{T:Tk}{Z:Mh}{k j:Nat}{ks:List Nat}
theorem LV(h:k<(dl T).length):(dl T)[k]?=some (fk T k):=by
 unfold fk;rw[List.getD_eq_getElem?_getD,AAt h];rfl
theorem MV(h:k<(dl T).length):fk T k∈dl T:=AAU (LV h)
theorem YN:(dl T).Nodup:=(List.nodup_range).sublist List.filter_sublist
theorem RV(h:k<(dl T).length)(g:j<(dl T).length)(e:fk T k=fk T j):k=j:=by
 have a:=LV h;have b:=LV g;rw[AAt h] at a;rw[AAt g] at b;exact(List.getElem_inj YN).mp ((Option.some.inj a).trans (e.trans (Option.some.inj b).symm))
theorem Ll(h:k<(dl T).length):AH (ddL T) (.int k) Z=some (ddD T (fk T k),Z):=Ge (Bv (by rw[AAV,LV h];rfl))
theorem ZN:AH (ddD T b) (.int 0) Z=some (.int b,Z):=rfl
theorem YR:AH (ddD T b) (.int 1) Z=some ((match T.fn b with|some (p,_)=>.int p|none=>.non),Z):=rfl
theorem ZM:AH (ddD T b) (.int 2) Z=some (.str (match T.wv b with|some (some _) => "writes" |_ => "reads"),Z):=rfl
theorem ZL:AH (ddD T b) (.int 3) Z=some ((match T.wv b with|some (some v)=>.int v|_=>match T.fn b with|some (_,v)=>.int v|none=>.non),Z):=rfl
noncomputable abbrev WL:Sl->M (Fl×Sl):=(sIf (CO (AL (mOp EM (AA 3) (AA 2))) (CO (AL (mOp (Ej true) (mOp AH (mOp AH (AA 0) (AA 3)) (mC (.int 1))) (mC .non))) (AL (mOp Jt (mOp AH (mOp AH (AA 0) (AA 3)) (mC (.int 1))) (mOp AH (mOp AH (AA 0) (AA 2)) (mC (.int 0))))))) (A5 (mC (.bl false))) Au)
theorem Qx(hk:k<(dl T).length):∀(js:List Nat) (o3:Option D),(∀j∈js,j<(dl T).length)->∃o3',Cg (AO 3) WL (js.map λk:Nat=>D.int k) [some (ddL T),o1,some (.int k),o3] Z=some ((if FY T (js.map (fk T)) (fk T k) then .next else .rt (.bl false),[some (ddL T),o1,some (.int k),o3']),Z)
 |[],o3,_=>⟨o3,rfl⟩
 |j::js,o3,h=>by
  have hj:=h j AAP;obtain⟨p3,go⟩:=Qx (o1:=o1) hk js (some (.int j)) λi hi=>h i (AAQ _ hi);have t1:AL (mOp EM (AA 3) (AA 2)) [some (ddL T),o1,some (.int k),some (.int j)] Z=some (!decide (j=k),Z):=by
   refine AV (po (x:=.int j) (y:=.int k) rfl rfl ?_);show some (D.bl (!((j:Int)==(k:Int))),Z)=_;by_cases e:j=k
   ·rw[e];simp
   ·rw[AAf.mpr (by omega),AAN e]
  have a3:mOp AH (mOp AH (AA 0) (AA 3)) (mC (.int 1)) [some (ddL T),o1,some (.int k),some (.int j)] Z=some ((match T.fn (fk T j) with|some (p,_)=>.int p|none=>.non),Z):=po (x:=ddD T (fk T j)) (y:=.int 1) (po (x:=ddL T) (y:=.int j) rfl rfl (Ll hj)) rfl YR;have a0:mOp AH (mOp AH (AA 0) (AA 2)) (mC (.int 0)) [some (ddL T),o1,some (.int k),some (.int j)] Z=some (.int (fk T k),Z):=po (x:=ddD T (fk T k)) (y:=.int 0) (po (x:=ddL T) (y:=.int k) rfl rfl (Ll hk)) rfl ZN;have hd:∀c:Bool,(CO (AL (mOp EM (AA 3) (AA 2))) (CO (AL (mOp (Ej true) (mOp AH (mOp AH (AA 0) (AA 3)) (mC (.int 1))) (mC .non))) (AL (mOp Jt (mOp AH (mOp AH (AA 0) (AA 3)) (mC (.int 1))) (mOp AH (mOp AH (AA 0) (AA 2)) (mC (.int 0))))))) [some (ddL T),o1,some (.int k),some (.int j)] Z=some (!c,Z)->(decide (fk T j=fk T k)||(match T.fn (fk T j) with|some (p,_)=>decide (fk T k<=p)|none=>true))=c->∃o3',Cg (AO 3) WL ((j::js).map λk:Nat=>D.int k) [some (ddL T),o1,some (.int k),o3] Z=some ((if FY T ((j::js).map (fk T)) (fk T k) then .next else .rt (.bl false),[some (ddL T),o1,some (.int k),o3']),Z):=λc ht hc=>by
   have ms:FY T ((j::js).map (fk T)) (fk T k)=(c&&FY T (js.map (fk T)) (fk T k)):=by rw[←hc];rfl
   rw[ms];cases c with
   |true=>exact⟨p3,Ah (x:=.int j) (w9:=[some (ddL T),o1,some (.int k),some (.int j)]) (w5:=Z) rfl (piF ht rfl) go⟩
   |false=>exact⟨some (.int j),GR (x:=.int j) (w9:=[some (ddL T),o1,some (.int k),some (.int j)]) (w5:=Z) rfl (piT ht (pr rfl))⟩
  by_cases e:j=k
  ·refine hd true ?_ (by rw[e,AAO rfl];rfl);rw[AAO e] at t1;exact Cr t1
  ·rw[AAN e] at t1;have ne:fk T j≠fk T k:=λz=>e (RV hj hk z);cases q:T.fn (fk T j) with
   |none=>
    rw[q] at a3;exact hd true (Bg t1 (Cr (AV (po (x:=.non) (y:=.non) a3 rfl rfl)))) (by rw[q];exact Bool.or_true _)
   |some y=>
    obtain⟨p,v⟩:=y;rw[q] at a3;refine hd (decide (fk T k<=p)) (Bg t1 (Bg (AV (po (x:=.int p) (y:=.non) a3 rfl rfl)) (AV (po (x:=.int p) (y:=.int (fk T k)) a3 a0 ?_)))) (by rw[q,AAN ne];exact Bool.false_or _);show some (D.bl (decide ((p:Int)<(fk T k:Int))),Z)=_;by_cases z:fk T k<=p
    ·rw[AAO z,AAN (by omega)];rfl
    ·rw[AAN z,AAO (by omega)];rfl
theorem W9(hk:k<(dl T).length)(h:∀j∈ks,j<(dl T).length):CL [ddL T,ksD ks,.int k] Z=some (.bl (FY T (ks.map (fk T)) (fk T k)),Z):=by
 obtain⟨o3,go⟩:=Qx (T:=T) (Z:=Z) (o1:=some (ksD ks)) hk ks none h;refine An (g:=[]) (x5:=[some (ddL T),some (ksD ks),some (.int k),o3]) ?_ rfl (by unfold Cl;trivial);rw[AAa];have fo:FL (Cy (AA 1)) (AO 3) WL [some (ddL T),some (ksD ks),some (.int k),none] Z=_:=ET (Bf (ds:=ks.map λk:Nat=>D.int k) rfl) go;cases q:FY T (ks.map (fk T)) (fk T k) with
 |true=>rw[q] at fo;exact pq fo (pr rfl)
 |false=>rw[q] at fo;exact DQ fo
theorem P7(h:∀j∈ks,j<(dl T).length)(hk:k<(dl T).length):(ks.filter λj=>decide (j≠k)).map (fk T)=(ks.map (fk T)).filter λj=>decide (j≠fk T k):=by
 rw[List.filter_map];congr 1;refine List.filter_congr λj hj=>?_;show decide (j≠k)=decide (fk T j≠fk T k);by_cases e:j=k
 ·rw[e];simp
 ·have ne:fk T j≠fk T k:=λz=>e (RV (h j hj) hk z);rw[AAO ne];exact AAO e
end
end K93
namespace K93
open PySem L2 Mi Nk Wb Ht
noncomputable def kyD(ks:List Nat)(w:Int):D:=.tup [.tup (ks.map λk:Nat=>D.int k),.int w]
theorem KA(h:kyD ks w=kyD js v):ks=js/\w=v:=by
 unfold kyD at h;injection h with h
 injection h with h1 h2
 injection h1 with h1
 injection h2 with h2 _
 injection h2 with h2
 refine⟨?_,h2⟩;have:∀(a b:List Nat),(a.map λk:Nat=>D.int k)=(b.map λk:Nat=>D.int k)->a=b:=by
  intro a
  induction a with
  |nil=>intro b h;cases b with|nil=>rfl|cons _ _=>cases h
  |cons x a ih=>
   intro b h;cases b with
   |nil=>cases h
   |cons y b=>
    rw[AAW,AAW] at h;injection h with h1 h2
    injection h1 with h1
    rw[ih b h2,Int.ofNat.inj h1]
 exact this ks js h1
noncomputable def Ko:List Nat->List (List Nat)
 |[]=>[[]]
 |a::l=>Ko l++(Ko l).map (a::·)
theorem He:∀{l s:List Nat},s.Sublist l->s∈Ko l
 |[],s,h=>by cases h;simp[Ko]
 |a::l,s,h=>by
  unfold Ko;cases h with
  |cons _ h=>exact AAc _ (He h)
  |cons_cons _ h=>exact AAb _ (AAL.mpr ⟨_,He h,rfl⟩)
theorem Kn:∀l:List Nat,(Ko l).length=2 ^ l.length
 |[]=>rfl
 |a::l=>by
  unfold Ko;rw[AAG,AAF,Kn l,AAH,Nat.pow_succ];omega
noncomputable def unv(N:Nat):List D:=(Ko (List.range N)).flatMap λs=>(List.range 10).map λw:Nat=>kyD s w
theorem Ty(h:ks.Sublist (List.range N))(w0:0<=w)(w1:w<10):kyD ks w∈unv N:=
 List.mem_flatMap.mpr ⟨ks,He h,AAL.mpr ⟨w.toNat,List.mem_range.mpr (by omega),by rw[show ((w.toNat:Nat):Int)=w by omega]⟩⟩
theorem LS{α:Type}{f:List Nat->List α}{c:Nat}(h:∀s,(f s).length=c):∀L:List (List Nat),(L.flatMap f).length=L.length * c
 |[]=>by simp
 |s::L=>by rw[List.flatMap_cons,AAG,h s,LS h L,AAH,Nat.succ_mul];omega
theorem Sy{N:Nat}:(unv N).length=2 ^ N * 10:=by
 unfold unv;rw[LS (c:=10) (λs=>by rw[AAF,List.length_range]),Kn,List.length_range]
structure Mo(T:Tk)(N n:Nat)(K:List (D×D)):Prop where
 nd:(K.map (·.1)).Nodup
 un:∀z∈K,z.1∈unv N
 ok:∀(ks:List Nat) (w:Int) (d:D),ks.length<=n->B8 K (kyD ks w)=some d->d=.bl (bb T ks.length (ks.map (fk T)) w)
theorem Mo.few(h:Mo T N n K)(hN:N<=14):K.length<200000:=by
 have a:=Cf h.nd λx hx=>by
  obtain⟨z,hz,rfl⟩:=AAL.mp hx;exact h.un z hz
 rw[AAF,Sy] at a;have:2 ^ N<=2 ^ 14:=Nat.pow_le_pow_right (by decide) hN;omega
end K93
namespace K93
open PySem L2 Mi Nk Wb Ht Pk
section
variable{Z:Mh}{n:Nat}{l:List (D×D)}{y v d:D}{B:Sl}
theorem N7(h:Z[n]?=some (.dP l)):Lm (.ref n) Z=some ((n,l),Z):=by unfold Lm;dsimp only;rw[h]
theorem YC(h:Z[n]?=some (.dP l))(hk:EZ y=some y):QR false y (.ref n) Z=some (.bl (l.any λz=>decide (z.1=y)),Z):=by
 unfold QR;rw[AM (N7 h)];show (EZ y).map _=_;rw[hk];rfl
theorem Q8(h:Z[n]?=some (.dP l))(hk:EZ y=some y)(hv:B8 l y=some d):LA (.ref n) y Z=some (d,Z):=by
 unfold LA;rw[AM (N7 h)];show ((EZ y).bind (B8 l)).map _=_;rw[hk,Option.bind_some,hv];rfl
theorem WO(e1:mv B Z=some (v,Z))(e2:mo B Z=some (.ref n,Z))(e3:mi B Z=some (y,Z))(h:Z[n]?=some (.dP l))(hk:EZ y=some y)(hl:l.length<10000000)(hn:(l.any λz=>decide (z.1=y))=false):Kw mo mi mv B Z=some ((.next,B),Z.set n (.dP (l++[(y,v)]))):=by
 unfold Kw;rw[AM e1,AM e2,AM e3,AM (N7 h)];dsimp only;rw[hk];dsimp only;rw[if_pos ⟨by have:=K13.BV;omega,hn⟩]
theorem WN(e1:mv B Z=some (v,Z))(e2:mo B Z=some (.ref n,Z))(e3:mi B Z=some (y,Z))(h:Z[n]?=some (.dP l))(hk:EZ y=some y)(hn:(l.any λz=>decide (z.1=y))=true):FP mo mi mv B Z=some ((.next,B),Z.set n (.dP (FW l y v))):=by
 unfold FP;rw[AM e1,AM e2,AM e3,AM (N7 h)];dsimp only;rw[hk];dsimp only;rw[if_pos hn]
theorem Nd:∀ks:List Nat,KzL (ks.map λk:Nat=>D.int k)=true/\deeps (ks.map λk:Nat=>D.int k)=0
 |[]=>⟨rfl,rfl⟩
 |k::ks=>by
  obtain⟨a,b⟩:=Nd ks;refine⟨?_,?_⟩
  ·show (true&&KzL _)=true;rw[a];rfl
  ·show max 0 (deeps _)=0;rw[b];rfl
theorem Hl:EZ (kyD ks w)=some (kyD ks w):=by
 obtain⟨a,b⟩:=Nd ks;unfold EZ kyD;dsimp only;rw[if_pos];refine⟨?_,?_⟩
 ·show (KzL _&&(true&&true))=true;rw[a];rfl
 ·show max (deeps _+1) (max 0 0)+1<=8;rw[b]
  decide
theorem Gw:∀{l:List (D×D)},(l.any λz=>decide (z.1=c))=(B8 l c).isSome
 |[]=>rfl
 |(z,x)::l=>by
  have ih:=Gw (c:=c) (l:=l);unfold B8 at ih ⊢;rw[List.any_cons,List.find?_cons];by_cases e:z=c
  ·rw[show decide ((z,x).1=c)=true from AAO e];rfl
  ·rw[show decide ((z,x).1=c)=false from AAN e];exact ih
theorem Gv:∀{l:List (D×D)},(l.any λz=>decide (z.1=c))=false->B8 (l++[(c,x)]) k=if k=c then some x else B8 l k
 |[],_=>by
  unfold B8;by_cases e:c=k
  ·rw[if_pos e.symm];simp[e]
  ·rw[if_neg (Ne.symm e)];simp[e]
 |(z,y)::l,h=>by
  rw[List.any_cons,Bool.or_eq_false_iff] at h;have hz:z≠c:=of_decide_eq_false h.1;have ih:=Gv (k:=k) (x:=x) h.2;unfold B8 at ih ⊢;rw[List.cons_append,List.find?_cons,List.find?_cons];by_cases e:z=k
  ·rw[show decide ((z,y).1=k)=true from AAO e,if_neg (by rw[←e];exact hz)]
  ·rw[show decide ((z,y).1=k)=false from AAN e];exact ih
theorem Dk:∀{l:List (D×D)},(l.any λz=>decide (z.1=c))=true->B8 (FW l c x) k=if k=c then some x else B8 l k
 |[],h=>by cases h
 |(z,y)::l,h=>by
  have go:∀{l:List (D×D)},k≠c->B8 (FW l c x) k=B8 l k:=λ{l} ne=>by
   unfold B8 FW
   induction l with
   |nil=>rfl
   |cons q l ih=>
    rw[AAW,List.find?_cons,List.find?_cons];by_cases e:q.1=c
    ·rw[if_pos e,show decide ((q.1,x).1=k)=false from AAN (by rw[e];exact Ne.symm ne)];exact ih
    ·rw[if_neg e];cases decide (q.1=k) with
     |true=>rfl
     |false=>exact ih
  by_cases e:k=c
  ·rw[if_pos e];subst e;by_cases e2:z=k
   ·unfold B8 FW;rw[AAW,if_pos e2,List.find?_cons,show decide ((z,x).1=k)=true from AAO e2];rfl
   ·rw[List.any_cons,show decide ((z,y).1=k)=false from AAN e2,Bool.false_or] at h;have ih:=Dk (k:=k) (x:=x) h;rw[if_pos rfl] at ih;unfold B8 FW at ih ⊢;rw[AAW,if_neg e2,List.find?_cons,show decide ((z,y).1=k)=false from AAN e2];exact ih
  ·rw[if_neg e];exact go e
theorem QI:(FW l c x).map (·.1)=l.map (·.1):=by
 unfold FW;rw[List.map_map];refine List.map_congr_left λz _=>?_;show (if z.1=c then (z.1,x) else z).1=z.1;split<;>rfl
theorem GU(e:mb (Bh N ds) Z=some ((.rt d,x5),w6))(hl:Nat.beq ds.length ps=true):Gm .all N ps mb ds Z=some (d,w6):=by
 unfold Gm;rw[hl];dsimp only;rw[e];rfl
end
section
variable{T:Tk}
theorem UP(h:left.length<=n)(hk:∀b∈left,T.wv b≠none/\(T.wv b=some none->T.fn b≠none)):bb T n left w=bb T left.length left w:=by
 rw[Bool.eq_iff_iff,GY n h hk,GY _ (AAE _) hk]
theorem Wu(h:noE T left=true):bb T n left w=true:=by
 cases n with
 |zero=>exact h
 |succ n=>show (noE T left||_)=true;rw[h];rfl
end
end K93
namespace K93
open PySem L2 Mi Nk Wb Ht
open K13 (po pc pd p2 pq pa piT piF pr Ah Bf As Am BV Bu CI DF)
section
variable{T:Tk}{ks:List Nat}{w:Int}{K0:List (D×D)}{N:Nat}
noncomputable def rst(ks:List Nat)(k:Nat):List Nat:=ks.filter λj=>decide (j≠k)
noncomputable def sel(T:Tk)(ks:List Nat)(w:Int)(k:Nat):Bool:=FY T (ks.map (fk T)) (fk T k)&&(match T.wv (fk T k) with
 |some (some v)=>bb T (rst ks k).length ((rst ks k).map (fk T)) v
 |_=>(match T.fn (fk T k) with
  |some (_,v)=>decide (v=w)
  |none=>false)&&bb T (rst ks k).length ((rst ks k).map (fk T)) w)
structure Mw(T:Tk)(N:Nat)(ks:List Nat)(w:Int)(K0:List (D×D))(acc:Bool)(K:List (D×D)):Prop where
 nd:(K.map (·.1)).Nodup
 un:∀z∈K,z.1∈unv N
 val:B8 K (kyD ks w)=some (.bl acc)
 ok:∀(js:List Nat) (v:Int) (e:D),js.length<=ks.length->kyD js v≠kyD ks w->B8 K (kyD js v)=some e->e=.bl (bb T js.length (js.map (fk T)) v)
 fr:∀(js:List Nat) (v:Int),ks.length<js.length->B8 K (kyD js v)=B8 K0 (kyD js v)
theorem Mw.at(h:Mw T N ks w K0 acc K):(K.any λz=>decide (z.1=kyD ks w))=true:=by rw[Gw,h.val];rfl
theorem Mw.set(h:Mw T N ks w K0 acc K)(b:Bool):Mw T N ks w K0 b (FW K (kyD ks w) (.bl b)) where
 nd:=by rw[QI];exact h.nd
 un:=λz hz=>by
  obtain⟨y,hy,rfl⟩:=AAL.mp hz;show (if y.1=kyD ks w then (y.1,D.bl b) else y).1∈_;split<;>exact h.un y hy
 val:=by rw[Dk h.at,if_pos rfl]
 ok:=λjs v e hl ne q=>by rw[Dk h.at,if_neg ne] at q;exact h.ok js v e hl ne q
 fr:=λjs v hl=>by
  rw[Dk h.at,if_neg λz=>by have:=(KA z).1;subst this;omega];exact h.fr js v hl
theorem Mw.mo(h:Mw T N ks w K0 acc K)(hn:n<ks.length):Mo T N n K:=
 ⟨h.nd,h.un,λjs v e hl q=>h.ok js v e (by omega) (λz=>by have:=(KA z).1;subst this;omega) q⟩
theorem Mw.back(h:Mw T N ks w K0 acc K)(hn:n<ks.length)(m:Mo T N n K')(f:∀js v,n<js.length->B8 K' (kyD js v)=B8 K (kyD js v)):Mw T N ks w K0 acc K' where
 nd:=m.nd
 un:=m.un
 val:=by rw[f ks w hn];exact h.val
 ok:=λjs v e hl ne q=>by
  by_cases z:js.length<=n
  ·exact m.ok js v e z q
  ·rw[f js v (by omega)] at q;exact h.ok js v e hl ne q
 fr:=λjs v hl=>by rw[f js v (by omega)];exact h.fr js v hl
theorem P2(h:k∈ks):(rst ks k).length<ks.length:=HZ h
noncomputable abbrev sl7(T:Tk)(ks:List Nat)(w:Int)(d:Nat)(o5 o6:Option D):Sl:=[some (ddL T),some (ksD ks),some (.int w),some (.ref d),some (kyD ks w),o5,o6]
noncomputable abbrev Yd(φ:List D->M D):Sl->M (Fl×Sl):=(sIf (AL (AG CL (AC (AA 0) (AC (AA 1) (AC (AA 5) AK))))) (AU (Ab (B2 1 [5] (Cy (AA 1)) (AO 0) (AL (mOp EM (AA 0) (AA 1))) (AA 0) B9) (AO 6))
  (AU (sIf (CO (AL (mOp AW (mOp AH (mOp AH (AA 0) (AA 5)) (mC (.int 2))) (mC (.str "writes")))) (AL (AG φ (AC (AA 0) (AC (AA 6) (AC (mOp AH (mOp AH (AA 0) (AA 5)) (mC (.int 3))) (AC (AA 3) AK))))))) (FP (AA 3) (AA 4) (mC (.bl true))) Au)
  (sIf (CO (AL (mOp AW (mOp AH (mOp AH (AA 0) (AA 5)) (mC (.int 2))) (mC (.str "reads")))) (CO (AL (mOp AW (mOp AH (mOp AH (AA 0) (AA 5)) (mC (.int 3))) (AA 2))) (AL (AG φ (AC (AA 0) (AC (AA 6) (AC (AA 2) (AC (AA 3) AK)))))))) (FP (AA 3) (AA 4) (mC (.bl true))) Au))) Au)
variable{Z:Mh}{d:Nat}{φ:List D->M D}
theorem Q0(hd:d<Z.length):(Z.set d (.dP K))[d]?=some (.dP K):=List.getElem?_set_self hd
theorem Uq:(Z.set d (.dP K)).set d (.dP K')=Z.set d (.dP K'):=List.set_set ..
theorem SB(hd:d<Z.length)(hN:∀j∈ks,j<(dl T).length)(hs:ks.length<=1000)(hT:∀b v,T.wv b=some (some v)->0<=v/\v<10)(w0:0<=w/\w<10)(hq:∀k∈ks,T.wv (fk T k)≠none/\(T.wv (fk T k)=some none->T.fn (fk T k)≠none))
  (ih:∀(js:List Nat) (v:Int) (K:List (D×D)),js.Sublist ks->js.length<ks.length->0<=v/\v<10->Mo T N js.length K->∃K',φ [ddL T,ksD js,.int v,.ref d] (Z.set d (.dP K))=some (.bl (bb T js.length (js.map (fk T)) v),Z.set d (.dP K'))/\Mo T N js.length K'/\∀is u,js.length<is.length->B8 K' (kyD is u)=B8 K (kyD is u))
  {k:Nat} (hk:k∈ks) {acc:Bool} {K:List (D×D)} (m:Mw T N ks w K0 acc K) {o6:Option D}:∃K' o6',Yd φ (sl7 T ks w d (some (.int k)) o6) (Z.set d (.dP K))=some ((.next,sl7 T ks w d (some (.int k)) o6'),Z.set d (.dP K'))/\Mw T N ks w K0 (acc||sel T ks w k) K':=by
 have hz:=BV;have hkl:=hN k hk;have lt:=P2 hk;have sb:(rst ks k).Sublist ks:=List.filter_sublist;have t0:AL (AG CL (AC (AA 0) (AC (AA 1) (AC (AA 5) AK)))) (sl7 T ks w d (some (.int k)) o6) (Z.set d (.dP K))=some (FY T (ks.map (fk T)) (fk T k),Z.set d (.dP K)):=AV (pd (ds:=[ddL T,ksD ks,.int k]) rfl (W9 hkl hN));cases ms:FY T (ks.map (fk T)) (fk T k) with
 |false=>
  rw[ms] at t0;exact⟨K,o6,Bc t0 rfl,by rw[show sel T ks w k=false from by unfold sel;rw[ms];rfl,Bool.or_false];exact m⟩
 |true=>
  rw[ms] at t0;have cm:Ab (B2 1 [5] (Cy (AA 1)) (AO 0) (AL (mOp EM (AA 0) (AA 1))) (AA 0) B9) (AO 6) (sl7 T ks w d (some (.int k)) o6) (Z.set d (.dP K))=some ((.next,sl7 T ks w d (some (.int k)) (some (ksD (rst ks k)))),Z.set d (.dP K)):=by
   refine pa (d:=ksD (rst ks k)) (Bu (ds:=ks.map λk:Nat=>D.int k) (es:=(rst ks k).map λk:Nat=>D.int k) (Bf rfl) (by rw[AAF];omega) ?_ (As (by rw[AAF];omega))) rfl;have:=CI (Z:=Z.set d (.dP K)) (mc:=(AL (mOp EM (AA 0) (AA 1)))) (me:=AA 0) (z9:=[none,some (.int k)]) (f:=λk:Nat=>D.int k) (F:=λk:Nat=>D.int k) (p:=λj=>decide (j≠k)) (xs:=ks) (ys:=[]) (λj _=>?_) (λj _ _=>rfl)
   ·rw[List.nil_append] at this;exact this
   ·refine AV (po (x:=.int j) (y:=.int k) rfl rfl ?_);show some (D.bl (!((j:Int)==(k:Int))),_)=_;by_cases e:j=k
    ·rw[e];simp
    ·rw[AAf.mpr (by omega),show decide (j≠k)=true from AAO e];rfl
  have a2:∀(M:Mh) (x:Str),PyData.strOk x=true->AL (mOp AW (mOp AH (mOp AH (AA 0) (AA 5)) (mC (.int 2))) (mC (.str x))) (sl7 T ks w d (some (.int k)) (some (ksD (rst ks k)))) M=some ((match T.wv (fk T k) with|some (some _) => "writes" |_ => "reads" : Str)==x,M):=λM x hx=>by
   refine AV (po (x:=.str (match T.wv (fk T k) with|some (some _) => "writes" |_ => "reads")) (y:=.str x) (po (x:=ddD T (fk T k)) (y:=.int 2) (po (x:=ddL T) (y:=.int k) rfl rfl (Ll hkl)) rfl ZM) rfl (K13.Fv ?_ hx));split<;>decide +kernel
  have a3:∀M:Mh,mOp AH (mOp AH (AA 0) (AA 5)) (mC (.int 3)) (sl7 T ks w d (some (.int k)) (some (ksD (rst ks k)))) M=some ((match T.wv (fk T k) with|some (some v)=>.int v|_=>match T.fn (fk T k) with|some (_,v)=>.int v|none=>.non),M):=λM=>po (x:=ddD T (fk T k)) (y:=.int 3) (po (x:=ddL T) (y:=.int k) rfl rfl (Ll hkl)) rfl ZL;have pst:∀{K1:List (D×D)} {a:Bool},Mw T N ks w K0 a K1->FP (AA 3) (AA 4) (mC (.bl true)) (sl7 T ks w d (some (.int k)) (some (ksD (rst ks k)))) (Z.set d (.dP K1))=some ((.next,sl7 T ks w d (some (.int k)) (some (ksD (rst ks k)))),Z.set d (.dP (FW K1 (kyD ks w) (.bl true)))):=λ{K1 a} h=>by
   rw[WN (l:=K1) (y:=kyD ks w) (v:=.bl true) (n:=d) rfl rfl rfl (Q0 hd) Hl h.at,Uq]
  have okw:PyData.strOk ("writes" : Str)=true:=by decide +kernel
  have okr:PyData.strOk ("reads" : Str)=true:=by decide +kernel
  obtain⟨q1,q2⟩:=hq k hk;have done:∀(v:Int),0<=v/\v<10->∃K1,φ [ddL T,ksD (rst ks k),.int v,.ref d] (Z.set d (.dP K))=some (.bl (bb T (rst ks k).length ((rst ks k).map (fk T)) v),Z.set d (.dP K1))/\Mw T N ks w K0 acc K1:=λv hv=>by
   obtain⟨K1,e1,m1,f1⟩:=ih (rst ks k) v K sb lt hv (m.mo lt);exact⟨K1,e1,m.back lt m1 f1⟩
  cases e:T.wv (fk T k) with
  |none=>exact absurd e q1
  |some a=>
   cases a with
   |some v=>
    obtain⟨K1,e1,m1⟩:=done v (hT _ _ e);have s1:sel T ks w k=bb T (rst ks k).length ((rst ks k).map (fk T)) v:=by unfold sel;rw[ms,e];rfl
    have r2:∀M:Mh,(sIf (CO (AL (mOp AW (mOp AH (mOp AH (AA 0) (AA 5)) (mC (.int 2))) (mC (.str "reads")))) (CO (AL (mOp AW (mOp AH (mOp AH (AA 0) (AA 5)) (mC (.int 3))) (AA 2))) (AL (AG φ (AC (AA 0) (AC (AA 6) (AC (AA 2) (AC (AA 3) AK)))))))) (FP (AA 3) (AA 4) (mC (.bl true))) Au) (sl7 T ks w d (some (.int k)) (some (ksD (rst ks k)))) M=some ((.next,sl7 T ks w d (some (.int k)) (some (ksD (rst ks k)))),M):=λM=>piF (Cr ((a2 M "reads" okr).trans (by rw[e];rfl))) rfl;have w1:CO (AL (mOp AW (mOp AH (mOp AH (AA 0) (AA 5)) (mC (.int 2))) (mC (.str "writes")))) (AL (AG φ (AC (AA 0) (AC (AA 6) (AC (mOp AH (mOp AH (AA 0) (AA 5)) (mC (.int 3))) (AC (AA 3) AK)))))) (sl7 T ks w d (some (.int k)) (some (ksD (rst ks k)))) (Z.set d (.dP K))=some (bb T (rst ks k).length ((rst ks k).map (fk T)) v,Z.set d (.dP K1)):=by
     refine Bg ((a2 _ "writes" okw).trans (by rw[e];rfl)) (AV (BO (ds:=[ddL T,ksD (rst ks k),.int v,.ref d]) (pc rfl (pc rfl (pc ((a3 _).trans (by rw[e])) rfl))) e1))
    cases bv:bb T (rst ks k).length ((rst ks k).map (fk T)) v with
    |true=>
     rw[bv] at w1 s1;refine⟨_,_,Bt t0 (AT cm (AT (Bt w1 (pst m1)) (r2 _))),?_⟩;rw[s1,Bool.or_true];exact m1.set true
    |false=>
     rw[bv] at w1 s1;refine⟨_,_,Bt t0 (AT cm (AT (Bc w1 rfl) (r2 _))),?_⟩;rw[s1,Bool.or_false];exact m1
   |none=>
    have r1:(sIf (CO (AL (mOp AW (mOp AH (mOp AH (AA 0) (AA 5)) (mC (.int 2))) (mC (.str "writes")))) (AL (AG φ (AC (AA 0) (AC (AA 6) (AC (mOp AH (mOp AH (AA 0) (AA 5)) (mC (.int 3))) (AC (AA 3) AK))))))) (FP (AA 3) (AA 4) (mC (.bl true))) Au) (sl7 T ks w d (some (.int k)) (some (ksD (rst ks k)))) (Z.set d (.dP K))=some ((.next,sl7 T ks w d (some (.int k)) (some (ksD (rst ks k)))),Z.set d (.dP K)):=piF (Cr ((a2 _ "writes" okw).trans (by rw[e];rfl))) rfl;cases q:T.fn (fk T k) with
    |none=>exact absurd q (q2 e)
    |some y=>
     obtain⟨p,v⟩:=y;have ev:AL (mOp AW (mOp AH (mOp AH (AA 0) (AA 5)) (mC (.int 3))) (AA 2)) (sl7 T ks w d (some (.int k)) (some (ksD (rst ks k)))) (Z.set d (.dP K))=some (v==w,Z.set d (.dP K)):=AV (po (x:=.int v) (y:=.int w) ((a3 _).trans (by rw[e];dsimp only;rw[q])) rfl DF);have tr:AL (mOp AW (mOp AH (mOp AH (AA 0) (AA 5)) (mC (.int 2))) (mC (.str "reads"))) (sl7 T ks w d (some (.int k)) (some (ksD (rst ks k)))) (Z.set d (.dP K))=some (true,Z.set d (.dP K)):=(a2 _ "reads" okr).trans (by rw[e];rfl);by_cases vw:v=w
     ·obtain⟨K1,e1,m1⟩:=done w w0;have s1:sel T ks w k=bb T (rst ks k).length ((rst ks k).map (fk T)) w:=by unfold sel;rw[ms,e];dsimp only;rw[q];dsimp only;rw[AAO vw];rfl
      rw[vw,beq_self_eq_true] at ev;have w1:=Bg tr (Bg ev (AV (BO (f:=φ) (as:=(AC (AA 0) (AC (AA 6) (AC (AA 2) (AC (AA 3) AK))))) (ds:=[ddL T,ksD (rst ks k),.int w,.ref d]) rfl e1)));cases bv:bb T (rst ks k).length ((rst ks k).map (fk T)) w with
      |true=>
       rw[bv] at w1 s1;refine⟨_,_,Bt t0 (AT cm (AT r1 (Bt w1 (pst m1)))),?_⟩;rw[s1,Bool.or_true];exact m1.set true
      |false=>
       rw[bv] at w1 s1;refine⟨_,_,Bt t0 (AT cm (AT r1 (Bc w1 rfl))),?_⟩;rw[s1,Bool.or_false];exact m1
     ·have s1:sel T ks w k=false:=by unfold sel;rw[ms,e];dsimp only;rw[q];dsimp only;rw[AAN vw];rfl
      rw[AAf.mpr vw] at ev;refine⟨_,_,Bt t0 (AT cm (AT r1 (Bc (Bg tr (Cr ev)) rfl))),?_⟩;rw[s1,Bool.or_false];exact m
end
end K93
namespace K93
open PySem L2 Mi Nk Wb Ht
open K13 (po pc pd p2 pq pa piT piF pr Ah Bf As Am BV Bu CI)
section
variable{T:Tk}{ks:List Nat}{w:Int}{K0:List (D×D)}{N:Nat}{Z:Mh}{d:Nat}{φ:List D->M D}
theorem NJ:∀js:List Nat,PzL (js.map λk:Nat=>D.int k)/\Ic (js.map λk:Nat=>D.int k)<=60
 |[]=>⟨by unfold List.map PzL;trivial,by unfold List.map Ic;omega⟩
 |x::js=>by
  have ih:=NJ js;rw[AAW];exact⟨by unfold PzL;exact⟨by unfold Pz;trivial,ih.1⟩,by unfold Ic;have:dpt (.int (x:Int))=0:=rfl;rw[this];omega⟩
theorem T3:AW (ksD js) (.lst []) Z=some (.bl js.isEmpty,Z):=by
 obtain⟨a,b⟩:=NJ js;obtain⟨x,y,e,rfl,rfl⟩:=PM (Z:=Z) (a:=ksD js) (b:=.lst []) (QD:=λx y=>x=.bl js.isEmpty/\y=Z) (by unfold ksD Pz;exact a) (by unfold Pz PzL;trivial) (by unfold ksD dpt;omega) (by unfold dpt Ic;omega) λe he=>⟨by
  have:e=js.isEmpty:=by
   rw[Bool.eq_iff_iff,he,List.isEmpty_iff];constructor
   ·intro z;cases js with
    |nil=>rfl
    |cons _ _=>cases z
   ·intro z;rw[z];rfl
  rw[this],rfl⟩
 exact e
theorem SC(hd:d<Z.length)(hN:∀j∈ks,j<(dl T).length)(hs:ks.length<=1000)(hT:∀b v,T.wv b=some (some v)->0<=v/\v<10)(w0:0<=w/\w<10)(hq:∀k∈ks,T.wv (fk T k)≠none/\(T.wv (fk T k)=some none->T.fn (fk T k)≠none))
  (ih:∀(js:List Nat) (v:Int) (K:List (D×D)),js.Sublist ks->js.length<ks.length->0<=v/\v<10->Mo T N js.length K->∃K',φ [ddL T,ksD js,.int v,.ref d] (Z.set d (.dP K))=some (.bl (bb T js.length (js.map (fk T)) v),Z.set d (.dP K'))/\Mo T N js.length K'/\∀is u,js.length<is.length->B8 K' (kyD is u)=B8 K (kyD is u)) :
  ∀(js:List Nat) (acc:Bool) (K:List (D×D)) (o5 o6:Option D),(∀j∈js,j∈ks)->Mw T N ks w K0 acc K->∃K' o5' o6',Cg (AO 5) (Yd φ) (js.map λk:Nat=>D.int k) (sl7 T ks w d o5 o6) (Z.set d (.dP K))=some ((.next,sl7 T ks w d o5' o6'),Z.set d (.dP K'))/\Mw T N ks w K0 (acc||js.any (sel T ks w)) K'
 |[],acc,K,o5,o6,_,m=>⟨K,o5,o6,rfl,by rw[List.any_nil,Bool.or_false];exact m⟩
 |k::js,acc,K,o5,o6,h,m=>by
  obtain⟨K1,p6,e1,m1⟩:=SB (φ:=φ) (Z:=Z) hd hN hs hT w0 hq ih (h k AAP) m (o6:=o6);obtain⟨K2,q5,q6,e2,m2⟩:=SC hd hN hs hT w0 hq ih js _ K1 (some (.int k)) p6 (λj hj=>h j (AAQ _ hj)) m1;exact⟨K2,q5,q6,Ah (x:=.int k) (w9:=sl7 T ks w d (some (.int k)) o6) rfl e1 e2,by rw[List.any_cons,←Bool.or_assoc];exact m2⟩
theorem Wt(ok:T.Ok)(hn:ks.length=n+1)(hN:∀j∈ks,j<(dl T).length)(he:noE T (ks.map (fk T))=false):bb T ks.length (ks.map (fk T)) w=ks.any (sel T ks w):=by
 have hq:∀b∈ks.map (fk T),T.wv b≠none/\(T.wv b=some none->T.fn b≠none):=λb hb=>by
  obtain⟨k,hk,rfl⟩:=AAL.mp hb;exact(Eo ok).mp (MV (hN k hk))
 rw[hn];show (noE T (ks.map (fk T))||(ks.map (fk T)).any _)=_;rw[he,Bool.false_or,List.any_map];refine Bool.eq_iff_iff.mpr ?_;rw[List.any_eq_true,List.any_eq_true];refine exists_congr λk=>and_congr_right λhk=>?_;have fu:∀v,bb T n ((ks.map (fk T)).filter λj=>decide (j≠fk T k)) v=bb T (rst ks k).length ((rst ks k).map (fk T)) v:=λv=>by
  have l:=P2 hk;have e:=P7 (T:=T) (ks:=ks) hN (hN k hk);rw[←e];have:=UP (T:=T) (n:=n) (left:=(rst ks k).map (fk T)) (w:=v) (by rw[AAF];omega) λb hb=>by
   obtain⟨j,hj,rfl⟩:=AAL.mp hb;exact(Eo ok).mp (MV (hN j ((List.mem_filter.mp hj).1)))
  rw[AAF] at this;exact this
 show (FY T (ks.map (fk T)) (fk T k)&&_)=true↔sel T ks w k=true;unfold sel;cases T.wv (fk T k) with
 |none=>dsimp only;rw[fu];try (cases T.fn (fk T k)<;>exact Iff.rfl)
 |some a=>
  cases a with
  |none=>dsimp only;rw[fu];try (cases T.fn (fk T k)<;>exact Iff.rfl)
  |some v=>dsimp only;rw[fu]
theorem Mu(ok:T.Ok)(hd:d<Z.length)(h14:(dl T).length<=14)(hT:∀b v,T.wv b=some (some v)->0<=v/\v<10):∀(n:Nat) (ks:List Nat) (w:Int) (K:List (D×D)),ks.length<n->ks.Sublist (List.range (dl T).length)->0<=w/\w<10->Mo T (dl T).length ks.length K->
  ∃K',DI n [ddL T,ksD ks,.int w,.ref d] (Z.set d (.dP K))=some (.bl (bb T ks.length (ks.map (fk T)) w),Z.set d (.dP K'))/\Mo T (dl T).length ks.length K'/\∀is u,ks.length<is.length->B8 K' (kyD is u)=B8 K (kyD is u)
 |0,_,_,_,h,_,_,_=>absurd h (Nat.not_lt_zero _)
 |n+1,ks,w,K,hn,sb,w0,m=>by
  have hz:=BV;have hN:∀j∈ks,j<(dl T).length:=λj hj=>List.mem_range.mp (sb.subset hj);have hl:ks.length<=14:=by have:=sb.length_le;rw[List.length_range] at this;omega
  have hq:∀k∈ks,T.wv (fk T k)≠none/\(T.wv (fk T k)=some none->T.fn (fk T k)≠none):=λk hk=>(Eo ok).mp (MV (hN k hk));have c1:AL (mOp AW (B2 1 [0] (Cy (AA 1)) (AO 0) (AL (mOp (Ej true) (mOp AH (mOp AH (AA 1) (AA 0)) (mC (.int 1))) (mC .non))) (AA 0) B9) (AG B9 AK)) [some (ddL T),some (ksD ks),some (.int w),some (.ref d),none,none,none] (Z.set d (.dP K))=some (noE T (ks.map (fk T)),Z.set d (.dP K)):=by
   refine AV (po (x:=ksD (ks.filter λk=>(T.fn (fk T k)).isSome)) (y:=.lst []) (Bu (ds:=ks.map λk:Nat=>D.int k) (es:=(ks.filter λk=>(T.fn (fk T k)).isSome).map λk:Nat=>D.int k) (Bf rfl) (by rw[AAF];omega) ?_ (As (by rw[AAF];have:=List.length_filter_le (λk=>(T.fn (fk T k)).isSome) ks;omega))) (pd (ds:=[]) rfl (As (by simp))) ?_)
   ·have:=CI (Z:=Z.set d (.dP K)) (mc:=(AL (mOp (Ej true) (mOp AH (mOp AH (AA 1) (AA 0)) (mC (.int 1))) (mC .non)))) (me:=AA 0) (z9:=[none,some (ddL T)]) (f:=λk:Nat=>D.int k) (F:=λk:Nat=>D.int k) (p:=λk=>(T.fn (fk T k)).isSome) (xs:=ks) (ys:=[]) (λj hj=>?_) (λj _ _=>rfl)
    ·rw[List.nil_append] at this;exact this
    ·have a1:mOp AH (mOp AH (AA 1) (AA 0)) (mC (.int 1)) [some (.int j),some (ddL T)] (Z.set d (.dP K))=_:=po (x:=ddD T (fk T j)) (y:=.int 1) (po (x:=ddL T) (y:=.int j) rfl rfl (Ll (hN j hj))) rfl YR;cases q:T.fn (fk T j) with
     |none=>rw[q] at a1;exact AV (po (x:=.non) (y:=.non) a1 rfl rfl)
     |some y=>rw[q] at a1;exact AV (po (x:=.int y.1) (y:=.non) a1 rfl rfl)
   ·rw[T3];have:(ks.filter λk=>(T.fn (fk T k)).isSome).isEmpty=noE T (ks.map (fk T)):=by
     rw[Bool.eq_iff_iff,List.isEmpty_iff,noE_iff,List.filter_eq_nil_iff];constructor
     ·intro z b hb;obtain⟨k,hk,rfl⟩:=AAL.mp hb;cases q:T.fn (fk T k) with
      |none=>rfl
      |some y=>exact absurd (by rw[q];rfl) (z k hk)
     ·intro z k hk;rw[z _ (AAL.mpr ⟨k,hk,rfl⟩)];simp
    rw[this]
  show ∃K',Gm .all 7 4 (LJ CL (DI n)) _ _=_/\_;cases he:noE T (ks.map (fk T)) with
  |true=>
   rw[he] at c1;exact⟨K,by rw[Wu he];exact GU (x5:=[some (ddL T),some (ksD ks),some (.int w),some (.ref d),none,none,none]) (DQ (piT c1 (pr rfl))) rfl,m,λ_ _ _=>rfl⟩
  |false=>
   rw[he] at c1;have k4:Ab (AG A1 (AC (AG FT (AC (AA 1) AK)) (AC (AA 2) AK))) (AO 4) [some (ddL T),some (ksD ks),some (.int w),some (.ref d),none,none,none] (Z.set d (.dP K))=some ((.next,sl7 T ks w d none none),Z.set d (.dP K)):=pa (d:=kyD ks w) (pd (ds:=[.tup (ks.map λk:Nat=>D.int k),.int w]) (pc (pd (ds:=[ksD ks]) rfl rfl) rfl) (Am (by simp;omega))) rfl;have pin:AL (mOp (QR false) (AA 4) (AA 3)) (sl7 T ks w d none none) (Z.set d (.dP K))=some ((B8 K (kyD ks w)).isSome,Z.set d (.dP K)):=AV (po (x:=kyD ks w) (y:=.ref d) rfl rfl (by rw[YC (Q0 hd) Hl,Gw]));cases hv:B8 K (kyD ks w) with
   |some x=>
    rw[hv] at pin;have xe:=m.ok ks w x (AAE _) hv;exact⟨K,by rw[←xe];exact GU (x5:=sl7 T ks w d none none) (pq (piF c1 rfl) (pq k4 (DQ (piT pin (pr (po (x:=.ref d) (y:=kyD ks w) rfl rfl (Q8 (Q0 hd) Hl hv))))))) rfl,m,λ_ _ _=>rfl⟩
   |none=>
    rw[hv] at pin;have no:(K.any λz=>decide (z.1=kyD ks w))=false:=by rw[Gw,hv];rfl
    have few:=m.few h14;have put:Kw (AA 3) (AA 4) (mC (.bl false)) (sl7 T ks w d none none) (Z.set d (.dP K))=some ((.next,sl7 T ks w d none none),Z.set d (.dP (K++[(kyD ks w,.bl false)]))):=by
     rw[WO (l:=K) (y:=kyD ks w) (v:=.bl false) (n:=d) rfl rfl rfl (Q0 hd) Hl (by omega) no,Uq]
    have mw:Mw T (dl T).length ks w K false (K++[(kyD ks w,.bl false)]):=by
     refine⟨?_,λz hz=>?_,by rw[Gv no,if_pos rfl],λjs v e hl ne q=>?_,λjs v hl=>?_⟩
     ·rw[AAX,List.nodup_append];refine⟨m.nd,by simp,λa ha b hb=>?_⟩;rw[AAK.mp hb];rintro rfl;obtain⟨z,hz,e⟩:=AAL.mp ha;have:(K.any λz=>decide (z.1=kyD ks w))=true:=List.any_eq_true.mpr ⟨z,hz,AAO e⟩;rw[no] at this;cases this
     ·rcases AAJ.mp hz with y|y
      ·exact m.un z y
      ·rw[AAK.mp y];exact Ty sb w0.1 w0.2
     ·rw[Gv no,if_neg ne] at q;exact m.ok js v e hl q
     ·rw[Gv no,if_neg λz=>by have:=(KA z).1;subst this;omega]
    obtain⟨K1,o5,o6,go,m1⟩:=SC (φ:=DI n) (Z:=Z) hd hN (by omega) hT w0 hq (λjs v K s l hv mo=>Mu ok hd h14 hT n js v K (by omega) (s.trans sb) hv mo) ks false _ none none (λ_ h=>h) mw;rw[Bool.false_or] at m1;obtain⟨n',hn'⟩:∃n',ks.length=n'+1:=by
     cases ks with
     |nil=>cases he
     |cons a l=>exact⟨l.length,rfl⟩
    have bs:=Wt (w:=w) ok hn' hN he;refine⟨K1,?_,⟨m1.nd,m1.un,λjs v e hl q=>?_⟩,m1.fr⟩
    ·rw[bs];exact GU (x5:=sl7 T ks w d o5 o6) (AT (piF c1 rfl) (AT k4 (AT (piF pin rfl) (AT put (AT (ET (Bf rfl) go) (pr (po (x:=.ref d) (y:=kyD ks w) rfl rfl (Q8 (Q0 hd) Hl m1.val)))))))) rfl
    ·by_cases z:kyD js v=kyD ks w
     ·obtain⟨z1,z2⟩:=KA z;subst z1 z2;rw[m1.val] at q;cases q;rw[bs]
     ·exact m1.ok js v e hl z q
end
end K93
namespace K93
open PySem L2 Mi Nk Wb Ht
section
variable{T:Tk}{f:Nat->Option Nat}{g:Nat->Option (Nat×Int)}{w:Option Int}{b:Nat}
def bl(T:Tk):List Nat:=(List.range T.n).filter λb=>(T.wv b).isSome
theorem Yf(h:b∈bl T):b<T.n:=List.mem_range.mp (List.mem_filter.mp h).1
theorem WK(ok:T.Ok):b∈bl T↔T.wv b≠none:=by
 unfold bl;rw[List.mem_filter,List.mem_range,Option.isSome_iff_ne_none];exact⟨λz=>z.2,λz=>⟨ok.lt b z,z⟩⟩
theorem Md:bl ⟨T.n+1,f,upd T.wv T.n (some w),g⟩=bl T++[T.n]:=by
 unfold bl;rw[List.range_succ,List.filter_append];refine congr (congrArg _ ?_) ?_
 ·refine List.filter_congr λx hx=>?_;show (upd T.wv T.n (some w) x).isSome=_;rw[AS (AAe (List.mem_range.mp hx))]
 ·rw[List.filter_cons_of_pos (by show (upd T.wv T.n (some w) T.n).isSome=true;rw[AY];rfl)];rfl
theorem Mc(ok:T.Ok):bl ⟨T.n+1,f,T.wv,g⟩=bl T:=by
 unfold bl;have n0:T.wv T.n=none:=Classical.byContradiction λz=>AAw _ (ok.lt _ z);rw[List.range_succ,List.filter_append,List.filter_cons_of_neg (by rw[n0];decide)];exact AAa _
theorem YO:dl T=(bl T).filter (cnt T):=by
 unfold dl bl;rw[List.filter_filter];refine List.filter_congr λx _=>?_;unfold cnt;cases T.wv x with
 |none=>rfl
 |some a=>cases a<;>simp
theorem Ye:(bl T).Nodup:=(List.nodup_range).sublist List.filter_sublist
end
end K93
namespace K93
open PySem L2 Mi Nk Wb Ht
open K13 (Ev Ev.beg Ev.hand Ev.val wfG Ns nm evD bS po pc pd pq pa pr As Am FB Bv BV Gz Dt BC CC Hk MM)
noncomputable def ddC(T:Tk)(b:Nat):List D:=[.int b,(match T.fn b with|some (p,_)=>.int p|none=>.non),.str (match T.wv b with|some (some _) => "writes" |_ => "reads"),(match T.wv b with|some (some v)=>.int v|_=>match T.fn b with|some (_,v)=>.int v|none=>.non)]
noncomputable def rfs(n k:Nat):List D:=(List.range k).map λi:Nat=>D.ref (n+2+i)
noncomputable def bxs(T:Tk):List MO:=(bl T).map λb=>MO.lst (ddC T b)
noncomputable abbrev HD(Z:Mh)(T:Tk)(a:List (Key×D)):Mh:=Z++MO.lst (rfs Z.length (bl T).length)::MO.dK a::bxs T
section
variable{T:Tk}{Z:Mh}{x y z:MO}{zs:List MO}{i b n:Nat}{a:List (Key×D)}{ns:List Str}
theorem g_0:(Z++x::y::zs)[Z.length]?=some x:=by rw[AAR (AAE _),AAu];rfl
theorem g_1:(Z++x::y::zs)[Z.length+1]?=some y:=by rw[AAR (by omega),show Z.length+1-Z.length=1 by omega];rfl
theorem g_2:(Z++x::y::zs)[Z.length+2+i]?=zs[i]?:=by rw[AAR (by omega),show Z.length+2+i-Z.length=i+2 by omega];rfl
theorem s_0:(Z++x::y::zs).set Z.length z=Z++z::y::zs:=by rw[AAg _ _ (AAE _),AAu];rfl
theorem s_1:(Z++x::y::zs).set (Z.length+1) z=Z++x::z::zs:=by rw[AAg _ _ (by omega),show Z.length+1-Z.length=1 by omega];rfl
theorem s_2:(Z++x::y::zs).set (Z.length+2+i) z=Z++x::y::zs.set i z:=by rw[AAg _ _ (by omega),show Z.length+2+i-Z.length=i+2 by omega];rfl
theorem J4(h:ds.length<=sizeLine):Dz ds Z=some (.ref Z.length,Z++[.lst ds]):=by
 unfold Dz;rw[AM (show lim ds.length Z=some ((),Z) from by unfold lim;rw[if_pos h])]
theorem VV(hs:S[k]?=some (some (.ref n)))(h:Z[n]?=some (.lst ds)):NV (AA k) S Z=some (ds,Z):=by
 unfold NV;rw[AM (Az hs)];show (match Z[n]? with|some (.lst ds)=>some (ds,Z)|_=>none)=_;rw[h]
theorem Vc(h:i<n):(rfs Z.length n)[i]?=some (.ref (Z.length+2+i)):=by
 unfold rfs;rw[AAV,List.getElem?_range h];rfl
theorem Mb(h:(bl T)[i]?=some b):(bxs T)[i]?=some (.lst (ddC T b)):=by
 unfold bxs;rw[AAV,h];rfl
theorem N4:(bxs T).length=(bl T).length:=AAF ..
theorem M6:∀{l:List Nat} {i:Nat},l.Nodup->l[i]?=some b->(∀c,c≠b->g c=f c)->(l.map f).set i (g b)=l.map g
 |[],i,_,h,_=>by cases h
 |c::l,0,nd,h,hg=>by
  have h:c=b:=Option.some.inj h;subst h;show g c::l.map f=g c::l.map g;rw[List.map_congr_left λd hd=>(hg d λz=>(List.nodup_cons.mp nd).1 (z ▸ hd)).symm]
 |c::l,i+1,nd,h,hg=>by
  have h:l[i]?=some b:=h;obtain⟨n1,n2⟩:=List.nodup_cons.mp nd;show f c::(l.map f).set i (g b)=g c::l.map g;rw[M6 n2 h hg,hg c λz=>n1 (z ▸ AAU h)]
theorem T4(h:Z[n]?=some (.dK L))(hv:Ch L (.inr k)=some d):D7 (.ref n) (.str k) Z=some (d,Z):=by
 unfold D7;rw[AM (Dt h)];show (Ch L (.inr k)).map (λv=>(v,Z))=_;rw[hv];rfl
theorem Re(h1:mv B Z=some (v,Z))(h2:mo B Z=some (.ref n,Z))(h3:mi B Z=some (.str k,Z))(h:Z[n]?=some (.dK L))(hl:L.length<sizeLine):FQ mo mi mv B Z=some ((.next,B),Z.set n (.dK (Cw L (.inr k) v))):=by
 unfold FQ;rw[AM h1,AM h2,AM h3,AM (Dt h)];show (if L.length<sizeLine then some ((Fl.next,B),Z.set n (.dK (Cw L (.inr k) v))) else none)=_;rw[if_pos hl]
noncomputable abbrev Uo:Sl->M D:=AG Dz (AC (AA 4) (AC (mC .non) (AC (mOp AH (AG B9 (AC (mC (.str "reads")) (AC (mC (.str "writes")) AK))) (AG KF (AC (mOp AW (AG BX (AC (AA 5) AK)) (mC (.int 3))) AK))) (AC (mOp AH (mOp Ap (AA 5) (AG A1 (AC (mC .non) AK))) (mC (.int 2))) AK))))
noncomputable abbrev Ro:Sl->M (Fl×Sl):=(sIf (AL (mOp AW (mOp AH (AA 5) (mC (.int 0))) (mC (.str "begin")))) (AU (FQ (AA 3) (mOp AH (AA 5) (mC (.int 1))) (AG BX (AC (AA 2) AK)))
  (BD (Ak CT (AA 2) (AC Uo AK)))) (AU (Ab (mOp AH (AA 2) (mOp D7 (AA 3) (mOp AH (AA 5) (mC (.int 1))))) (AO 6))
  (AU (Ab (AA 4) (Lh (AA 6) (mC (.int 1))))
  (sIf (AL (mOp AW (AG BX (AC (AA 5) AK)) (mC (.int 3)))) (Ab (mOp AH (AA 5) (mC (.int 2))) (Lh (AA 6) (mC (.int 3)))) Au))))
noncomputable abbrev sd7(o0 o1:Option D)(n:Nat)(k e o6:Option D):Sl:=[o0,o1,some (.ref n),some (.ref (n+1)),k,e,o6]
variable{o0 o1 o6:Option D}{e:Ev}{M:Mh}
theorem t_beg:AL (mOp AW (mOp AH (AA 5) (mC (.int 0))) (mC (.str "begin"))) (sd7 o0 o1 n (some (.int T.n)) (some (evD ns e)) o6) M=some (e.beg,M):=AV (po (x:=.str (bS e.beg)) (y:=.str "begin") (po (x:=evD ns e) (y:=.int 0) rfl rfl (by cases e<;>rfl)) rfl Hk)
theorem Pl:mOp AH (AA 5) (mC (.int 1)) (sd7 o0 o1 n (some (.int T.n)) (some (evD ns e)) o6) M=some (.str (nm ns e.hand),M):=po (x:=evD ns e) (y:=.int 1) rfl rfl (by cases e<;>rfl)
theorem t_3:mOp AW (AG BX (AC (AA 5) AK)) (mC (.int 3)) (sd7 o0 o1 n (some (.int T.n)) (some (evD ns e)) o6) M=some (.bl e.val.isSome,M):=by
 refine po (x:=.int (if e.val.isSome then 3 else 2)) (y:=.int 3) (pd (ds:=[evD ns e]) rfl ?_) rfl ?_
 ·cases e<;>rfl
 ·cases e<;>rfl
noncomputable def dd0(T:Tk):Ev->List D
 | .wb v=>[.int T.n,.non,.str "writes",.int v]
 |_=>[.int T.n,.non,.str "reads",.non]
theorem XC(be:e.beg=true):Uo (sd7 o0 o1 n (some (.int T.n)) (some (evD ns e)) o6) M=some (.ref M.length,M++[.lst (dd0 T e)]):=by
 have hz:=BV;have a3:mOp AH (AG B9 (AC (mC (.str "reads")) (AC (mC (.str "writes")) AK))) (AG KF (AC (mOp AW (AG BX (AC (AA 5) AK)) (mC (.int 3))) AK)) (sd7 o0 o1 n (some (.int T.n)) (some (evD ns e)) o6) M=some (.str (if e.val.isSome then "writes" else "reads"),M):=by
  refine po (x:=.lst [.str "reads",.str "writes"]) (y:=.int (if e.val.isSome then 1 else 0)) (pd (ds:=[.str "reads",.str "writes"]) rfl (As (by simp;omega))) (pd (ds:=[.bl e.val.isSome]) (pc t_3 rfl) ?_) ?_
  ·cases e.val.isSome<;>rfl
  ·cases e.val.isSome<;>rfl
 have a4:∀{xs:List D} {d:D},evD ns e=.tup xs->xs.length<=3->atI (xs++[.non]) 2=some d->mOp AH (mOp Ap (AA 5) (AG A1 (AC (mC .non) AK))) (mC (.int 2)) (sd7 o0 o1 n (some (.int T.n)) (some (evD ns e)) o6) M=some (d,M):=λ{xs d} h1 h2 h3=>
  po (x:=.tup (xs++[.non])) (y:=.int 2) (po (x:=.tup xs) (y:=.tup [.non]) (by rw[h1];rfl) (pd (ds:=[.non]) rfl (Am (by simp;omega))) (FB (by rw[List.length_singleton];omega))) rfl (LL h3)
 cases e with
 |wb v=>exact BO (ds:=dd0 T (.wb v)) (pc rfl (pc rfl (pc a3 (pc (a4 (xs:=[.str "begin",.str (nm ns 0),.int v]) rfl (AAE _) rfl) rfl)))) (J4 (by show 4<=_;omega))
 |rb r=>exact BO (ds:=dd0 T (.rb r)) (pc rfl (pc rfl (pc a3 (pc (a4 (xs:=[.str "begin",.str (nm ns (r+1))]) rfl (by show 2<=3;decide) rfl) rfl)))) (J4 (by show 4<=_;omega))
 |we=>cases be
 |re r v=>cases be
theorem Wd(ok:T.Ok)(be:e.beg=true):(Z++MO.lst (rfs Z.length (bl T).length++[.ref (Z.length+2+(bl T).length)])::MO.dK a'::(bxs T++[.lst (dd0 T e)]))=HD Z (T.step e) a':=by
 have fin:∀(f:Nat->Option Nat) (w:Option Int),dd0 T e=ddC ⟨T.n+1,f,upd T.wv T.n (some w),T.fn⟩ T.n->T.step e=⟨T.n+1,f,upd T.wv T.n (some w),T.fn⟩->(Z++MO.lst (rfs Z.length (bl T).length++[.ref (Z.length+2+(bl T).length)])::MO.dK a'::(bxs T++[.lst (dd0 T e)]))=HD Z (T.step e) a':=λf w h1 h2=>by
  unfold HD bxs;rw[h2,Md,h1,AAG,List.length_singleton,AAX];refine congrArg (Z++·) (congr (congrArg _ (congrArg MO.lst ?_)) (congrArg _ (congrArg (·++_) (List.map_congr_left λc hc=>congrArg MO.lst ?_))))
  ·unfold rfs;rw[List.range_succ,AAX];rfl
  ·unfold ddC;dsimp only;rw[AS (AAe (Yf hc))]
 have n0:T.fn T.n=none:=by
  cases q:T.fn T.n with
  |none=>rfl
  |some p=>exact absurd (ok.lt _ (ok.fn T.n p.1 p.2 q).2) (AAw _)
 cases e with
 |wb v=>exact fin _ (some v) (by unfold ddC dd0;dsimp only;rw[AY,n0]) rfl
 |rb r=>exact fin _ none (by unfold ddC dd0;dsimp only;rw[AY,n0]) rfl
 |we=>cases be
 |re r v=>cases be
theorem UG(ok:T.Ok)(be:e.beg=true)(hb:(bl T).length<=900)(ha:a.length<=900):Ro (sd7 o0 o1 Z.length (some (.int T.n)) (some (evD ns e)) o6) (HD Z T a)=some ((.next,sd7 o0 o1 Z.length (some (.int T.n)) (some (evD ns e)) o6),HD Z (T.step e) (Cw a (.inr (nm ns e.hand)) (.int (bl T).length))):=by
 have hz:=BV;have hl:(rfs Z.length (bl T).length).length=(bl T).length:=by unfold rfs;rw[AAF,List.length_range]
 rw[←Wd ok be];refine Bt (t_beg.trans (by rw[be])) (AT (w5:=HD Z T (Cw a (.inr (nm ns e.hand)) (.int (bl T).length))) (w9:=sd7 o0 o1 Z.length (some (.int T.n)) (some (evD ns e)) o6) ?_ (CY (d:=.non) (CW (x:=.ref Z.length) (w5:=HD Z T (Cw a (.inr (nm ns e.hand)) (.int (bl T).length))) (w6:=HD Z T (Cw a (.inr (nm ns e.hand)) (.int (bl T).length))) rfl (BC g_0) (Co (XC be) rfl) ?_)))
 ·have:=Re (B:=sd7 o0 o1 Z.length (some (.int T.n)) (some (evD ns e)) o6) (Z:=HD Z T a) (n:=Z.length+1) (mo:=AA 3) (mi:=mOp AH (AA 5) (mC (.int 1))) (mv:=AG BX (AC (AA 2) AK)) (v:=.int (bl T).length) (L:=a) (pd (ds:=[.ref Z.length]) rfl (by rw[MM g_0,hl])) rfl Pl g_1 (by omega);rw[s_1] at this;exact this
 ·rw[show (HD Z T (Cw a (.inr (nm ns e.hand)) (.int (bl T).length))).length=Z.length+2+(bl T).length from by unfold HD;rw[AAG,AAH,AAH,N4];omega];unfold HD;rw[AAm];show CT _ _ (Z++_::_::(bxs T++[.lst (dd0 T e)]))=_;rw[CC g_0 (by omega),s_0]
theorem UF(ok:T.Ok)(be:e.beg=false)(hop:T.op e.hand=some b)(hi:Ch a (.inr (nm ns e.hand))=some (.int i))(hbl:(bl T)[i]?=some b):Ro (sd7 o0 o1 Z.length (some (.int T.n)) (some (evD ns e)) o6) (HD Z T a)=some ((.next,sd7 o0 o1 Z.length (some (.int T.n)) (some (evD ns e)) (some (.ref (Z.length+2+i)))),HD Z (T.step e) a):=by
 have hlt:i<(bl T).length:=(AAT.mp hbl).1;have hx:∀ds:List D,(Z++MO.lst (rfs Z.length (bl T).length)::MO.dK a::(bxs T).set i (.lst ds))[Z.length+2+i]?=some (.lst ds):=λds=>by rw[g_2,List.getElem?_set_self (by rw[N4];exact hlt)]
 have fin:∀(f:Nat->Option Nat) (v:Int),T.step e=⟨T.n+1,f,T.wv,upd T.fn b (some (T.n,v))⟩->(Z++MO.lst (rfs Z.length (bl T).length)::MO.dK a::(bxs T).set i (.lst (ddC ⟨T.n+1,f,T.wv,upd T.fn b (some (T.n,v))⟩ b)))=HD Z (T.step e) a:=λf v h=>by
  unfold HD bxs;rw[h,Mc ok,M6 (f:=λb=>MO.lst (ddC T b)) (g:=λc=>MO.lst (ddC ⟨T.n+1,f,T.wv,upd T.fn b (some (T.n,v))⟩ c)) Ye hbl λc hc=>?_];unfold ddC;dsimp only;rw[AS hc]
 have a6:Ab (mOp AH (AA 2) (mOp D7 (AA 3) (mOp AH (AA 5) (mC (.int 1))))) (AO 6) (sd7 o0 o1 Z.length (some (.int T.n)) (some (evD ns e)) o6) (HD Z T a)=some ((.next,sd7 o0 o1 Z.length (some (.int T.n)) (some (evD ns e)) (some (.ref (Z.length+2+i)))),HD Z T a):=
  pa (po (x:=.ref Z.length) (y:=.int i) rfl (po (x:=.ref (Z.length+1)) (y:=.str (nm ns e.hand)) rfl Pl (T4 g_1 hi)) (G6 g_0 (Bv (Vc hlt)))) rfl
 have a1:Ab (AA 4) (Lh (AA 6) (mC (.int 1))) (sd7 o0 o1 Z.length (some (.int T.n)) (some (evD ns e)) (some (.ref (Z.length+2+i)))) (HD Z T a)=some ((.next,sd7 o0 o1 Z.length (some (.int T.n)) (some (evD ns e)) (some (.ref (Z.length+2+i)))),Z++MO.lst (rfs Z.length (bl T).length)::MO.dK a::(bxs T).set i (.lst ((ddC T b).set 1 (.int T.n)))):=by
  refine Cq (d:=.int T.n) (w5:=HD Z T a) rfl (MW (u:=()) (x:=.ref (Z.length+2+i)) (y:=.int 1) (w5:=HD Z T a) (w6:=HD Z T a) rfl rfl ?_);rw[Q7 (j:=1) (ds:=ddC T b) (by rw[g_2];exact Mb hbl) rfl,s_2]
 refine Bc (t_beg.trans (by rw[be])) (AT a6 (AT a1 ?_));have kd:=(ok.op _ _ hop).2;cases e with
 |wb v=>cases be
 |rb r=>cases be
 |we=>
  refine Bc (AV t_3) ?_;rw[←fin (upd T.op 0 none) (-1) (by show Tk.mk _ _ _ (T.ends 0 (-1))=_;rw[Dr (h:=0) hop])];rcases kd with ⟨_,v,_,q⟩|⟨q,_⟩
  ·unfold ddC;dsimp only;rw[q,AY];rfl
  ·exact absurd q (AAw 0)
 |re r v=>
  refine Bt (AV t_3) ?_;rw[←fin (upd T.op (r+1) none) v (by show Tk.mk _ _ _ (T.ends (r+1) v)=_;rw[Dr (h:=r+1) hop])];refine Cq (d:=.int v) (w5:=Z++MO.lst (rfs Z.length (bl T).length)::MO.dK a::(bxs T).set i (.lst ((ddC T b).set 1 (.int T.n)))) (po (x:=evD ns (.re r v)) (y:=.int 2) rfl rfl rfl) (MW (u:=()) (x:=.ref (Z.length+2+i)) (y:=.int 3) (w5:=Z++MO.lst (rfs Z.length (bl T).length)::MO.dK a::(bxs T).set i (.lst ((ddC T b).set 1 (.int T.n)))) (w6:=Z++MO.lst (rfs Z.length (bl T).length)::MO.dK a::(bxs T).set i (.lst ((ddC T b).set 1 (.int T.n)))) rfl rfl ?_);rw[Q7 (j:=3) (hx _) rfl,s_2,List.set_set];rcases kd with ⟨q,_⟩|⟨_,q⟩
  ·cases q
  ·unfold ddC;dsimp only;rw[q,AY];rfl
end
end K93
namespace K93
open PySem L2 Mi Nk Wb Ht
open K13 (Ev Ev.beg Ev.hand Ev.val wfG Ns nm evD bS po pc pd pq pa pr As Ah Bu CI Bv BV Gz BB Fv)
section
variable{T:Tk}{Z:Mh}{i b n:Nat}{a:List (Key×D)}{ns:List Str}{sz:Int}{o0 o1:Option D}{e:Ev}
theorem SD:(bl T).length<=T.n:=AAs (List.length_filter_le ..) (by rw[List.length_range];exact AAE _)
theorem HP:(T.step e).n=T.n+1:=by cases e<;>rfl
theorem M3:(T.step e).op=upd T.op e.hand (if e.beg then some T.n else none):=by cases e<;>rfl
theorem M4(ok:T.Ok):bl (T.step e)=if e.beg then bl T++[T.n] else bl T:=by
 cases e with
 |wb v=>exact Md
 |rb r=>exact Md
 |we=>exact Mc ok
 |re r v=>exact Mc ok
def Ats(ns:List Str)(T:Tk)(a:List (Key×D)):Prop:=∀h b,h<ns.length->T.op h=some b->∃i:Nat,Ch a (.inr (nm ns h))=some (.int i)/\(bl T)[i]?=some b
theorem Ats.beg(N:Ns ns)(ok:T.Ok)(he:e.hand<ns.length)(be:e.beg=true)(h:Ats ns T a):Ats ns (T.step e) (Cw a (.inr (nm ns e.hand)) (.int (bl T).length)):=λj c hj hc=>by
 rw[M3,be] at hc;rw[K13.Dk,M4 ok,be];by_cases z:j=e.hand
 ·subst z;rw[AY] at hc;refine⟨(bl T).length,if_pos rfl,?_⟩;show (bl T++[T.n])[(bl T).length]?=_;rw[AAR (AAE _),AAu];exact hc
 ·rw[AS z] at hc;obtain⟨i,h1,h2⟩:=h j c hj hc;refine⟨i,?_,?_⟩
  ·rw[if_neg λy=>z (N.inj hj he (Sum.inr.inj y))];exact h1
  ·show (bl T++[T.n])[i]?=_;rw[AAS (AAT.mp h2).1];exact h2
theorem Ats.end(ok:T.Ok)(be:e.beg=false)(h:Ats ns T a):Ats ns (T.step e) a:=λj c hj hc=>by
 rw[M3,be] at hc;rw[M4 ok,be];by_cases z:j=e.hand
 ·rw[z,AY] at hc;cases hc
 ·rw[AS z] at hc;exact h j c hj hc
theorem Rn(N:Ns ns):∀(es:List Ev) (T:Tk) (G:Nat->Bool) (a:List (Key×D)) (o4 o5 o6:Option D),T.Ok->Bs G T->wfG G es->(∀e∈es,e.Ok ns sz)->Ats ns T a->T.n+es.length<=900->a.length<=T.n->
  ∃(a':List (Key×D)) (o4' o5' o6':Option D),Cg (Gs [4,5]) Ro (Ct T.n (es.map (evD ns))) (sd7 o0 o1 Z.length o4 o5 o6) (HD Z T a)=some ((.next,sd7 o0 o1 Z.length o4' o5' o6'),HD Z (run T es) a')
 |[],T,G,a,o4,o5,o6,_,_,_,_,_,_,_=>⟨a,o4,o5,o6,rfl⟩
 |e::es,T,G,a,o4,o5,o6,ok,bs,wf,eo,at',hn,ha=>by
  have e1:=eo e AAP;obtain⟨ok',bs'⟩:=Fs ok bs wf.1 λv hv=>(e1.v v hv).1;rw[AAH] at hn;have bll:=SD (T:=T);have nx:∀(a1:List (Key×D)) (o7:Option D),Ro (sd7 o0 o1 Z.length (some (.int T.n)) (some (evD ns e)) o6) (HD Z T a)=some ((.next,sd7 o0 o1 Z.length (some (.int T.n)) (some (evD ns e)) o7),HD Z (T.step e) a1)->Ats ns (T.step e) a1->a1.length<=T.n+1->∃(a':List (Key×D)) (o4' o5' o6':Option D),Cg (Gs [4,5]) Ro (Ct T.n ((e::es).map (evD ns))) (sd7 o0 o1 Z.length o4 o5 o6) (HD Z T a)=some ((.next,sd7 o0 o1 Z.length o4' o5' o6'),HD Z (run T (e::es)) a'):=λa1 o7 h1 h2 h3=>by
   obtain⟨a',p4,p5,p6,go⟩:=Rn N es (T.step e) _ a1 (some (.int T.n)) (some (evD ns e)) o7 ok' bs' wf.2 (λf hf=>eo f (AAQ _ hf)) h2 (by rw[HP];omega) (by rw[HP];exact h3);rw[HP] at go;exact⟨a',p4,p5,p6,Ah (x:=.tup [.int T.n,evD ns e]) (w9:=sd7 o0 o1 Z.length (some (.int T.n)) (some (evD ns e)) o6) (w5:=HD Z T a) rfl h1 go⟩
  cases be:e.beg with
  |true=>exact nx _ _ (UG ok be (by omega) (by omega)) (at'.beg N ok e1.h be) (AAs (Gz ..) (by omega))
  |false=>
   obtain⟨b,hb⟩:=Iy bs (wf.1.trans (by rw[be];rfl));obtain⟨i,i1,i2⟩:=at' _ b e1.h hb;exact nx _ _ (UF ok be hb i1 i2) (at'.end ok be) (by omega)
theorem L7:∀(es:List Ev) {T:Tk} {G:Nat->Bool},T.Ok->Bs G T->wfG G es->(∀e∈es,e.Ok ns sz)->(run T es).Ok
 |[],_,_,ok,_,_,_=>ok
 |e::es,_,_,ok,bs,wf,eo=>by
  obtain⟨ok',bs'⟩:=Fs ok bs wf.1 λv hv=>((eo e AAP).v v hv).1;exact L7 es ok' bs' wf.2 λf hf=>eo f (AAQ _ hf)
theorem Yb:∀b,Cl k (ddD T b):=λb=>by
 unfold ddD;cases T.fn b with
 |none=>
  cases T.wv b with
  |none=>simp[Cl,ClL]
  |some w=>cases w<;>simp[Cl,ClL]
 |some p=>
  cases T.wv b with
  |none=>simp[Cl,ClL]
  |some w=>cases w<;>simp[Cl,ClL]
theorem Wg(h:(bl T)[i]?=some b):DP (HD Z T a) Z.length 7 (.ref (Z.length+2+i))=ddD T b:=by
 unfold DP;rw[Nat.ble_eq_true_of_le (by omega),g_2,Mb h];show D.lst ((ddC T b).map (DP (HD Z T a) Z.length 6))=.lst (ddC T b);unfold ddC;cases T.fn b with
 |none=>
  cases T.wv b with
  |none=>rfl
  |some w=>cases w<;>rfl
 |some p=>
  cases T.wv b with
  |none=>rfl
  |some w=>cases w<;>rfl
noncomputable abbrev YY:Sl->M Bool:=(mOr (AL (mOp (Ej true) (mOp AH (AA 0) (mC (.int 1))) (mC .non))) (AL (mOp AW (mOp AH (AA 0) (mC (.int 2))) (mC (.str "writes")))))
theorem XD(ok:T.Ok)(h:(bl T)[i]?=some b):YY [some (.ref (Z.length+2+i))] (HD Z T a)=some (cnt T b,HD Z T a):=by
 have hx:(HD Z T a)[Z.length+2+i]?=some (.lst (ddC T b)):=by rw[g_2];exact Mb h
 have a1:mOp AH (AA 0) (mC (.int 1)) [some (.ref (Z.length+2+i))] (HD Z T a)=some ((match T.fn b with|some (p,_)=>.int p|none=>.non),HD Z T a):=po (x:=.ref (Z.length+2+i)) (y:=.int 1) rfl rfl (G6 hx rfl);have a2:mOp AH (AA 0) (mC (.int 2)) [some (.ref (Z.length+2+i))] (HD Z T a)=some (.str (match T.wv b with|some (some _) => "writes" |_ => "reads"),HD Z T a):=po (x:=.ref (Z.length+2+i)) (y:=.int 2) rfl rfl (G6 hx rfl);have w1:∀w:Option Int,T.wv b=some w->cnt T b=((T.fn b).isSome||w.isSome):=by
  intro w hw;unfold cnt;rw[hw];cases w with
  |none=>exact(Bool.or_false _).symm
  |some v=>exact(Bool.or_true _).symm
 have nb:=(WK ok).mp (AAU h);cases q:T.wv b with
 |none=>exact absurd q nb
 |some w=>
  rw[w1 w q];rw[q] at a2;cases f:T.fn b with
  |some p=>rw[f] at a1;exact Rb (AV (po (x:=.int p.1) (y:=.non) a1 rfl rfl))
  |none=>
   rw[f] at a1;refine KM (AV (po (x:=.non) (y:=.non) a1 rfl rfl)) ?_;cases w with
   |none=>exact AV (po (x:=.str "reads") (y:=.str "writes") a2 rfl (by rw[Fv (by decide +kernel) (by decide +kernel)];rfl))
   |some v=>exact AV (po (x:=.str "writes") (y:=.str "writes") a2 rfl (by rw[Fv (by decide +kernel) (by decide +kernel)];rfl))
theorem Sx(N:Ns ns)(wf:wfG (λ_=>false) es)(eo:∀e∈es,e.Ok ns sz)(hl:es.length<=900):Fz [mk,.lst (es.map (evD ns))] Z=some (ddL (run T0 es),Z):=by
 have hz:=BV;have ok:=L7 es ok0 (G:=λ_=>false) (λ_=>rfl) wf eo;obtain⟨a',p4,p5,p6,go⟩:=Rn (Z:=Z) (o0:=some mk) (o1:=some (.lst (es.map (evD ns)))) N es T0 (λ_=>false) [] none none none ok0 (λ_=>rfl) wf eo (λh b _ z=>by cases z) (by show 0+_<=_;omega) (AAE _);have ln:(run T0 es).n=es.length:=by
  have:∀(es:List Ev) (T:Tk),(run T es).n=T.n+es.length:=λes=>by
   induction es with
   |nil=>intro T;rfl
   |cons e es ih=>
    intro T;show (run (T.step e) es).n=_;rw[ih,HP,AAH];omega
  rw[this];exact Nat.zero_add _
 have bll:=SD (T:=run T0 es);rw[show HD Z T0 []=Z++[MO.lst [],MO.dK []] from rfl] at go;generalize run T0 es=T at go ok ln bll ⊢;have gt:∀i,i<(bl T).length->(bl T)[i]?=some ((bl T).getD i 0):=λi hi=>by rw[List.getD_eq_getElem?_getD,AAt hi];rfl
 have cp:=CI (Z:=HD Z T a') (mc:=YY) (me:=AA 0) (z9:=[none]) (f:=λi:Nat=>D.ref (Z.length+2+i)) (F:=λi:Nat=>D.ref (Z.length+2+i)) (p:=λi=>cnt T ((bl T).getD i 0)) (xs:=List.range (bl T).length) (ys:=[]) (λi hi=>XD ok (gt i (List.mem_range.mp hi))) λi _ _=>rfl;rw[List.nil_append] at cp;have body:LI (Bh 7 [mk,.lst (es.map (evD ns))]) Z=some ((.rt (.lst (((List.range (bl T).length).filter λi=>cnt T ((bl T).getD i 0)).map λi:Nat=>D.ref (Z.length+2+i))),sd7 (some mk) (some (.lst (es.map (evD ns)))) Z.length p4 p5 p6),HD Z T a'):=by
  refine AT (w5:=Z++[MO.lst []]) (w9:=[some mk,some (.lst (es.map (evD ns))),some (.ref Z.length),none,none,none,none]) (Cq (d:=.ref Z.length) (BO (ds:=[]) rfl (J4 (by simp))) rfl) ?_;refine AT (w5:=Z++[MO.lst [],MO.dK []]) (w9:=sd7 (some mk) (some (.lst (es.map (evD ns)))) Z.length none none none) (Cq (d:=.ref (Z.length+1)) (w5:=Z++[MO.lst [],MO.dK []]) (by show some (D.ref (Z++[MO.lst []]).length,(Z++[MO.lst []])++[MO.dK []])=_;simp) rfl) ?_;refine AT (ET (ds:=Ct 0 (es.map (evD ns))) (w5:=Z++[MO.lst [],MO.dK []]) rfl go) (Dx (Bu (VV rfl g_0) ?_ cp (As ?_)))
  ·unfold rfs;rw[AAF,List.length_range];omega
  ·rw[AAF];have:=List.length_filter_le (λi=>cnt T ((bl T).getD i 0)) (List.range (bl T).length);rw[List.length_range] at this;omega
 have f:DP (HD Z T a') Z.length 8 (.lst (((List.range (bl T).length).filter λi=>cnt T ((bl T).getD i 0)).map λi:Nat=>D.ref (Z.length+2+i)))=ddL T:=by
  have rg:(List.range (bl T).length).map (λi=>(bl T).getD i 0)=bl T:=by
   refine List.ext_getElem? λi=>?_;rw[AAV];by_cases hi:i<(bl T).length
   ·rw[List.getElem?_range hi,gt i hi];rfl
   ·rw[List.getElem?_eq_none (by rw[List.length_range];omega),List.getElem?_eq_none (by omega)];rfl
  unfold DP ddL;rw[YO]
  conv=>rhs;rw[←rg,List.filter_map,List.map_map]
  rw[List.map_map];refine congrArg D.lst (List.map_congr_left λi hi=>?_);exact Wg (gt i (List.mem_range.mp (List.mem_filter.mp hi).1))
 have:=R7 (Z:=Z) (w5:=Z) (g:=MO.lst (rfs Z.length (bl T).length)::MO.dK a'::bxs T) body rfl (HM (by unfold Cl;trivial)) rfl (by rw[f];unfold Cl;exact BB Yb _);rw[f] at this;exact this
end
end K93
set_option maxHeartbeats 4000000
namespace K93
open PySem L2 Mi Ht
open K13
open K16 (mkK)
section
variable{Z w5 w6 x6:Mh}{w9:Sl}{d:D}{ds:List D}
variable{kd:Str}{sz bg:Int}{ns:List Str}
theorem YZ:Cl k (mkK kd sz bg ns):=by
 have:=BB (k:=k) (f:=hdD) (λn=>by simp[hdD,Cl,ClL]) ns;simp[mkK,Cl,ClL,this]
theorem Pb:∃(sz bg:Int) (ns:List Str),2<=sz/\sz<=10/\0<=bg/\bg<sz/\Ns ns/\B5 [.int x,.str kd] Z=some (mkK kd sz bg ns,Z):=by
 have hz:=BV
 let s:Int:=2+x / 4 % 9
 have qs:s=2+x / 4 % 9:=rfl;have s0:2<=s:=by have:=AAY (x / 4) (show (9:Int)≠0 by decide);omega
 have s1:s<=10:=by have:=AAZ (x / 4) (show (0:Int)<9 by decide);omega
 generalize s=s at qs s0 s1;have b0:0<=x / 324 % s:=AAY _ (by omega);have b1:x / 324 % s<s:=AAZ _ (by omega);obtain⟨L,l4,lok,lnd,lix⟩:=XB (x:=x / 36);have t0:0<=x / 108 % 3:=AAY _ (by decide);have t1:x / 108 % 3<3:=AAZ _ (by decide)
 let j:Nat:=(1+(1+x / 108 % 3)).toNat
 have qj:(j:Int)=1+(1+x / 108 % 3):=by show (((1+(1+x / 108 % 3)).toNat:Nat):Int)=_;omega
 generalize j=j at qj;refine⟨s,x / 324 % s,L.take j,s0,s1,b0,b1,Tv lok lnd l4 (by omega) (by omega),?_⟩;refine An (g:=[]) (x5:=[some (.int x),some (.str kd),some (.int s),some (.lst (L.map D.str)),some (.int (1+x / 108 % 3)),some (.lst ((L.take j).map hdD))]) ?_ rfl YZ;rw[AAa];refine pq (w9:=[some (.int x),some (.str kd),some (.int s),none,none,none]) (pa (d:=.int s) (po (x:=.int 2) (y:=.int (x / 4 % 9)) rfl (po (x:=.int (x / 4)) (y:=.int 9) (po (x:=.int x) (y:=.int 4) rfl rfl (Cn (by decide) (by decide))) rfl (Db (by decide))) (by rw[qs];rfl)) rfl) ?_;refine pq (w9:=[some (.int x),some (.str kd),some (.int s),some (.lst (L.map D.str)),none,none]) (pa (po (x:=.lst [.lst (nL0.map D.str),.lst (nL1.map D.str),.lst (nL2.map D.str)]) (y:=.int (x / 36 % 3)) ?_ (po (x:=.int (x / 36)) (y:=.int 3) (po (x:=.int x) (y:=.int 36) rfl rfl (Cn (by decide) (by decide))) rfl (Db (by decide))) (lix Z)) rfl) ?_
 ·exact pd (ds:=[.lst (nL0.map D.str),.lst (nL1.map D.str),.lst (nL2.map D.str)]) (pc (pd (ds:=nL0.map D.str) rfl (As (by simp;omega))) (pc (pd (ds:=nL1.map D.str) rfl (As (by simp;omega))) (pc (pd (ds:=nL2.map D.str) rfl (As (by simp;omega))) rfl))) (As (by simp;omega))
 refine pq (w9:=[some (.int x),some (.str kd),some (.int s),some (.lst (L.map D.str)),some (.int (1+x / 108 % 3)),none]) (pa (po (x:=.int 1) (y:=.int (x / 108 % 3)) rfl (po (x:=.int (x / 108)) (y:=.int 3) (po (x:=.int x) (y:=.int 108) rfl rfl (Cn (by decide) (by decide))) rfl (Db (by decide))) rfl) rfl) ?_;refine pq (w9:=[some (.int x),some (.str kd),some (.int s),some (.lst (L.map D.str)),some (.int (1+x / 108 % 3)),some (.lst ((L.take j).map hdD))]) (pa (Bu (ds:=(L.take j).map D.str) (es:=(L.take j).map hdD) (Bf (p2 (x:=.lst (L.map D.str)) (a:=none) (b:=some (1+(1+x / 108 % 3))) rfl rfl rfl ?_)) (by simp;omega) ?_ (As (by simp;omega))) rfl) ?_
 ·show some (D.lst (DJ (L.map D.str) none (some (1+(1+x / 108 % 3)))),Z)=_;rw[←qj,KO (α:=.non) (by rw[AAF];omega),List.map_take]
 ·have:=CI (Z:=Z) (mc:=Dq) (me:=(AG A1 (AC (AA 0) (AC (mC (.int 0)) (AC (AG A1 AK) AK))))) (z9:=[none]) (f:=D.str) (F:=hdD) (p:=λ_=>true) (xs:=L.take j) (ys:=[]) (λ_ _=>rfl) (λt _ _=>pd (ds:=[.str t,.int 0,.tup []]) (pc rfl (pc rfl (pc (pd (ds:=[]) rfl (Am (by simp))) rfl))) (Am (by simp;omega)));rw[DL,List.nil_append] at this;exact this
 ·exact pr (pd (ds:=[.str kd,.int s,.int (x / 324 % s),.tup [],.tup ((L.take j).map hdD)]) (pc rfl (pc rfl (pc (po (x:=.int (x / 324)) (y:=.int s) (po (x:=.int x) (y:=.int 324) rfl rfl (Cn (by decide) (by decide))) rfl (Db (by omega))) (pc (pd (ds:=[]) rfl (Am (by simp))) (pc rfl rfl))))) (Am (by simp;omega)))
theorem So{w:Nat}{ws:List Int}{y:Int}(hw:Z[w]?=some (.lst (ws.map D.int)))(hl:ws.length<=1000)(h0:0<sz)(b0:0<=bg)(b1:bg<sz)(hin:∀x∈ws,0<=x/\x<sz):∃v:Int,0<=v/\v<sz/\CH [mkK kd sz bg ns,.ref w,.int y] Z=some (.int v,Z):=by
 have hz:=BV;obtain⟨zs,hzs,hmem,hlen⟩:∃zs:List Int,DJ (ws.map D.int) (some (-3)) none=zs.map D.int/\(∀x∈zs,x∈ws)/\zs.length<=ws.length:=by
  unfold DJ;refine⟨(ws.drop (HT.sIx (ws.map D.int).length 0 (some (-3)))).take (HT.sIx (ws.map D.int).length (ws.map D.int).length none-HT.sIx (ws.map D.int).length 0 (some (-3))),by rw[List.map_take,List.map_drop],λx hx=>List.mem_of_mem_drop (List.mem_of_mem_take hx),?_⟩;rw[List.length_take,List.length_drop];omega
 have y0:0<=y / 5 % sz:=AAY _ (by omega);have y1:y / 5 % sz<sz:=AAZ _ h0;have all:∀x∈zs++[y / 5 % sz,bg],0<=x/\x<sz:=λx hx=>by
  rcases AAJ.mp hx with z|z
  ·exact hin x (hmem x z)
  ·simp at z;rcases z with z|z
   ·rw[z];exact⟨y0,y1⟩
   ·rw[z];exact⟨b0,b1⟩
 have hne:0<(zs++[y / 5 % sz,bg]).length:=by simp
 generalize hal:zs++[y / 5 % sz,bg]=al at all hne;have i0:0<=y % (al.length:Int):=AAY _ (by omega);have i1:y % (al.length:Int)<al.length:=AAZ _ (by omega);have hall:al.length<=1002:=by rw[←hal];simp;omega
 obtain⟨i,hi⟩:∃i:Nat,y % (al.length:Int)=i:=⟨(y % (al.length:Int)).toNat,by omega⟩;have hi':i<al.length:=by omega
 refine⟨al[i],(all _ (List.getElem_mem hi')).1,(all _ (List.getElem_mem hi')).2,?_⟩;refine An (g:=[]) (x5:=[some (mkK kd sz bg ns),some (.ref w),some (.int y),some (.lst (al.map D.int))]) ?_ rfl (Be _ _);rw[AAa];refine pq (w9:=[some (mkK kd sz bg ns),some (.ref w),some (.int y),some (.lst (al.map D.int))]) (pa (d:=.lst (al.map D.int)) (po (x:=.lst (zs.map D.int)) (y:=.lst [.int (y / 5 % sz),.int bg]) (p2 (x:=.ref w) (a:=some (-3)) (b:=none) rfl (by exact Nq (pn (x:=.int 3) rfl rfl)) rfl ?_) (pd (ds:=[.int (y / 5 % sz),.int bg]) (pc (po (x:=.int (y / 5)) (y:=.int sz) (po (x:=.int y) (y:=.int 5) rfl rfl (Cn (by decide) (by decide))) (po (x:=mkK kd sz bg ns) (y:=.int 1) rfl rfl rfl) (Db h0)) rfl) (As (by simp;omega))) ?_) rfl) (pr (po (x:=.lst (al.map D.int)) (y:=.int (y % (al.length:Int))) rfl (po (x:=.int y) (y:=.int al.length) rfl (pd (ds:=[.lst (al.map D.int)]) rfl ?_) (Db (by omega))) ?_))
 ·show bnd (CP (.ref w)) (λds=>Mi.ret (D.lst (DJ ds (some (-3)) none))) Z=_;rw[AM (show CP (.ref w) Z=some (ws.map D.int,Z) from by unfold CP;dsimp only;rw[hw])];show some (D.lst (DJ (ws.map D.int) (some (-3)) none),Z)=_;rw[hzs]
 ·rw[T5 (by simp;omega),←hal,AAX];rfl
 ·show some (D.int (((al.map D.int).length:Nat):Int),Z)=_;rw[AAF]
 ·rw[hi];exact Ge (Bv (by rw[AAV,AAt hi'];rfl))
theorem UC(N:Ns ns){c:Int}{cells:D}{es:List Ev}{bs:List Nat}{ws:List Int}{o7 o8 o9 o10:Option D}(h0:2<=sz)(h1:sz<=10)(b0:0<=bg)(b1:bg<sz)(B_:Bsy ns sz es bs ws)(he:es.length<=100)(hw:ws.length<=100)(hb:bs.length<=100):
  ∃(e:Ev) (bs':List Nat) (ws':List Int) (o7' o8' o9' o10':Option D),Bsy ns sz (es++[e]) bs' ws'/\ws'.length<=ws.length+1/\bs'.length<=bs.length+1 /\
   evB (sl6 (mkK kd sz bg ns) (.lst (ns.map D.str)) cells Z.length (some (.int c)) o7 o8 o9 o10) (Z++[.lst (bD ns bs),.lst (es.map (evD ns)),.lst (ws.map D.int)]) =
    some ((.next,sl6 (mkK kd sz bg ns) (.lst (ns.map D.str)) cells Z.length (some (.int c)) o7' o8' o9' o10'),Z++[.lst (bD ns bs'),.lst ((es++[e]).map (evD ns)),.lst (ws'.map D.int)]):=by
 have hz:=BV;have hlo:=N.lo;have hhi:=N.hi;obtain⟨x,hx,ex⟩:=PZ (Z:=Z++[.lst (bD ns bs),.lst (es.map (evD ns)),.lst (ws.map D.int)]) (c:=c);obtain⟨h,hh,eh⟩:∃h:Nat,h<ns.length/\∀(o8 o9 o10:Option D) (M:Mh),AU (Ab (mOp AH (AA 5) (mOp Bi (AA 7) (AG BX (AC (AA 5) AK)))) (AO 8)) (sIf (AL (mOp AW (mOp Bi (mOp BW (AA 7) (mC (.int 4))) (mC (.int 3))) (mC (.int 0)))) (Ab (mOp AH (AA 5) (mC (.int 0))) (AO 8)) Au) (sl6 (mkK kd sz bg ns) (.lst (ns.map D.str)) cells Z.length (some (.int c)) (some (.int x)) o8 o9 o10) M=some ((.next,sl6 (mkK kd sz bg ns) (.lst (ns.map D.str)) cells Z.length (some (.int c)) (some (.int x)) (some (.str (nm ns h))) o9 o10),M):=by
  have i0:0<=x % (ns.length:Int):=AAY _ (by omega);have i1:x % (ns.length:Int)<ns.length:=AAZ _ (by omega);obtain⟨i,hi⟩:∃i:Nat,x % (ns.length:Int)=i:=⟨(x % (ns.length:Int)).toNat,by omega⟩;have hi':i<ns.length:=by omega
  have gn:∀k,k<ns.length->(ns.map D.str)[k]?=some (D.str (nm ns k)):=λk hk=>by
   rw[AAV,AAt hk];simp[nm,hk]
  have a1:∀(o8 o9 o10:Option D) (M:Mh),Ab (mOp AH (AA 5) (mOp Bi (AA 7) (AG BX (AC (AA 5) AK)))) (AO 8) (sl6 (mkK kd sz bg ns) (.lst (ns.map D.str)) cells Z.length (some (.int c)) (some (.int x)) o8 o9 o10) M=some ((.next,sl6 (mkK kd sz bg ns) (.lst (ns.map D.str)) cells Z.length (some (.int c)) (some (.int x)) (some (.str (nm ns i))) o9 o10),M):=λo8 o9 o10 M=>
   pa (po (x:=.lst (ns.map D.str)) (y:=.int (x % (ns.length:Int))) rfl (po (x:=.int x) (y:=.int ns.length) rfl (pd (ds:=[.lst (ns.map D.str)]) rfl (by show some (D.int (((ns.map D.str).length:Nat):Int),M)=_;rw[AAF])) (Db (by omega))) (by rw[hi];exact Ge (Bv (gn i hi')))) rfl
  have a2:∀(o8 o9 o10:Option D) (M:Mh),AL (mOp AW (mOp Bi (mOp BW (AA 7) (mC (.int 4))) (mC (.int 3))) (mC (.int 0))) (sl6 (mkK kd sz bg ns) (.lst (ns.map D.str)) cells Z.length (some (.int c)) (some (.int x)) o8 o9 o10) M=some (x / 4 % 3==0,M):=λo8 o9 o10 M=>AV (po (x:=.int (x / 4 % 3)) (y:=.int 0) (po (x:=.int (x / 4)) (y:=.int 3) (po (x:=.int x) (y:=.int 4) rfl rfl (Cn (by decide) (by decide))) rfl (Db (by decide))) rfl DF);by_cases q:x / 4 % 3=0
  ·refine⟨0,by omega,λo8 o9 o10 M=>pq (a1 _ _ _ _) (piT ((a2 _ _ _ _).trans (by rw[q];rfl)) (pa (po (x:=.lst (ns.map D.str)) (y:=.int 0) rfl rfl (Ge (Bv (r:=0) (gn 0 (by omega))))) rfl))⟩
  ·exact⟨i,hi',λo8 o9 o10 M=>pq (a1 _ _ _ _) (piF ((a2 _ _ _ _).trans (by rw[AAf.mpr q])) rfl)⟩
 have w0:0<=x / 60 % sz:=AAY _ (by omega);have w1:x / 60 % sz<sz:=AAZ _ (by omega);have g0:(ns.map D.str)[0]?=some (D.str (nm ns 0)):=by
  rw[AAV,AAt (by omega)];simp[nm,show 0<ns.length by omega]
 generalize hg:decide (h∈bs)=g;have hga:gA G0 es h=g:=by rw[←B_.mem,hg]
 have T1:∀(o9:Option D) (M:Mh),CO (AL (mOp AW (AA 8) (mOp AH (AA 5) (mC (.int 0))))) (AL (mOp AW (mOp AH (AA 10) (mC (.int 0))) (mC (.str "begin")))) (sl6 (mkK kd sz bg ns) (.lst (ns.map D.str)) cells Z.length (some (.int c)) (some (.int x)) (some (.str (nm ns h))) o9 (some (.tup [.str (bS (!g)),.str (nm ns h)]))) M=some ((h==0)&&!g,M):=λo9 M=>by
  have a:AL (mOp AW (AA 8) (mOp AH (AA 5) (mC (.int 0)))) (sl6 (mkK kd sz bg ns) (.lst (ns.map D.str)) cells Z.length (some (.int c)) (some (.int x)) (some (.str (nm ns h))) o9 (some (.tup [.str (bS (!g)),.str (nm ns h)]))) M=some (h==0,M):=AV (po (x:=.str (nm ns h)) (y:=.str (nm ns 0)) rfl (po (x:=.lst (ns.map D.str)) (y:=.int 0) rfl rfl (Ge (Bv (r:=0) g0))) (Q9 N hh (by omega)));have b:AL (mOp AW (mOp AH (AA 10) (mC (.int 0))) (mC (.str "begin"))) (sl6 (mkK kd sz bg ns) (.lst (ns.map D.str)) cells Z.length (some (.int c)) (some (.int x)) (some (.str (nm ns h))) o9 (some (.tup [.str (bS (!g)),.str (nm ns h)]))) M=some (!g,M):=AV (po (x:=.str (bS (!g))) (y:=.str "begin") rfl rfl Hk);cases hq:(h==0) with
  |true=>rw[hq] at a;exact Bg a b
  |false=>rw[hq] at a;exact Cr a
 have T2:∀(o9:Option D) (t:List D) (M:Mh),CO (AL (mOp EM (AA 8) (mOp AH (AA 5) (mC (.int 0))))) (AL (mOp AW (mOp AH (AA 10) (mC (.int 0))) (mC (.str "end")))) (sl6 (mkK kd sz bg ns) (.lst (ns.map D.str)) cells Z.length (some (.int c)) (some (.int x)) (some (.str (nm ns h))) o9 (some (.tup (.str (bS (!g))::t)))) M=some (!(h==0)&&g,M):=λo9 t M=>by
  have a:AL (mOp EM (AA 8) (mOp AH (AA 5) (mC (.int 0)))) (sl6 (mkK kd sz bg ns) (.lst (ns.map D.str)) cells Z.length (some (.int c)) (some (.int x)) (some (.str (nm ns h))) o9 (some (.tup (.str (bS (!g))::t)))) M=some (!(h==0),M):=AV (po (x:=.str (nm ns h)) (y:=.str (nm ns 0)) rfl (po (x:=.lst (ns.map D.str)) (y:=.int 0) rfl rfl (Ge (Bv (r:=0) g0))) (by rw[YD (N.nok hh) (N.nok (by omega)),Qt N hh (by omega)]));have b:AL (mOp AW (mOp AH (AA 10) (mC (.int 0))) (mC (.str "end"))) (sl6 (mkK kd sz bg ns) (.lst (ns.map D.str)) cells Z.length (some (.int c)) (some (.int x)) (some (.str (nm ns h))) o9 (some (.tup (.str (bS (!g))::t)))) M=some (g,M):=AV (po (x:=.str (bS (!g))) (y:=.str "end") (po (x:=.tup (.str (bS (!g))::t)) (y:=.int 0) rfl rfl (LL (Bv (r:=0) rfl))) rfl (by rw[Uv,Bool.not_not]));cases hq:(h==0) with
  |true=>rw[hq] at a;exact Cr a
  |false=>rw[hq] at a;exact Bg a b
 have fin:∀(e:Ev) (ws':List Int) (o9:Option D),e.hand=h->e.beg=!g->e.Ok ns sz->ws'.length<=ws.length+1->(∀x∈ws',0<=x/\x<sz)->∃bs':List Nat,Bsy ns sz (es++[e]) bs' ws'/\bs'.length<=bs.length+1 /\
   (AU (BD (Ak CT (AA 3) (AC (AA 10) AK))) (sIf (AL (mOp (EN false) (AA 8) (AA 2))) (BD (Ak MA (AA 2) (AC (AA 8) AK))) (BD (Ak CT (AA 2) (AC (AA 8) AK))))) (sl6 (mkK kd sz bg ns) (.lst (ns.map D.str)) cells Z.length (some (.int c)) (some (.int x)) (some (.str (nm ns h))) o9 (some (evD ns e))) (Z++[.lst (bD ns bs),.lst (es.map (evD ns)),.lst (ws'.map D.int)]) =
    some ((.next,sl6 (mkK kd sz bg ns) (.lst (ns.map D.str)) cells Z.length (some (.int c)) (some (.int x)) (some (.str (nm ns h))) o9 (some (evD ns e))),Z++[.lst (bD ns bs'),.lst ((es++[e]).map (evD ns)),.lst (ws'.map D.int)]):=λe ws' o9 he1 he2 heo hwl hwi=>by
  have wf':wfG G0 (es++[e]):=wf_app.mpr ⟨B_.wf,by rw[he1,hga,he2,Bool.not_not],trivial⟩;have ok':∀e'∈es++[e],e'.Ok ns sz:=λe' h'=>(AAJ.mp h').elim (B_.ok e') λz=>by rw[AAK] at z;subst z;exact heo
  have ap:BD (Ak CT (AA 3) (AC (AA 10) AK)) (sl6 (mkK kd sz bg ns) (.lst (ns.map D.str)) cells Z.length (some (.int c)) (some (.int x)) (some (.str (nm ns h))) o9 (some (evD ns e))) (Z++[.lst (bD ns bs),.lst (es.map (evD ns)),.lst (ws'.map D.int)])=some ((.next,sl6 (mkK kd sz bg ns) (.lst (ns.map D.str)) cells Z.length (some (.int c)) (some (.int x)) (some (.str (nm ns h))) o9 (some (evD ns e))),Z++[.lst (bD ns bs),.lst ((es++[e]).map (evD ns)),.lst (ws'.map D.int)]):=by
   refine CY (d:=.non) (CW (x:=.ref (Z.length+1)) (ds:=[evD ns e]) (w5:=Z++[.lst (bD ns bs),.lst (es.map (evD ns)),.lst (ws'.map D.int)]) (w6:=Z++[.lst (bD ns bs),.lst (es.map (evD ns)),.lst (ws'.map D.int)]) (x6:=Z++[.lst (bD ns bs),.lst (es.map (evD ns)),.lst (ws'.map D.int)]) rfl (BC t3b) rfl ?_);rw[CC t3b (by rw[AAF];omega),u3b,AAX];rfl
  have ti:AL (mOp (EN false) (AA 8) (AA 2)) (sl6 (mkK kd sz bg ns) (.lst (ns.map D.str)) cells Z.length (some (.int c)) (some (.int x)) (some (.str (nm ns h))) o9 (some (evD ns e))) (Z++[.lst (bD ns bs),.lst ((es++[e]).map (evD ns)),.lst (ws'.map D.int)])=some (g,Z++[.lst (bD ns bs),.lst ((es++[e]).map (evD ns)),.lst (ws'.map D.int)]):=
   AV (po (x:=.str (nm ns h)) (y:=.ref Z.length) rfl rfl (by rw[RD N B_.lt hh t3a,hg]))
  cases g with
  |true=>
   have hm:h∈bs:=of_decide_eq_true hg;refine⟨bs.erase h,⟨wf',ok',λk hk=>B_.lt k (List.mem_of_mem_erase hk),B_.nd.erase h,λk=>?_,hwi⟩,Nat.le_succ_of_le (List.length_erase_le ..),AT ap (Bt ti (CY (d:=.non) (CW (x:=.ref Z.length) (ds:=[.str (nm ns h)]) (w5:=Z++[.lst (bD ns bs),.lst ((es++[e]).map (evD ns)),.lst (ws'.map D.int)]) (w6:=Z++[.lst (bD ns bs),.lst ((es++[e]).map (evD ns)),.lst (ws'.map D.int)]) (x6:=Z++[.lst (bD ns bs),.lst ((es++[e]).map (evD ns)),.lst (ws'.map D.int)]) rfl (BC t3a) rfl (by rw[YB N B_.lt hh hm t3a,u3a]))))⟩;rw[Nl];unfold gS;rw[he1,he2];by_cases e0:k=h
   ·subst e0;rw[if_pos rfl,AAN (B_.nd.not_mem_erase)];rfl
   ·rw[if_neg e0,←B_.mem];have:=List.mem_erase_of_ne (l:=bs) e0;by_cases z:k∈bs
    ·rw[AAO z,AAO (this.mpr z)]
    ·rw[AAN z,AAN λy=>z (this.mp y)]
  |false=>
   have hm:h∉bs:=of_decide_eq_false hg;refine⟨bs++[h],⟨wf',ok',λk hk=>(AAJ.mp hk).elim (B_.lt k) λz=>by rw[AAK] at z;subst z;exact hh,?_,λk=>?_,hwi⟩,by simp,AT ap (Bc ti (CY (d:=.non) (CW (x:=.ref Z.length) (ds:=[.str (nm ns h)]) (w5:=Z++[.lst (bD ns bs),.lst ((es++[e]).map (evD ns)),.lst (ws'.map D.int)]) (w6:=Z++[.lst (bD ns bs),.lst ((es++[e]).map (evD ns)),.lst (ws'.map D.int)]) (x6:=Z++[.lst (bD ns bs),.lst ((es++[e]).map (evD ns)),.lst (ws'.map D.int)]) rfl (BC t3a) rfl (by rw[CC t3a (by simp;omega),u3a];simp))))⟩
   ·rw[List.nodup_append];refine⟨B_.nd,by simp,λa ha b hb'=>?_⟩;rw[AAK] at hb';subst hb';exact λz=>hm (z ▸ ha)
   ·rw[Nl];unfold gS;rw[he1,he2];by_cases e0:k=h
    ·subst e0;rw[if_pos rfl];simp
    ·rw[if_neg e0,←B_.mem];simp[e0]
 have first:∀{r:Fl×Sl} {M2:Mh},(AU (sIf (CO (AL (mOp AW (AA 8) (mOp AH (AA 5) (mC (.int 0))))) (AL (mOp AW (mOp AH (AA 10) (mC (.int 0))) (mC (.str "begin"))))) (AU (Ab (mOp Ap (AA 10) (AG A1 (AC (AA 9) AK))) (AO 10))
  (BD (Ak CT (AA 4) (AC (AA 9) AK)))) Au)
  (AU (sIf (CO (AL (mOp EM (AA 8) (mOp AH (AA 5) (mC (.int 0))))) (AL (mOp AW (mOp AH (AA 10) (mC (.int 0))) (mC (.str "end"))))) (Ab (mOp Ap (AA 10) (AG A1 (AC (AG CH (AC (AA 0) (AC (AA 4) (AC (mOp BW (AA 7) (mC (.int 60))) AK)))) AK))) (AO 10)) Au)
  (AU (BD (Ak CT (AA 3) (AC (AA 10) AK)))
  (sIf (AL (mOp (EN false) (AA 8) (AA 2))) (BD (Ak MA (AA 2) (AC (AA 8) AK))) (BD (Ak CT (AA 2) (AC (AA 8) AK))))))) (sl6 (mkK kd sz bg ns) (.lst (ns.map D.str)) cells Z.length (some (.int c)) (some (.int x)) (some (.str (nm ns h))) (some (.int (x / 60 % sz))) (some (.tup [.str (bS (!g)),.str (nm ns h)]))) (Z++[.lst (bD ns bs),.lst (es.map (evD ns)),.lst (ws.map D.int)])=some (r,M2)->
   evB (sl6 (mkK kd sz bg ns) (.lst (ns.map D.str)) cells Z.length (some (.int c)) o7 o8 o9 o10) (Z++[.lst (bD ns bs),.lst (es.map (evD ns)),.lst (ws.map D.int)])=some (r,M2):=λ{r M2} rest=>by
  have e8:=eh o8 o9 o10 (Z++[.lst (bD ns bs),.lst (es.map (evD ns)),.lst (ws.map D.int)]);refine AT (pa (d:=.int x) (po (x:=.lst [.int x]) (y:=.int 0) (pd (ds:=[.int c,.int 1]) rfl ex) rfl rfl) rfl) ?_;have Jk:∀{A B_ C:Sl->M (Fl×Sl)} {S S2:Sl} {M:Mh} {r:Fl×Sl} {M2:Mh},AU A B_ S M=some ((.next,S2),M)->C S2 M=some (r,M2)->AU A (AU B_ C) S M=some (r,M2):=λ{A B_ C S S2 M r M2} p q=>by
   unfold AU at p ⊢;cases hA:A S M with
   |none=>
    have:bnd (A S) (λr=>match r.1 with | .next=>B_ r.2|f=>Mi.ret (f,r.2)) M=none:=by unfold bnd;rw[hA]
    rw[show (bnd (A S) (λr=>match r.1 with | .next=>B_ r.2|f=>Mi.ret (f,r.2)) M)=some ((.next,S2),M) from p] at this;cases this
   |some w=>
    obtain⟨⟨f,S1⟩,M1⟩:=w;rw[AM hA] at p ⊢;cases f with
    |next=>
     have p:B_ S1 M1=some ((.next,S2),M):=p;show bnd (B_ S1) _ M1=_;rw[AM p];exact q
    |cont=>cases p
    |brk=>cases p
    |rt d=>cases p
    |xc=>cases p
  refine Jk e8 (AT (w9:=sl6 (mkK kd sz bg ns) (.lst (ns.map D.str)) cells Z.length (some (.int c)) (some (.int x)) (some (.str (nm ns h))) (some (.int (x / 60 % sz))) o10) (pa (d:=.int (x / 60 % sz)) (po (x:=.int (x / 60)) (y:=.int sz) (po (x:=.int x) (y:=.int 60) rfl rfl (Cn (by decide) (by decide))) (po (x:=mkK kd sz bg ns) (y:=.int 1) rfl rfl rfl) (Db (by omega))) rfl) (AT (w9:=sl6 (mkK kd sz bg ns) (.lst (ns.map D.str)) cells Z.length (some (.int c)) (some (.int x)) (some (.str (nm ns h))) (some (.int (x / 60 % sz))) (some (.tup [.str (bS (!g)),.str (nm ns h)]))) (pa (pd (ds:=[.str (bS (!g)),.str (nm ns h)]) (pc (po (x:=.lst [.str "begin",.str "end"]) (y:=.int (if g then 1 else 0)) (pd (ds:=[.str "begin",.str "end"]) rfl (As (by simp;omega))) (pd (ds:=[.bl g]) (pc (po (x:=.str (nm ns h)) (y:=.ref Z.length) rfl rfl (by rw[RD N B_.lt hh t3a,hg])) rfl) rfl) ?_) rfl) (Am (by simp;omega))) rfl) rest));cases g<;>rfl
 cases h with
 |zero=>
  cases g with
  |false=>
   obtain⟨bs',B',hbl,ef⟩:=fin (.wb (x / 60 % sz)) (ws++[x / 60 % sz]) (some (.int (x / 60 % sz))) rfl rfl ⟨hh,λv hv=>by cases hv;exact⟨w0,w1⟩⟩ (by simp) (λy hy=>(AAJ.mp hy).elim (B_.ws y) λz=>by rw[AAK] at z;subst z;exact⟨w0,w1⟩);refine⟨.wb (x / 60 % sz),bs',ws++[x / 60 % sz],_,_,_,_,B',by simp,hbl,first (AT (w5:=Z++[.lst (bD ns bs),.lst (es.map (evD ns)),.lst ((ws++[x / 60 % sz]).map D.int)]) (w9:=sl6 (mkK kd sz bg ns) (.lst (ns.map D.str)) cells Z.length (some (.int c)) (some (.int x)) (some (.str (nm ns 0))) (some (.int (x / 60 % sz))) (some (evD ns (.wb (x / 60 % sz))))) (Bt (T1 _ _) (AT (w5:=Z++[.lst (bD ns bs),.lst (es.map (evD ns)),.lst (ws.map D.int)]) (w9:=sl6 (mkK kd sz bg ns) (.lst (ns.map D.str)) cells Z.length (some (.int c)) (some (.int x)) (some (.str (nm ns 0))) (some (.int (x / 60 % sz))) (some (evD ns (.wb (x / 60 % sz))))) (pa (d:=evD ns (.wb (x / 60 % sz))) (po (x:=.tup [.str (bS true),.str (nm ns 0)]) (y:=.tup [.int (x / 60 % sz)]) rfl (pd (ds:=[.int (x / 60 % sz)]) rfl (Am (by simp;omega))) (FB (by simp;omega))) rfl) (CY (d:=.non) (CW (x:=.ref (Z.length+2)) (ds:=[.int (x / 60 % sz)]) (w5:=Z++[.lst (bD ns bs),.lst (es.map (evD ns)),.lst (ws.map D.int)]) (w6:=Z++[.lst (bD ns bs),.lst (es.map (evD ns)),.lst (ws.map D.int)]) (x6:=Z++[.lst (bD ns bs),.lst (es.map (evD ns)),.lst (ws.map D.int)]) rfl (BC t3c) rfl ?_)))) (AT (Bc (T2 _ _ _) rfl) ef))⟩;rw[CC t3c (by rw[AAF];omega),u3c,AAX];rfl
  |true=>
   obtain⟨bs',B',hbl,ef⟩:=fin .we ws (some (.int (x / 60 % sz))) rfl rfl ⟨hh,λv hv=>by cases hv⟩ (by omega) B_.ws;exact⟨.we,bs',ws,_,_,_,_,B',by omega,hbl,first (AT (Bc (T1 _ _) rfl) (AT (Bc (T2 _ _ _) rfl) ef))⟩
 |succ r=>
  cases g with
  |false=>
   obtain⟨bs',B',hbl,ef⟩:=fin (.rb r) ws (some (.int (x / 60 % sz))) rfl rfl ⟨hh,λv hv=>by cases hv⟩ (by omega) B_.ws;exact⟨.rb r,bs',ws,_,_,_,_,B',by omega,hbl,first (AT (Bc (T1 _ _) rfl) (AT (Bc (T2 _ _ _) rfl) ef))⟩
  |true=>
   obtain⟨v,v0,v1,ev⟩:=So (Z:=Z++[.lst (bD ns bs),.lst (es.map (evD ns)),.lst (ws.map D.int)]) (kd:=kd) (sz:=sz) (bg:=bg) (ns:=ns) (w:=Z.length+2) (ws:=ws) (y:=x / 60) t3c (by omega) (by omega) b0 b1 B_.ws;obtain⟨bs',B',hbl,ef⟩:=fin (.re r v) ws (some (.int (x / 60 % sz))) rfl rfl ⟨hh,λv' hv=>by cases hv;exact⟨v0,v1⟩⟩ (by omega) B_.ws;refine⟨.re r v,bs',ws,_,_,_,_,B',by omega,hbl,first (AT (Bc (T1 _ _) rfl) (AT (w5:=Z++[.lst (bD ns bs),.lst (es.map (evD ns)),.lst (ws.map D.int)]) (w9:=sl6 (mkK kd sz bg ns) (.lst (ns.map D.str)) cells Z.length (some (.int c)) (some (.int x)) (some (.str (nm ns (r+1)))) (some (.int (x / 60 % sz))) (some (evD ns (.re r v)))) (Bt (T2 _ _ _) (pa (d:=evD ns (.re r v)) (po (x:=.tup [.str (bS false),.str (nm ns (r+1))]) (y:=.tup [.int v]) rfl (pd (ds:=[.int v]) (pc (pd (ds:=[mkK kd sz bg ns,.ref (Z.length+2),.int (x / 60)]) (pc rfl (pc rfl (pc (po (x:=.int x) (y:=.int 60) rfl rfl (Cn (by decide) (by decide))) rfl))) ev) rfl) (Am (by simp;omega))) (FB (by simp;omega))) rfl)) ef))⟩
theorem RY(N:Ns ns)(h0:2<=sz)(h1:sz<=10)(b0:0<=bg)(b1:bg<sz):∀(cs:List Int) (es:List Ev) (bs:List Nat) (ws:List Int) (o6 o7 o8 o9 o10:Option D),Bsy ns sz es bs ws->es.length+cs.length<=60->ws.length+cs.length<=90->bs.length+cs.length<=90->
  ∃(es':List Ev) (bs':List Nat) (ws':List Int) (o6' o7' o8' o9' o10':Option D),Bsy ns sz es' bs' ws'/\es'.length=es.length+cs.length /\
   Cg (AO 6) evB (cs.map D.int) (sl6 (mkK kd sz bg ns) (.lst (ns.map D.str)) cells Z.length o6 o7 o8 o9 o10) (Z++[.lst (bD ns bs),.lst (es.map (evD ns)),.lst (ws.map D.int)]) =
    some ((.next,sl6 (mkK kd sz bg ns) (.lst (ns.map D.str)) cells Z.length o6' o7' o8' o9' o10'),Z++[.lst (bD ns bs'),.lst (es'.map (evD ns)),.lst (ws'.map D.int)])
 |[],es,bs,ws,o6,o7,o8,o9,o10,B_,_,_,_=>⟨es,bs,ws,o6,o7,o8,o9,o10,B_,rfl,rfl⟩
 |c::cs,es,bs,ws,o6,o7,o8,o9,o10,B_,l1,l2,l3=>by
  rw[AAH] at l1 l2 l3;obtain⟨e,bs1,ws1,p7,p8,p9,p10,B1,m1,m2,st⟩:=UC (Z:=Z) (kd:=kd) N (c:=c) (cells:=cells) (o7:=o7) (o8:=o8) (o9:=o9) (o10:=o10) h0 h1 b0 b1 B_ (by omega) (by omega) (by omega);obtain⟨es',bs',ws',q6,q7,q8,q9,q10,B',hl,go⟩:=RY N (cells:=cells) h0 h1 b0 b1 cs (es++[e]) bs1 ws1 (some (.int c)) p7 p8 p9 p10 B1 (by simp;omega) (by omega) (by omega);refine⟨es',bs',ws',q6,q7,q8,q9,q10,B',by rw[hl];simp;omega,?_⟩;exact Ah (x:=.int c) rfl st go
theorem OD(N:Ns ns){cs:List Int}(h0:2<=sz)(h1:sz<=10)(b0:0<=bg)(b1:bg<sz)(hc:cs.length<=30):∃es:List Ev,wfG G0 es/\(∀e∈es,e.Ok ns sz)/\es.length=cs.length/\B6 [mkK kd sz bg ns,.lst (cs.map D.int)] Z=some (.lst (es.map (evD ns)),Z):=by
 have hz:=BV;have hhi:=N.hi;have B0:Bsy ns sz [] [] [bg]:=⟨trivial,by simp,by simp,by simp,λh=>by simp[gA],λx hx=>by rw[AAK] at hx;subst hx;exact⟨b0,b1⟩⟩;obtain⟨es,bs,ws,q6,q7,q8,q9,q10,B_,hl,go⟩:=RY (Z:=Z) (kd:=kd) N (cells:=.lst (cs.map D.int)) h0 h1 b0 b1 cs [] [] [bg] none none none none none B0 (by simp;omega) (by simp;omega) (by simp;omega);refine⟨es,B_.wf,B_.ok,by rw[hl];simp,JR (k:=Z.length+1) (x5:=sl6 (mkK kd sz bg ns) (.lst (ns.map D.str)) (.lst (cs.map D.int)) Z.length q6 q7 q8 q9 q10) (g:=[.lst (bD ns bs),.lst (es.map (evD ns)),.lst (ws.map D.int)]) ?_ rfl (by omega) t3b (BB (λe=>Ya e) _)⟩;have nb:∀(M:Mh) (l:List D),l.length<=10->Dz l M=some (.ref M.length,M++[.lst l]):=λM l h=>by
  unfold Dz;rw[AM (show lim l.length M=some ((),M) from by unfold lim;rw[if_pos (by omega)])]
 refine AT (w5:=Z++[.lst []]) (w9:=[some (mkK kd sz bg ns),some (.lst (cs.map D.int)),some (.ref Z.length),none,none,none,none,none,none,none,none]) (Cq (d:=.ref Z.length) (BO (ds:=[]) rfl (nb _ _ (by simp))) rfl) ?_;refine AT (w5:=Z++[.lst [],.lst []]) (w9:=[some (mkK kd sz bg ns),some (.lst (cs.map D.int)),some (.ref Z.length),some (.ref (Z.length+1)),none,none,none,none,none,none,none]) (Cq (d:=.ref (Z.length+1)) (BO (ds:=[]) rfl (by rw[nb _ _ (by simp)];simp)) rfl) ?_;refine AT (w5:=Z++[.lst [],.lst [],.lst [.int bg]]) (w9:=[some (mkK kd sz bg ns),some (.lst (cs.map D.int)),some (.ref Z.length),some (.ref (Z.length+1)),some (.ref (Z.length+2)),none,none,none,none,none,none]) (Cq (d:=.ref (Z.length+2)) (BO (ds:=[.int bg]) (w5:=Z++[.lst [],.lst []]) (pc (po (x:=mkK kd sz bg ns) (y:=.int 2) rfl rfl rfl) rfl) (by rw[nb _ _ (by simp)];simp)) rfl) ?_;refine AT (w9:=sl6 (mkK kd sz bg ns) (.lst (ns.map D.str)) (.lst (cs.map D.int)) Z.length none none none none none) (pa (K16.names_comp rfl (by omega)) rfl) ?_;exact AT (ET (Bf (ds:=cs.map D.int) rfl) go) (Dx (w5:=Z++[.lst (bD ns bs),.lst (es.map (evD ns)),.lst (ws.map D.int)]) rfl)
end
end K93
set_option maxHeartbeats 4000000
namespace K93
open PySem L2 Mi Ht Nk Hs Wb
open K13 (Ev Ev.beg Ev.hand Ev.val Cz bS evD hdD Ns nm wfG BB Be BV BF Aj Fe)
open K16 (D9 Bj wH JY Av Ar A6 BH Af CF mkK mkW S0)
open K12 (Cl1 clD HJ mwD Ii E6 DS DT)
open K15
section
variable{Z:Mh}{QD:D->Mh->Prop}{sz bg v:Int}{hs:List D}{cs U:List Cs}{r:Nat}
theorem OB(F:Fit (cs.map (GW v)) U)(q:∀K,Cl1 (cs.map (GW v)) K->QD (clD K) Z):WP (CG [mwD sz bg hs,clD cs,.int v]) Z QD:=by
 have hl:=F.many;rw[AAF] at hl;unfold CG;refine DN rfl ?_;unfold Av;wtm_at "c";refine Ii ?_;wtm_at "c";refine⟨by rw[AAF,sizeLine_eq];omega,?_⟩;refine Kh _ (λ_=>true) (λc=>csD (GW v c)) (λc hc=>?_) ?_
 ·wtm_at "c";refine⟨rfl,?_⟩;wtm_at "c";refine⟨rfl,rfl,λ_=>?_⟩;wtm_at "c";exact Dj K16.v_cbW ⟨rfl,rfl⟩
 ·rw[List.filter_eq_self.mpr λ_ _=>rfl];refine Ja (by rw[AAF,sizeLine_eq];omega) ?_;wtm_at "c";rw[show (cs.map λc=>csD (GW v c))=(cs.map (GW v)).map csD by rw[List.map_map];rfl];refine ED F λK k=>?_;exact⟨_,_,[],rfl,by simp,E6 _ _,q K k⟩
theorem PK(hr:∀c∈cs,r<c.2.2.length)(h3:∀c∈cs,c.2.2.length<=3)(F:Fit (cs.map (GX r)) U)(q:∀K,Cl1 (cs.map (GX r)) K->QD (clD K) Z):WP (CS [mwD sz bg hs,clD cs,.int r]) Z QD:=by
 have hl:=F.many;rw[AAF] at hl;unfold CS;refine DN rfl ?_;unfold A6;wtm_at "c";refine Ii ?_;wtm_at "c";refine⟨by rw[AAF,sizeLine_eq];omega,?_⟩;refine Kh _ (λ_=>true) (λc=>csD (GX r c)) (λc hc=>?_) ?_
 ·wtm_at "c";refine⟨rfl,?_⟩;wtm_at "c";refine⟨rfl,rfl,λ_=>?_⟩;wtm_at "c";exact Dj (K16.v_cbR (hr c hc) (by have:=h3 c hc;omega)) ⟨rfl,rfl⟩
 ·rw[List.filter_eq_self.mpr λ_ _=>rfl];refine Ja (by rw[AAF,sizeLine_eq];omega) ?_;wtm_at "c";rw[show (cs.map λc=>csD (GX r c))=(cs.map (GX r)).map csD by rw[List.map_map];rfl];refine ED F λK k=>?_;exact⟨_,_,[],rfl,by simp,E6 _ _,q K k⟩
end
section
variable{Z:Mh}{QD:D->Mh->Prop}{m cl t g:D}{r:Nat}
theorem ZP(h:WP (CG [m,cl,t]) Z λd w5=>Cl Z.length d/\w5=Z/\QD d Z):WP (Aq [m,cl,.tup [.str "begin",.int ((0:Nat):Int),t,g]]) Z QD:=by
 unfold Aq;refine DN rfl ?_;unfold Af;wtm_at "d";exact A8 h λd w5 ⟨c,e,q⟩=>⟨_,_,[],rfl,by rw[e];simp,c,q⟩
theorem ZS(h:WP (Ax [m,cl]) Z λd w5=>Cl Z.length d/\w5=Z/\QD d Z):WP (Aq [m,cl,.tup [.str "end",.int ((0:Nat):Int),t,g]]) Z QD:=by
 unfold Aq;refine DN rfl ?_;unfold Af;wtm_at "d";exact A8 h λd w5 ⟨c,e,q⟩=>⟨_,_,[],rfl,by rw[e];simp,c,q⟩
theorem ZR(h:WP (CS [m,cl,.int (r:Int)]) Z λd w5=>Cl Z.length d/\w5=Z/\QD d Z):WP (Aq [m,cl,.tup [.str "begin",.int ((r+1:Nat):Int),t,g]]) Z QD:=by
 unfold Aq;refine DN rfl ?_;unfold Af;wtm_at "d";rw[show (((r+1:Nat):Int)-1)=(r:Int) by omega];wtm_at "d";exact A8 h λd w5 ⟨c,e,q⟩=>⟨_,_,[],rfl,by rw[e];simp,c,q⟩
theorem ZQ(h:WP (BN [m,cl,.int (r:Int),t]) Z λd w5=>Cl Z.length d/\w5=Z/\QD d Z):WP (Aq [m,cl,.tup [.str "end",.int ((r+1:Nat):Int),t,g]]) Z QD:=by
 unfold Aq;refine DN rfl ?_;unfold Af;wtm_at "d";rw[show (((r+1:Nat):Int)-1)=(r:Int) by omega];wtm_at "d";exact A8 h λd w5 ⟨c,e,q⟩=>⟨_,_,[],rfl,by rw[e];simp,c,q⟩
end
section
variable{Z:Mh}{QD:D->Mh->Prop}{ws:List Int}{is:List Bool}{a:Int}{mm:Option Int}{cs S:List Cs}{G:Nat->Bool}{sz bg:Int}{ns:List Str}
theorem W5(st:St ws is a mm cs)(bz:Bz G is mm)(h:∀x,x∈cs↔x∈S)(hw:G e.hand=!e.beg)(hh:e.hand<is.length+1)(hv:∀v,e=.wb v->v∈ws)
  (q0:GN S e=true->QD .non Z) (q:GN S e=false->∀(K:List Cs) (is':List Bool) (a':Int) (mm':Option Int),St ws is' a' mm' K->Bz (λx=>if x=e.hand then e.beg else G x) is' mm'->is'.length=is.length->(∀x,x∈K↔x∈clo (pre S e))->QD (clD K) Z) :
  WP (Aq [mkW sz bg ns,clD cs,Cz e g]) Z QD:=by
 have h3:∀c∈cs,c.2.2.length=is.length:=λc hc=>st.len hc;have h33:=st.S.len;cases e with
 |wb v=>
  have m0:mm=none:=by
   have:=bz.w.trans hw;cases mm with
   |none=>rfl
   |some b=>cases this
  subst m0;have st':=st.wb (hv v rfl);refine ZP (OB st'.fit λK k=>⟨E6 _ _,rfl,q rfl K is a (some v) (st'.clo k) ⟨rfl,λr hr=>?_⟩ rfl (HC (.wb v) h k)⟩);exact bz.r r hr
 |we=>
  obtain⟨b,rfl⟩:∃b,mm=some b:=by
   have:=bz.w.trans hw;cases mm with
   |none=>cases this
   |some b=>exact⟨b,rfl⟩
  have st':=st.we;refine ZS (Lr st.many st'.fit λK k=>⟨E6 _ _,rfl,q rfl K is b none (st'.clo k) ⟨rfl,λr hr=>?_⟩ rfl (HC .we h k)⟩);exact bz.r r hr
 |rb r=>
  have hr:r<is.length:=by
   have:r+1<is.length+1:=hh;omega
  have ho:is[r]?=some true:=by rw[bz.r r hr,show G (r+1)=false from hw];rfl
  have st':=st.rb ho;refine ZR (PK (λc hc=>by rw[h3 c hc];exact hr) (λc hc=>by rw[h3 c hc];exact h33) st'.fit λK k=>⟨E6 _ _,rfl,q rfl K _ a mm (st'.clo k) ⟨bz.w,λj hj=>?_⟩ (AAv ..) (HC (.rb r) h k)⟩);rw[AAv] at hj;by_cases z:r=j
  ·subst z;rw[List.getElem?_set_self hr];show some false=some (!(if r+1=r+1 then true else G (r+1)));rw[if_pos rfl];rfl
  ·rw[AAo z,bz.r j hj];show _=some (!(if j+1=r+1 then true else G (j+1)));rw[if_neg (by omega)]
 |re r v=>
  have hr:r<is.length:=by
   have:r+1<is.length+1:=hh;omega
  have st':=st.re (r:=r) (v:=v);have ge:GN S (.re r v)=(HJ cs r v).isEmpty:=by
   show (S.filterMap (Dd r v)).isEmpty=(cs.filterMap (Dd r v)).isEmpty;rw[Bool.eq_iff_iff,List.isEmpty_iff,List.isEmpty_iff,List.eq_nil_iff_forall_not_mem,List.eq_nil_iff_forall_not_mem];exact⟨λz x hx=>z x ((J5 h (.re r v) x).mp hx),λz x hx=>z x ((J5 h (.re r v) x).mpr hx)⟩
  refine ZQ (SX (v:=v) st.many (λc hc=>by rw[h3 c hc];exact hr) (λc hc=>by rw[h3 c hc];exact h33) st'.fit (λz=>⟨by unfold Cl;trivial,rfl,q0 (by rw[ge,z];rfl)⟩) λz K k=>⟨E6 _ _,rfl,q (by rw[ge];cases y:HJ cs r v with|nil=>exact absurd y z|cons _ _=>rfl) K _ a mm (st'.clo k) ⟨bz.w,λj hj=>?_⟩ (AAv ..) (HC (.re r v) h k)⟩);rw[AAv] at hj;by_cases z:r=j
  ·subst z;rw[List.getElem?_set_self hr];show some true=some (!(if r+1=r+1 then false else G (r+1)));rw[if_pos rfl];rfl
  ·rw[AAo z,bz.r j hj];show _=some (!(if j+1=r+1 then false else G (j+1)));rw[if_neg (by omega)]
theorem Sd(N:Ns ns)(ok:∀e∈es,e.Ok ns sz)(wf:wfG (λ_=>false) es)(hl:es.length<=100)(S0':K15.Shp ws (List.replicate (ns.length-1) true) bg none)(hv:∀v,Ev.wb v∈es->v∈ws)(q:QD (.bl (GJ (S0 bg (ns.length-1)) es)) Z):WP (D4 [mkW sz bg ns,.lst (es.map (evD ns))]) Z QD:=by
 have hhi:=N.hi;have hlo:=N.lo;obtain⟨gs,hg,ea⟩:=K16.v_acts (Z:=Z) (kd := "whole") (bg:=bg) N ok wf hl;rw[K16.eq_acts] at ea;have eb:=K16.v_begunW (Z:=Z) (sz:=sz) (bg:=bg) (ns:=ns) (by omega) hlo;rw[K16.eq_begun] at eb;unfold D4;refine DN rfl ?_;unfold CF;wtm_at "d";refine Dj eb ?_;wtm_at "d";refine Dj ea ?_;wtm_at "d";have st0:St ws (List.replicate (ns.length-1) true) bg none (S0 bg (ns.length-1)):=⟨S0',by simp[S0],λc hc=>by
  rw[AAK.mp hc];refine mem_Uc.mpr ⟨?_,rfl,rfl⟩;show List.replicate (ns.length-1) (-1)∈_;generalize ns.length-1=k
  induction k with
  |zero=>simp[tlU]
  |succ k ih=>exact mem_tlU.mpr ⟨-1,List.replicate k (-1),rfl,rfl,ih⟩⟩
 have hzip:=Fe hg;refine Lv (I:=λrest B Z'=>∃(ps:List (Ev×Int)) (S cs:List Cs) (is:List Bool) (a:Int) (mm:Option Int) (G:Nat->Bool) (o3:Option D),rest=ps.map (λp=>Cz p.1 p.2)/\GJ (S0 bg (ns.length-1)) es=GJ S (ps.map (·.1))/\St ws is a mm cs/\Bz G is mm/\is.length=ns.length-1/\(∀x,x∈cs↔x∈S)/\wfG G (ps.map (·.1))/\(∀e∈ps.map (·.1),e∈es)/\Z'=Z/\B=[some (mkW sz bg ns),some (.lst (es.map (evD ns))),some (clD cs),o3]) ?_ ?_ ⟨es.zip gs,_,_,_,_,_,λ_=>false,none,rfl,by rw[hzip],st0,⟨rfl,λr hr=>by rw[List.getElem?_replicate,if_pos (by rw[AAn] at hr;exact hr)];rfl⟩,AAn,λ_=>Iff.rfl,by rw[hzip];exact wf,by rw[hzip];exact λ_ h=>h,rfl,rfl⟩
 ·rintro x xs B Z' ⟨ps,S,cs,is,a,mm,G,o3,hr,hj,st,bz,il,hm,hw,hsub,rfl,rfl⟩;cases ps with
  |nil=>cases hr
  |cons p ps=>
   rw[AAW] at hr;obtain⟨e3,e4⟩:=List.cons.inj hr;subst e3;obtain⟨w1,w2⟩:=hw;have pm:p.1∈es:=hsub p.1 AAP;wtm_at "d";refine W5 st bz hm w1 (by rw[il];have:=(ok p.1 pm).h;omega) (λv e=>hv v (by rw[←e];exact pm)) (λgn=>?_) λgn K is' a' mm' st' bz' il' hm'=>?_
   ·wtm_at "d";refine⟨_,_,[],rfl,by simp,by unfold Cl;trivial,?_⟩;have:GJ S ((p::ps).map (·.1))=false:=by
     show (if GN S p.1=true then false else _)=false;rw[if_pos gn]
    rw[hj,this] at q;exact q
   ·wtm_at "d";refine PU ⟨ps,clo (pre S p.1),K,is',a',mm',_,_,e4,?_,st',bz',il'.trans il,hm',w2,λe he=>hsub e (AAQ _ he),rfl,rfl⟩;rw[hj];show (if GN S p.1=true then false else _)=_;rw[gn];rfl
 ·rintro B Z' ⟨ps,S,cs,is,a,mm,G,o3,hr,hj,st,bz,il,hm,hw,hsub,rfl,rfl⟩;cases ps with
  |cons p ps=>cases hr
  |nil=>
   wtm_at "d";refine⟨_,_,[],rfl,by simp,by unfold Cl;trivial,?_⟩;rw[hj] at q;exact q
end
end K93
namespace K93
open PySem L2 Mi Nk Wb Ht
open K13 (Ev Ev.beg Ev.hand Ev.val wfG Ns evD hdD nm Be BV po pc pd p2 pq pa piT piF pr Ah As KO Pc Ut Bb B5 B6 XZ)
open K15 (Gd mem_wz)
open K16 (S0 mkK mkW)
section
variable{Z:Mh}{sz bg:Int}{ns:List Str}{es:List Ev}
theorem P1:∀(es:List Ev) {T:Tk},(run T es).n=T.n+es.length
 |[],_=>rfl
 |e::es,T=>by
  show (run (T.step e) es).n=_;rw[P1 es,HP,AAH];omega
theorem P0{P:Int->Prop}:∀(es:List Ev) {T:Tk},(∀b v,T.wv b=some (some v)->P v)->(∀e∈es,∀v,e.val=some v->P v)->∀b v,(run T es).wv b=some (some v)->P v
 |[],_,h,_=>h
 |e::es,T,h,he=>by
  refine P0 es (T:=T.step e) (λb v q=>?_) λf hf=>he f (AAQ _ hf);have h1:=he e AAP;have up:∀w:Option Int,(∀v,w=some v->P v)->upd T.wv T.n (some w) b=some (some v)->P v:=λw hw q=>by
   by_cases z:b=T.n
   ·rw[z,AY] at q;exact hw v (Option.some.inj q)
   ·rw[AS z] at q;exact h b v q
  cases e with
  |wb u=>exact up (some u) (λv e=>h1 v e) q
  |rb r=>exact up none (λv e=>by cases e) q
  |we=>exact h b v q
  |re r u=>exact h b v q
theorem VH(g:Gd ns sz bg es):D4 [mkK "whole" sz bg ns,.lst (es.map (evD ns))] Z=some (.bl (GJ (S0 bg (ns.length-1)) es),Z):=by
 have l1:=g.l1;obtain⟨d,Z',e,rfl,rfl⟩:=Sd (QD:=λd Z'=>d=.bl (GJ (S0 bg (ns.length-1)) es)/\Z'=Z) (Z:=Z) g.N g.ok g.wf (by omega) g.shp (λv hv=>AAQ _ (mem_wz.mpr hv)) ⟨rfl,rfl⟩;exact e
theorem WG:Mo T N n []:=⟨List.nodup_nil,(λ_ h=>by cases h),λ_ _ _ _ h=>by cases h⟩
theorem Pa(g:Gd ns sz bg es)(h14:es.length<=14):∃K',DI 16 [ddL (run T0 es),ksD (List.range (dl (run T0 es)).length),.int bg,.ref Z.length] (Z++[.dP []])=some (.bl (GJ (S0 bg (ns.length-1)) es),Z++[.dP K']):=by
 have ok:=L7 es ok0 (G:=λ_=>false) (λ_=>rfl) g.wf g.ok;have ln:=P1 es (T:=T0);have hT:=P0 (P:=λv=>0<=v/\v<10) es (T:=T0) (λb v q=>by cases q) λe he v hv=>by
  have:=(g.ok e he).v v hv;have:=g.h1;exact⟨by omega,by omega⟩
 have hlo:=g.N.lo;have js:=Of (bg:=bg) (m:=ns.length-1) g.b0 g.wf (λe he v hv=>((g.ok e he).v v hv).1) λe he=>by have:=(g.ok e he).h;omega
 rw[XA ok] at js;have d1:(dl (run T0 es)).length<=14:=by
  have:(dl (run T0 es)).length<=(run T0 es).n:=AAs (List.length_filter_le ..) (by rw[List.length_range];exact AAE _);have z:(run T0 es).n=es.length:=ln.trans (Nat.zero_add _);omega
 generalize run T0 es=T at ok hT js d1 ⊢;have b1:=g.b1;have h1:=g.h1;obtain⟨K',e,_⟩:=Mu (Z:=Z++[.dP []]) (d:=Z.length) ok (by rw[AAG,List.length_singleton];omega) d1 hT 16 (List.range (dl T).length) bg [] (by rw[List.length_range];omega) (List.Sublist.refl _) ⟨g.b0,by omega⟩ WG;have st:∀x,(Z++[MO.dP []]).set Z.length x=Z++[x]:=λx=>by rw[AAg _ _ (AAE _),AAu];rfl
 have rg:(List.range (dl T).length).map (fk T)=dl T:=by
  refine List.ext_getElem? λi=>?_;rw[AAV];by_cases hi:i<(dl T).length
  ·rw[List.getElem?_range hi,LV hi];rfl
  ·rw[List.getElem?_eq_none (by rw[List.length_range];omega),List.getElem?_eq_none (by omega)];rfl
 rw[st,st,rg,List.length_range] at e;refine⟨K',e.trans ?_⟩;rw[show bb T (dl T).length (dl T) bg=GJ (S0 bg (ns.length-1)) es from Bool.eq_iff_iff.mpr js.symm]
noncomputable abbrev ZE:Sl->M (Fl×Sl):=(AU (Ab (AG Fz (AC (AA 1) (AC (Er (AA 2) C6 (C0 (AA 3))) AK))) (AO 4))
  (sIf (AL (mOp EM (AG D4 (AC (AA 1) (AC (AG J8 (AC (Er (AA 2) C6 (C0 (AA 3))) AK)) AK))) (AG (DI 16) (AC (AA 4) (AC (mUn (ND D.lst) (AG BX (AC (AA 4) AK))) (AC (mOp AH (AA 1) (mC (.int 2))) (AC Qu AK))))))) (A5 (mC (.bl false))) Au))
noncomputable abbrev s5(o0:Option D)(mk ev:D)(o3 o4:Option D):Sl:=[o0,some mk,some ev,o3,o4]
theorem Q4(g:Gd ns sz bg es)(h14:es.length<=14):∀(k s:Nat) (M:Mh) (o3 o4:Option D),s+k=es.length+1->∃(M':Mh) (o3' o4':Option D),
  Cg (AO 3) ZE ((List.range' s k).map λi:Nat=>D.int i) (s5 o0 (mkK "whole" sz bg ns) (.lst (es.map (evD ns))) o3 o4) M=some ((.next,s5 o0 (mkK "whole" sz bg ns) (.lst (es.map (evD ns))) o3' o4'),M')
 |0,s,M,o3,o4,_=>⟨M,o3,o4,rfl⟩
 |k+1,s,M,o3,o4,h=>by
  have g':=g.pre s;have l14:(es.take s).length<=14:=by rw[List.length_take];omega
  have wf:=g'.wf;have vd:=Sx (Z:=M) (mk:=mkK "whole" sz bg ns) g.N g'.wf g'.ok (by omega);have vj:=VH (Z:=M) g';obtain⟨K',vs⟩:=Pa (Z:=M) g' l14;have dll:(dl (run T0 (es.take s))).length<=1000:=by
   have:(dl (run T0 (es.take s))).length<=(run T0 (es.take s)).n:=AAs (List.length_filter_le ..) (by rw[List.length_range];exact AAE _);rw[P1] at this;have:T0.n=0:=rfl;omega
  generalize run T0 (es.take s)=T at vd vs dll;obtain⟨M',p3,p4,go⟩:=Q4 g h14 (o0:=o0) k (s+1) (M++[.dP K']) (some (.int s)) (some (ddL T)) (by omega);refine⟨M',p3,p4,Ah (x:=.int s) (w9:=s5 o0 (mkK "whole" sz bg ns) (.lst (es.map (evD ns))) (some (.int s)) o4) (w5:=M) rfl ?_ go⟩;have sl:∀o:Option D,Er (AA 2) C6 (C0 (AA 3)) (s5 o0 (mkK "whole" sz bg ns) (.lst (es.map (evD ns))) (some (.int s)) o) M=some (.lst ((es.take s).map (evD ns)),M):=λo=>by
   refine p2 (x:=.lst (es.map (evD ns))) (a:=none) (b:=some (s:Int)) rfl rfl rfl ?_;show some (D.lst (DJ (es.map (evD ns)) none (some (s:Int))),M)=_;rw[KO (α:=.non) (by rw[AAF];omega),List.map_take]
  refine AT (w5:=M) (w9:=s5 o0 (mkK "whole" sz bg ns) (.lst (es.map (evD ns))) (some (.int s)) (some (ddL T))) (pa (d:=ddL T) (pd (ds:=[mkK "whole" sz bg ns,.lst ((es.take s).map (evD ns))]) (pc rfl (pc (sl _) rfl)) vd) rfl) ?_;refine Bc (w5:=M++[.dP K']) (AV (Rc (w5:=M) (w6:=M++[.dP K']) (pd (ds:=[mkK "whole" sz bg ns,.lst ((es.take s).map (evD ns))]) (pc rfl (pc (pd (ds:=[.lst ((es.take s).map (evD ns))]) (pc (sl _) rfl) rfl) rfl)) vj) (BO (ds:=[ddL T,ksD (List.range (dl T).length),.int bg,.ref M.length]) (w5:=M++[.dP []]) ?_ vs) Ut)) rfl;refine Co (w5:=M) rfl (Co (x:=ksD (List.range (dl T).length)) (w5:=M) ?_ (Co (x:=.int bg) (w5:=M) (po (x:=mkK "whole" sz bg ns) (y:=.int 2) rfl rfl rfl) (Co (x:=.ref M.length) (w5:=M++[.dP []]) rfl rfl)));unfold mUn;rw[AM (pd (d:=.int (dl T).length) (ds:=[ddL T]) rfl (by show some (D.int ((((dl T).map (ddD T)).length:Nat):Int),M)=_;rw[AAF]))];show (if (0:Int)<=(dl T).length/\((dl T).length:Int)<=1000 then some (D.lst (NS ((dl T).length:Int).toNat),M) else none)=_;rw[if_pos ⟨by omega,by omega⟩,Int.toNat_natCast];unfold NS;rw[List.map_map];rfl
theorem math:∀cs:List Int,cs.length<=63->∃Z',RX [.scr cs] []=some (.bl true,Z'):=by
 intro cs hc;have hz:=BV;obtain⟨c,ec⟩:=Pc (Z:=[]) hc;obtain⟨sz,bg,ns,h0,h1,b0,b1,N,em⟩:=Pb (Z:=[]) (kd := "whole") (x:=c);have hhi:=N.hi;have cut:∀n:Nat,∃ds:List Int,DJ (cs.map D.int) (some 1) (some ((n+1:Nat):Int))=ds.map D.int/\ds.length<=n:=λn=>by
  unfold DJ;refine⟨(cs.drop (HT.sIx (cs.map D.int).length 0 (some 1))).take (HT.sIx (cs.map D.int).length (cs.map D.int).length (some ((n+1:Nat):Int))-HT.sIx (cs.map D.int).length 0 (some 1)),by rw[List.map_take,List.map_drop],?_⟩;rw[show (1:Int)=((1:Nat):Int) from rfl,HT.Gx,HT.Gx,List.length_take,List.length_drop,AAF];omega
 have many:∃n:Nat,n<=14/\(ns.length=4->n<=10)/\(15:Int)-4 * (if decide ((3:Int)<ns.length) then 1 else 0)=((n+1:Nat):Int):=by
  by_cases z:ns.length=4
  ·exact⟨10,by omega,λ_=>AAE _,by rw[z];rfl⟩
  ·exact⟨14,by omega,λy=>absurd y z,by rw[AAN (by omega)];rfl⟩
 obtain⟨n,n1,n2,en⟩:=many;obtain⟨ds,hds,hdl⟩:=cut n;obtain⟨es,wf,ok,el,ee⟩:=OD (Z:=[]) (kd := "whole") N h0 h1 b0 b1 (cs:=ds) (by omega);have g:Gd ns sz bg es:=⟨N,h0,h1,b0,b1,wf,ok,by omega,λz=>by have:=n2 z;omega⟩;obtain⟨M',q3,q4,go⟩:=Q4 g (by omega) (o0:=some (.scr cs)) (es.length+1) 0 [] none none (by omega);refine⟨[],An (g:=M') (x5:=s5 (some (.scr cs)) (mkK "whole" sz bg ns) (.lst (es.map (evD ns))) q3 q4) ?_ rfl (by unfold Cl;trivial)⟩;rw[List.nil_append];refine AT (w5:=[]) (w9:=[some (.scr cs),some (mkK "whole" sz bg ns),none,none,none]) (pa (pd (ds:=[.int c,.str "whole"]) (pc (pd (ds:=[.scr cs,.int 0]) rfl ec) rfl) em) rfl) ?_;have e4:AG BX (AC (mOp AH (AA 1) (mC (.int 4))) AK) [some (.scr cs),some (mkK "whole" sz bg ns),none,none,none] []=some (.int ns.length,[]):=pd (ds:=[.tup (ns.map hdD)]) (pc (po (x:=mkK "whole" sz bg ns) (y:=.int 4) rfl rfl rfl) rfl) (by show some (D.int (((ns.map hdD).length:Nat):Int),([]:Mh))=_;rw[AAF]);have e5:AG KF (AC (mOp OP (AG BX (AC (mOp AH (AA 1) (mC (.int 4))) AK)) (mC (.int 3))) AK) [some (.scr cs),some (mkK "whole" sz bg ns),none,none,none] []=some (.int (if decide ((3:Int)<ns.length) then 1 else 0),[]):=pd (ds:=[.bl (decide ((3:Int)<ns.length))]) (pc (po (x:=.int ns.length) (y:=.int 3) e4 rfl rfl) rfl) (by cases decide ((3:Int)<ns.length)<;>rfl);refine AT (w5:=[]) (w9:=s5 (some (.scr cs)) (mkK "whole" sz bg ns) (.lst (es.map (evD ns))) none none) (pa (pd (ds:=[mkK "whole" sz bg ns,.lst (ds.map D.int)]) (pc rfl (pc (p2 (x:=.scr cs) (a:=some 1) (b:=some ((n+1:Nat):Int)) rfl rfl ?_ ?_) rfl)) ee) rfl) ?_
 ·rw[←en];unfold C0;rw[AM (po (g:=Do) (x:=.int 15) (y:=.int (4 * (if decide ((3:Int)<ns.length) then 1 else 0))) (d:=.int (15-4 * (if decide ((3:Int)<ns.length) then 1 else 0))) rfl (po (x:=.int 4) (y:=.int (if decide ((3:Int)<ns.length) then 1 else 0)) rfl e5 rfl) rfl)];rfl
 ·show some (D.lst (DJ (cs.map D.int) (some 1) (some ((n+1:Nat):Int))),([]:Mh))=_;rw[hds]
 have ln:AG BX (AC (AA 2) AK) (s5 (some (.scr cs)) (mkK "whole" sz bg ns) (.lst (es.map (evD ns))) none none) []=some (.int es.length,[]):=pd (ds:=[.lst (es.map (evD ns))]) rfl (by show some (D.int (((es.map (evD ns)).length:Nat):Int),([]:Mh))=_;rw[AAF]);have r1:Hg (AC (mOp Ap (AG BX (AC (AA 2) AK)) (mC (.int 1))) AK) (s5 (some (.scr cs)) (mkK "whole" sz bg ns) (.lst (es.map (evD ns))) none none) []=some ((List.range' 0 (es.length+1)).map λi:Nat=>D.int i,[]):=by
  unfold Hg;rw[AM (pc (as:=AK) (x:=.int ((es.length+1:Nat):Int)) (po (x:=.int es.length) (y:=.int 1) ln rfl (by show some (D.int ((es.length:Int)+1),([]:Mh))=_;rw[Int.natCast_add];rfl)) rfl)];unfold NE;dsimp only;rw[if_pos (by omega),XZ,List.range_eq_range']
 exact AT (ET r1 go) (Dx rfl)
end
end K93
open PySem PySem.W PyProof.Rows
local macro_rules | `(tactic| wtm_at "b")=>`(tactic| (refine' Mi.YQ ?qa ?ql ?qc ?qk;(case qa=>k_is);(case ql=>k_is);(case qc=>k_is);(case qk=>k_is)))
local macro_rules | `(tactic| wtm_at "r")=>`(tactic| (refine' Mi.dc_mk ?qa ?qb ?qc ?qd ?qe ?qf;(case qa=>k_is);(case qb=>k_is);(case qc=>k_is);(case qd=>k_is);(case qe=>k_is)))
local macro_rules | `(tactic| wtm_at "q")=>`(tactic| (refine' Mi.di_mk ?qa ?qb ?qc ?qd ?qe ?qf ?qg ?qh;(case qa=>k_is);(case qb=>k_is);(case qc=>k_is);(case qd=>k_is);(case qe=>k_is);(case qf=>k_is);(case qg=>k_is);(case qh=>k_is)))
local macro_rules | `(tactic| wtm_at "o")=>`(tactic| (refine' Mi.dm_mk ?qa ?qb ?qc ?qd ?qe ?qf ?qg ?qh ?qi ?qj;(case qa=>k_is);(case qb=>k_is);(case qc=>k_is);(case qd=>k_is);(case qe=>k_is);(case qf=>k_is);(case qg=>k_is);(case qh=>k_is);(case qi=>k_is);(case qj=>k_is)))
local macro_rules | `(tactic| wtm_at "m")=>`(tactic| (refine' Mi.tl_mk ?pl ?pe;(case pl=>k_is);(case pe=>rfl)))
set_option maxRecDepth 100000 in
set_option maxHeartbeats 0 in
theorem PySem.Challenge.cw_strongboxes_k93_whole_whole_boxes_by_all_holds : PySem.Challenge.rw_strongboxes_k93_whole_whole_boxes_by_all.Holds := by
 w_on;o_law;k_head;(case hw=>w_witness2)
 k_fill
 refine Mi.W6 (k:=19) (l:=PySem.Challenge.rw_strongboxes_k93_whole_whole_boxes_by_all) rfl rfl (by decide) (λw h Y_=>PySem.W.kIn_of Y_) ?F
 case F=>
  intro w mg fa h KX G hmg;refine' K93.all_mk K93.math ⟨KX,G,?e0,?e1,?e2,?e3,?e4,?e5,?e6,?e7,?e8,?e9,?e10,?e11,?e12,?e13,?e14,?e15,?e16,?e17,?e18,?e19,?e20,?e21,?e22,?e23,?e24,?e25,?e26,?e27,(PySem.W.mg_none_of KX G ?z0),(PySem.W.mg_none_of KX G ?z1),(PySem.W.mg_none_of KX G ?z2),(PySem.W.mg_none_of KX G ?z3),(PySem.W.mg_none_of KX G ?z4),(PySem.W.mg_none_of KX G ?z5),(PySem.W.mg_none_of KX G ?z6),(PySem.W.mg_none_of KX G ?z7),(PySem.W.mg_none_of KX G ?z8),?gk0,?gk1,?gk2,?gk3⟩ hmg
  (case e0=>wtm_at "b")
  (case e1=>wtm_at "b")
  (case e2=>wtm_at "b")
  (case e3=>wtm_at "b")
  (case e4=>wtm_at "b")
  (case e5=>wtm_at "b")
  (case e6=>wtm_at "b")
  (case e7=>wtm_at "b")
  (case e8=>wtm_at "b")
  (case e9=>wtm_at "b")
  (case e10=>wtm_at "b")
  (case e11=>wtm_at "b")
  (case e12=>wtm_at "b")
  (case e13=>wtm_at "b")
  (case e14=>wtm_at "b")
  (case e15=>wtm_at "b")
  (case e16=>wtm_at "b")
  (case e17=>wtm_at "b")
  (case e18=>wtm_at "b")
  (case e19=>wtm_at "b")
  (case e20=>wtm_at "b")
  (case e21=>wtm_at "b")
  (case e22=>wtm_at "b")
  (case e23=>wtm_at "b")
  (case e24=>wtm_at "b")
  (case e25=>wtm_at "b")
  (case e26=>wtm_at "b")
  (case e27=>wtm_at "b")
  (case z0=>k_is)
  (case z1=>k_is)
  (case z2=>k_is)
  (case z3=>k_is)
  (case z4=>k_is)
  (case z5=>k_is)
  (case z6=>k_is)
  (case z7=>k_is)
  (case z8=>k_is)
  (case gk0=>refine' Mi.G9 KX G ?qa;(case qa=>k_is))
  (case gk1=>refine' Mi.G9 KX G ?qa;(case qa=>k_is))
  (case gk2=>refine' Mi.G9 KX G ?qa;(case qa=>k_is))
  (case gk3=>refine' Mi.G9 KX G ?qa;(case qa=>k_is))

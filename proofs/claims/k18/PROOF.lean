import PyProof.Rows.All
import Wide.All
import Wide.FinOn
import OpenK.KLine
import KE.KPairTest
import KE.KDictSum
import KE.KDictOf
import KE.KRevSl
import KE.KDictList
import KE.KIsAll
import KE.KPairComp
import KE.KItem
import PyProof.EqAt
import PyProof.EqKinds
import PyProof.TupleCall
import OpenK.AllK
import KE.KSortTup
import KE.KSortAsk
import PySem.Challenge.RW_strongboxes_k18_an_order_just_where_a_wh
set_option Elab.async false
set_option linter.all false
set_option maxRecDepth 100000
set_option maxHeartbeats 4000000
set_option autoImplicit true
set_option relaxedAutoImplicit true
set_option bootstrap.genMatcherCode false
set_option genSizeOf false
section
open PySem PySem.W PyProof.Rows
abbrev AAA:=@wpAny_bind
abbrev AAB:=@wpAny_pure
abbrev AAC:=@Heap.get?_push_of_some
abbrev AAD:=@Heap.get?_push_size
abbrev AAE:=@Nat.le_refl
abbrev AAF:=@List.length_map
abbrev AAG:=@List.length_append
abbrev AAH:=@List.length_cons
abbrev AAI:=@List.mem_cons
abbrev AAJ:=@List.mem_append
abbrev AAK:=@List.mem_singleton
abbrev AAL:=@List.mem_map
abbrev AAM:=@Nat.lt_of_lt_of_le
abbrev AAN:=@decide_eq_false
abbrev AAO:=@decide_eq_true
abbrev AAP:=@List.mem_cons_self
abbrev AAQ:=@List.mem_cons_of_mem
abbrev AAR:=@List.getElem?_append_right
abbrev AAS:=@List.getElem?_append_left
abbrev AAT:=@List.getElem?_eq_some_iff
abbrev AAU:=@List.mem_of_getElem?
abbrev AAV:=@List.getElem?_map
abbrev AAW:=@List.map_cons
abbrev AAX:=@List.map_append
abbrev AAY:=@List.append_nil
abbrev AAZ:=@List.mem_append_right
abbrev AAa:=@List.mem_append_left
abbrev AAb:=@wpAny_call_entry
abbrev AAc:=@Nat.ne_of_lt
abbrev AAd:=@beq_eq_false_iff_ne
abbrev AAe:=@List.set_append_right
abbrev AAf:=@Bool.false_ne_true
abbrev AAg:=@Nat.lt_succ_of_lt
abbrev AAh:=@wpAny_mono
abbrev AAi:=@Nat.zero_le
abbrev AAj:=@List.replicate_succ
abbrev AAk:=@List.append_assoc
abbrev AAl:=@List.length_replicate
abbrev AAm:=@List.getElem?_set_ne
abbrev AAn:=@wpAny_holding
abbrev AAo:=@wpAny_setField_rec
abbrev AAp:=@wpAny_newObj_type
abbrev AAq:=@Nat.le_trans
abbrev AAr:=@List.getElem?_eq_getElem
abbrev AAs:=@wpAny_field
abbrev AAt:=@Nat.sub_self
abbrev AAu:=@List.length_set
abbrev AAv:=@Nat.lt_irrefl
abbrev AAw:=@List.pairwise_cons
end
noncomputable def PySem.W.Fast.tw14579288086298172286:Nat:=0
noncomputable def PySem.W.Fast.tw7053318238313445564:Nat:=0
noncomputable def PySem.W.Fast.tw10741993041250901347:Nat:=0
noncomputable def PySem.W.Fast.tw4879677297002259777:Nat:=0
noncomputable def PySem.W.Fast.tw15046072734545451036:Nat:=0
noncomputable def PySem.W.Fast.tw14065397322532360439:Nat:=0
noncomputable def PySem.W.Fast.tw11343486669349913503:Nat:=0
noncomputable def PySem.W.Fast.tw11947029817074988878:Nat:=0
noncomputable def PySem.W.Fast.tw5303983143805652955:Nat:=0
noncomputable def PySem.W.Fast.tw12090206196250951818:Nat:=0
noncomputable def PySem.W.Fast.tw14844000017436022013:Nat:=0
noncomputable def PySem.W.Fast.tw11324365521354511244:Nat:=0
noncomputable def PySem.W.Fast.tw9477457965236332005:Nat:=0
noncomputable def PySem.W.Fast.tw9133904881122632441:Nat:=0
noncomputable def PySem.W.Fast.tw6312569143246136312:Nat:=0
noncomputable def PySem.W.Fast.tw18225858127266006845:Nat:=0
noncomputable def PySem.W.Fast.tw17546015105301655944:Nat:=0
noncomputable def PySem.W.Fast.tw11946096507859537543:Nat:=0
noncomputable def PySem.W.Fast.tw2938661510695572274:Nat:=0
noncomputable def PySem.W.Fast.tw970827199526744038:Nat:=0
noncomputable def PySem.W.Fast.tw1111299209472459301:Nat:=0
noncomputable def PySem.W.Fast.tw4454737181561331554:Nat:=0
noncomputable def PySem.W.Fast.tw9750386350176498334:Nat:=0
noncomputable def PySem.W.Fast.tw16891408084201396953:Nat:=0
noncomputable def PySem.W.Fast.tw6433124416793985897:Nat:=0
noncomputable def PySem.W.Fast.tw15458482772596345572:Nat:=0
noncomputable def PySem.W.Fast.tw2396743327432496503:Nat:=0
noncomputable def PySem.W.Fast.tw7181865826091304451:Nat:=0
noncomputable def PySem.W.Fast.tw9792117482634712531:Nat:=0
noncomputable def PySem.W.Fast.tw2756296715369665080:Nat:=0
noncomputable def PySem.W.Fast.tw15508924415938428462:Nat:=0
noncomputable def PySem.W.Fast.tw7558564765681508522:Nat:=0
noncomputable def PySem.W.Fast.tw8675170045789692364:Nat:=0
noncomputable def PySem.W.Fast.tw4981234289205275803:Nat:=0
noncomputable def PySem.W.Fast.tw10867394085318216025:Nat:=0
noncomputable def PySem.W.Fast.tw16966376951320903091:Nat:=0
noncomputable def PySem.W.Fast.tw14679631830406816246:Nat:=0
noncomputable def PySem.W.Fast.tw16591097558730837150:Nat:=0
noncomputable def PySem.W.Fast.tw7233800341163688167:Nat:=0
noncomputable def PySem.W.Fast.tw15795137034229378531:Nat:=0
noncomputable def PySem.W.Fast.tw3312770423354460465:Nat:=0
noncomputable def PySem.W.Fast.tw14936866737641596728:Nat:=0
noncomputable def PySem.W.Fast.tw13561147622403150930:Nat:=0
noncomputable def PySem.W.Fast.tw694638100032169405:Nat:=0
noncomputable def PySem.W.Fast.tw14908767449670509234:Nat:=0
noncomputable def PySem.W.Fast.tw15350733108304488608:Nat:=0
noncomputable def PySem.W.Fast.tw6980661462961892766:Nat:=0
noncomputable def PySem.W.Fast.tw4124668730321496492:Nat:=0
noncomputable def PySem.W.Fast.tw11136872674445375165:Nat:=0
noncomputable def PySem.W.Fast.tw6702649831246456878:Nat:=0
noncomputable def PySem.W.Fast.tw10636685134936768581:Nat:=0
noncomputable def PySem.W.Fast.tw17700235858672406117:Nat:=0
noncomputable def PySem.W.Fast.tw14924516249838033116:Nat:=0
noncomputable def PySem.W.Fast.tw14981532432393071824:Nat:=0
noncomputable def PySem.W.Fast.tw8285955756826312747:Nat:=0
noncomputable def PySem.W.Fast.tw8636318978520900694:Nat:=0
noncomputable def PySem.W.Fast.tw6696093262038610231:Nat:=0
noncomputable def PySem.W.Fast.tw4051271537439747025:Nat:=0
noncomputable def PySem.W.Fast.tw17598197539065911313:Nat:=0
noncomputable def PySem.W.Fast.tw5436984140440523328:Nat:=0
noncomputable def PySem.W.Fast.tw11408526860715332435:Nat:=0
noncomputable def PySem.W.Fast.tw14230487104843406507:Nat:=0
noncomputable def PySem.W.Fast.tw7406994592050522023:Nat:=0
noncomputable def PySem.W.Fast.tw17876594920606678184:Nat:=0
noncomputable def PySem.W.Fast.tw1118495975265582013:Nat:=0
noncomputable def PySem.W.Fast.tw3284452497706674264:Nat:=0
noncomputable def PySem.W.Fast.tw1775073123282089947:Nat:=0
noncomputable def PySem.W.Fast.tw6579499697781057547:Nat:=0
noncomputable def PySem.W.Fast.tw12964855376885855679:Nat:=0
noncomputable def PySem.W.Fast.tw15568183939976640803:Nat:=0
noncomputable def PySem.W.Fast.tw1469725237341862877:Nat:=0
noncomputable def PySem.W.Fast.tw14605229134543441200:Nat:=0
noncomputable def PySem.W.Fast.tw9839210087650123258:Nat:=0
noncomputable def PySem.W.Fast.tw18098077156928974799:Nat:=0
noncomputable def PySem.W.Fast.tw6257569502045590302:Nat:=0
noncomputable def PySem.W.Fast.tw9283127035835865658:Nat:=0
noncomputable def PySem.W.Fast.tw7417931435064332582:Nat:=0
noncomputable def PySem.W.Fast.tw17618167604905946499:Nat:=0
noncomputable def PySem.W.Fast.tw16338234166094999008:Nat:=0
noncomputable def PySem.W.Fast.tw1200383142876497721:Nat:=0
noncomputable def PySem.W.Fast.tw12796069196541421981:Nat:=0
noncomputable def PySem.W.Fast.tw3175623755975684570:Nat:=0
noncomputable def PySem.W.Fast.tw6248934029744257608:Nat:=0
noncomputable def PySem.W.Fast.tw3562501127834144637:Nat:=0
noncomputable def PySem.W.Fast.tw8539388406655298725:Nat:=0
noncomputable def PySem.W.Fast.tw13997373662966847252:Nat:=0
noncomputable def PySem.W.Fast.tw14141392816887010260:Nat:=0
noncomputable def PySem.W.Fast.tw12574843253335836125:Nat:=0
noncomputable def PySem.W.Fast.tw8651952233512447900:Nat:=0
noncomputable def PySem.W.Fast.tw16668075049293471567:Nat:=0
noncomputable def PySem.W.Fast.tw16852585221232018665:Nat:=0
noncomputable def PySem.W.Fast.tw15176087266893179633:Nat:=0
noncomputable def PySem.W.Fast.tw13167951792003168267:Nat:=0
noncomputable def PySem.W.Fast.tw11572650433038104815:Nat:=0
noncomputable def PySem.W.Fast.tw10743807672348383351:Nat:=0
noncomputable def PySem.W.Fast.tw3398114197945163005:Nat:=0
noncomputable def PySem.W.Fast.tw8798139630675804489:Nat:=0
noncomputable def PySem.W.Fast.tw8445186441379582442:Nat:=0
noncomputable def PySem.W.Fast.tw7043501917935877951:Nat:=0
noncomputable def PySem.W.Fast.tw5567400914094237740:Nat:=0
noncomputable def PySem.W.Fast.tw12009228514870529480:Nat:=0
noncomputable def PySem.W.Fast.tw2661547579499694513:Nat:=0
noncomputable def PySem.W.Fast.tw16922170612534576208:Nat:=0
noncomputable def PySem.W.Fast.tw15693051889970500130:Nat:=0
noncomputable def PySem.W.Fast.tw21216695129778514:Nat:=0
noncomputable def PySem.W.Fast.tw15584974167868522449:Nat:=0
noncomputable def PySem.W.Fast.tw5828614106182853592:Nat:=0
noncomputable def PySem.W.Fast.tw12260734352894926490:Nat:=0
noncomputable def PySem.W.Fast.tw12353366095141706226:Nat:=0
noncomputable def PySem.W.Fast.tw519061983677154868:Nat:=0
noncomputable def PySem.W.Fast.tw4775100628995199757:Nat:=0
noncomputable def PySem.W.Fast.tw879682054410816241:Nat:=0
noncomputable def PySem.W.Fast.tw6930441245157851809:Nat:=0
noncomputable def PySem.W.Fast.tw16741211979543164727:Nat:=0
noncomputable def PySem.W.Fast.tw5965185149061124996:Nat:=0
noncomputable def PySem.W.Fast.tw9063588336051385678:Nat:=0
noncomputable def PySem.W.Fast.tw6159390611381125374:Nat:=0
noncomputable def PySem.W.Fast.tw11394191840343618376:Nat:=0
noncomputable def PySem.W.Fast.tw8040289835840321331:Nat:=0
noncomputable def PySem.W.Fast.tw4072275392330844632:Nat:=0
namespace L2
open PySem PySem.Spec PyProof.Rows
abbrev Key:=Sum Int Str
noncomputable def K6:Key->Value->Bool
 | .inl k,v=>Value.isInt k v
 | .inr x,v=>Value.isStrOf x v
noncomputable def ci(w:World):Key->Int
 | .inl k=>hashInt k
 | .inr x=>hashStr w x
theorem B4:∀{k:Key} {v:Value},K6 k v=true->(∃i t,k=Sum.inl i/\v=Value.int i t)∨(∃x t,k=Sum.inr x/\v=Value.str x t)
 | .inl i,v,h=>by
  obtain⟨t,e⟩:=Value.isInt_shape h;exact .inl ⟨i,t,rfl,e⟩
 | .inr x,v,h=>by
  obtain⟨t,e⟩:=Value.isStrOf_shape h;exact .inr ⟨x,t,rfl,e⟩
theorem RH(i:Int)(t:Tok):K6 (.inl i) (.int i t)=true:=by simp[K6,Value.isInt]
theorem RF(x:Str)(t:Tok):K6 (.inr x) (.str x t)=true:=by simp[K6,Value.isStrOf]
theorem ZR(a b:Int):decide ((Sum.inl a:Key)=Sum.inl b)=(a==b):=by
 by_cases e:a=b
 ·subst e;simp
 simp_all
theorem ZO(a b:Str):decide ((Sum.inr a:Key)=Sum.inr b)=decide (a=b):=by simp
theorem ZQ(a:Int)(b:Str):decide ((Sum.inl a:Key)=Sum.inr b)=false:=AAN (by grind)
theorem ZP(a:Str)(b:Int):decide ((Sum.inr a:Key)=Sum.inl b)=false:=AAN (by grind)
noncomputable def CZ(prog:Program)(w:World):PySem.KeyKind prog w Key where
 is:=K6
 hash:=ci w
 inj:=λv a b g f=>by
  rcases B4 g with ⟨i,t,rfl,rfl⟩|⟨x,t,rfl,rfl⟩
  ·rcases B4 f with ⟨j,u,rfl,e⟩|⟨y,u,rfl,e⟩
   ·injection e with c _;rw[c]
   ·exact nomatch e
  ·rcases B4 f with ⟨j,u,rfl,e⟩|⟨y,u,rfl,e⟩
   ·exact nomatch e
   ·injection e with c _;rw[c]
 byValue:=λk v h=>by
  rcases B4 h with ⟨i,t,rfl,rfl⟩|⟨x,t,rfl,rfl⟩<;>rfl
 pyHash:=λd h=>by
  rcases B4 d with ⟨i,t,rfl,rfl⟩|⟨x,t,rfl,rfl⟩
  ·exact wpAny_pyHash_int h
  ·exact wpAny_pyHash_str h
 eqBool:=λl d h=>by
  rcases B4 l with ⟨i,t,rfl,rfl⟩|⟨x,t,rfl,rfl⟩
  ·rcases B4 d with ⟨j,u,rfl,rfl⟩|⟨y,u,rfl,rfl⟩
   ·rw[ZR] at h;exact wpAny_eqBool_int h
   ·rw[ZQ] at h;exact SeqAt.EqAt.int_str i t y u _ _ _ _ h
  ·rcases B4 d with ⟨j,u,rfl,rfl⟩|⟨y,u,rfl,rfl⟩
   ·rw[ZP] at h;exact SeqAt.EqAt.str_int x t j u _ _ _ _ h
   ·rw[ZO] at h;exact wpAny_eqBool_str h
 «strs»:=λk x t v h=>by
  rcases B4 h with ⟨i,u,rfl,e⟩|⟨y,u,rfl,e⟩
  ·exact nomatch e
  ·injection e with c _
   subst c;cases v<;>rfl
theorem NG(prog:Program)(w:World)(i:Int)(t:Tok):(CZ prog w).is (.inl i) (.int i t)=true:=RH i t
theorem NF(prog:Program)(w:World)(x:Str)(t:Tok):(CZ prog w).is (.inr x) (.str x t)=true:=RF x t
inductive V where
 |non|bl (b:Bool)|int (i:Int)|str (x:Str)|byt (b:Array UInt8)|flt (b:UInt64)|ref (a:Addr)|ty (n:String)
 deriving DecidableEq
def RelV:V->Value->Prop
 | .non,u=>u=Value.none
 | .bl b,u=>u=Value.bool b
 | .int i,u=>∃t,u=Value.int i t
 | .str x,u=>∃t,u=Value.str x t
 | .byt b,u=>∃t,u=Value.bytes b t
 | .flt b,u=>∃t,u=Value.float b t
 | .ref a,u=>u=Value.ref a
 | .ty n,u=>u=Value.type n
abbrev Vals:List V->List Value->Prop:=Paired RelV
theorem Vals.length(r:Vals xs a):xs.length=a.length:=Paired.length r
theorem Vals.get:∀{xs:List V} {a:List Value} {i:Nat} {x:V},Vals xs a->xs[i]?=some x->∃u,a[i]?=some u/\RelV x u
 |_,_,_,_,.nil,e=>by trivial
 |_,_,0,_,.cons r _,e=>by simp at e;subst e;exact⟨_,rfl,r⟩
 |_,_,i+1,x,.cons _ t,e=>by
  obtain⟨u,c,b⟩:=Vals.get t (by trivial);exact⟨u,by trivial,b⟩
theorem Vals.set(r:RelV x u):∀{xs:List V} {a:List Value} (i:Nat),Vals xs a->Vals (xs.set i x) (a.set i u)
 |_,_,_,.nil=>.nil
 |_,_,0,.cons _ t=>.cons r t
 |_,_,i+1,.cons q t=>.cons q (Vals.set r i t)
theorem Vals.append:∀{xs ys:List V} {a b:List Value},Vals xs a->Vals ys b->Vals (xs++ys) (a++b)
 |_,_,_,_,.nil,s=>s
 |_,_,_,_,.cons r t,s=>.cons r (Vals.append t s)
theorem Vals.take:∀{xs:List V} {a:List Value} (n:Nat),Vals xs a->Vals (xs.take n) (a.take n)
 |_,_,0,_=>.nil
 |_,_,_+1,.nil=>.nil
 |_,_,n+1,.cons r t=>.cons r (Vals.take n t)
theorem Vals.drop:∀{xs:List V} {a:List Value} (n:Nat),Vals xs a->Vals (xs.drop n) (a.drop n)
 |_,_,0,r=>r
 |_,_,_+1,.nil=>.nil
 |_,_,n+1,.cons _ t=>Vals.drop n t
noncomputable def RelO:Option V->Option Value->Prop
 |some v,some u=>RelV v u
 |none,none=>True
 |_,_=>False
noncomputable def KV{a:Type}:List (a×V)->List (a×Value)->Prop:=Paired λ(p:a×V) (q:a×Value)=>p.1=q.1/\RelV p.2 q.2
noncomputable def kV:Key->V
 | .inl i=>.int i
 | .inr x=>.str x
inductive HO where
 |lst (xs:List V)
 |tup (xs:List V)
 |dK (kvs:List (Key×V))|dT (kvs:List (List Key×V))
 |set (S:Int->Bool) (n:Nat)
 |ins (C dx:Addr) (fs:List (Str×V))
 |own (x:Addr)
 |xd (fs:List (Str×V))
 |met (f x:Addr)
 |rng (lo hi:Int)
 |frz (o:Obj) (u:HO)
 |tbl (ps:Array Value)
 |ext (φ:Heap->Prop)
abbrev Hp:=Addr->Option HO
noncomputable def upd(H:Hp)(a:Addr)(o:HO):Hp:=λb=>if b=a then some o else H b
theorem Br:upd H a o a=some o:=by unfold upd;simp_all
theorem upd_ne(h:b≠a):upd H a o b=H b:=by unfold upd;rw[if_neg h]
theorem bG{H:Hp}(h:H a=some o)(c:H b=some u)(d:o≠u):a≠b:=by
 intro e;subst e;rw[h] at c;exact d (Option.some.inj c)
theorem C5{H:Hp}(h:H a=some o)(c:H b=none):a≠b:=by
 intro e;simp_all
section
variable(P:Program)(w:World)
noncomputable def ObjOk(H:Hp)(h:Heap)(a:Addr):HO->Prop
 | .lst d=>d.length<=sizeLine/\∃(b:List Value) (n:Nat),Vals d b/\h.get? a=some { cls:=.type "list",data:=.seq b.toArray n }
 | .tup d=>d.length<=sizeLine/\∃b:List Value,Vals d b/\IsTup h a b.toArray
 | .dK c=>c.length<=sizeLine/\(a==sysModules)=false/\∃k,KV c k/\h.DictOf (CZ P w) a k
 | .dT c=>c.length<=sizeLine/\(a==sysModules)=false/\∃d:List (List Key×Addr×Value),
   Paired (λ(p:List Key×V) (q:List Key×Addr×Value)=>p.1=q.1/\H q.2.1=some (.tup (p.1.map kV))/\RelV p.2 q.2.2) c d /\
   ∃o l s,h.get? a=some o/\o.ExactDict/\o.data=.dict l s/\l.toList=d.map (entryOfKey (tupleKind (CZ P w)))/\(d.map (·.1)).Nodup
 | .set S n=>h.SetOf (intKind P w) a S n
 | .ins C i g=>H i=some (.own a)/\g.length<=1000/\i≠a/\h.get? a=some (PySem.W.instObj C i) /\
   ∃e,h.Ns1 i e/\(∀f,RelO (g.lookup f) (e f))/\PySem.Within e (g.map (·.1))
 | .own _=>∃o,h.get? a=some o
 | .xd g=>∃e,h.Ns1 a e/\∀f,RelO (g.lookup f) (e f)
 | .rng lo y=>∃t u v,h.get? a=some { cls:=.type "range",data:=.fields #[.int lo t,.int y u,.int 1 v] }
 | .frz o u=>h.get? a=some o/\ObjOk H h a u
 | .tbl z=>h.get? a=some { cls:=.none,data:=.fields z }
 | .met f x=>h.get? a=some (PySem.W.methodObj (.ref f) (.ref x))
 | .ext j=>j h/\(∃o,h.get? a=some o)/\∀m r:Heap,j m->(∀o,m.get? a=some o->r.get? a=some o)->j r
def HOk(H:Hp)(h:Heap):Prop:=∀a o,H a=some o->ObjOk P w H h a o
end
section
variable{P:Program}{w:World}{H H':Hp}{h h':Heap}{a:Addr}{o:HO}
theorem ObjOk.lt(x:ObjOk P w H h a o):a<h.objs.size:=by
 cases o with
 |lst c=>obtain⟨_,_,_,_,e⟩:=x;exact Heap.lt_size e
 |tup c=>obtain⟨_,_,_,p⟩:=x;exact p.lt
 |dK b=>obtain⟨_,_,_,_,o,_,_,e,_⟩:=x;exact Heap.lt_size e
 |dT b=>obtain⟨_,_,_,_,o,_,_,e,_⟩:=x;exact Heap.lt_size e
 |set S n=>obtain⟨o,_,_,_,e,_⟩:=x;exact Heap.lt_size e
 |ins C g d=>obtain⟨_,_,_,e,_⟩:=x;exact Heap.lt_size e
 |own y=>obtain⟨_,e⟩:=x;exact Heap.lt_size e
 |xd d=>obtain⟨_,⟨_,_,_,e,_⟩,_⟩:=x;exact Heap.lt_size e
 |rng lo i=>obtain⟨_,_,_,e⟩:=x;exact Heap.lt_size e
 |frz j u=>obtain⟨e,_⟩:=x;exact Heap.lt_size e
 |tbl k=>exact Heap.lt_size x
 |met f y=>exact Heap.lt_size x
 |ext l=>obtain⟨_,⟨_,e⟩,_⟩:=x;exact Heap.lt_size e
theorem Paired.mapP:∀{c:List α} {d:List e},Paired F c d->(∀a b,F a b->G a b)->Paired G c d
 |_,_,.nil,_=>.nil
 |_,_,.cons r t,f=>.cons (f _ _ r) (Paired.mapP t f)
theorem ObjOk.stay(x:ObjOk P w H h a o)(k:∀b u,(b=a∨H b=some (.own a))->h.get? b=some u->h'.get? b=some u)
  (B:∀b,H b=some (.own a)->H' b=some (.own a)) (D:∀b xs,H b=some (.tup xs)->H' b=some (.tup xs)):ObjOk P w H' h' a o:=by
 induction o with
 |lst xs=>obtain⟨z,l,n,r,e⟩:=x;exact⟨z,l,n,r,k _ _ (.inl rfl) e⟩
 |tup xs=>obtain⟨z,l,r,g,e,c⟩:=x;exact⟨z,l,r,g,k _ _ (.inl rfl) e,c⟩
 |dK m=>obtain⟨z,y,E,r,g,i,j,e,c⟩:=x;exact⟨z,y,E,r,g,i,j,k _ _ (.inl rfl) e,c⟩
 |dT m=>
  obtain⟨z,y,xs,r,g,i,j,e,c⟩:=x;exact⟨z,y,xs,Paired.mapP r λp q z=>⟨z.1,D _ _ z.2.1,z.2.2⟩,g,i,j,k _ _ (.inl rfl) e,c⟩
 |set S n=>obtain⟨g,i,j,t,e,c⟩:=x;exact⟨g,i,j,t,k _ _ (.inl rfl) e,c⟩
 |ins C L F=>
  obtain⟨d,z,G,e,s,⟨A,i,j,I,c⟩,r⟩:=x;exact⟨B _ d,z,G,k _ _ (.inl rfl) e,s,⟨A,i,j,k _ _ (.inr d) I,c⟩,r⟩
 |own y=>obtain⟨g,e⟩:=x;exact⟨g,k _ _ (.inl rfl) e⟩
 |xd F=>obtain⟨s,⟨A,i,j,e,c⟩,r⟩:=x;exact⟨s,⟨A,i,j,k _ _ (.inl rfl) e,c⟩,r⟩
 |rng lo M=>obtain⟨t,u,v,e⟩:=x;exact⟨t,u,v,k _ _ (.inl rfl) e⟩
 |frz g u J=>obtain⟨e,q⟩:=x;exact⟨k _ _ (.inl rfl) e,J q⟩
 |tbl N=>
  have e  := x;exact k a _ (.inl rfl) e
 |met f y=>
  have e  := x;exact k a _ (.inl rfl) e
 |ext O=>obtain⟨p,⟨o,e⟩,st⟩:=x;exact⟨st _ _ p λo=>k _ _ (.inl rfl),⟨o,k _ _ (.inl rfl) e⟩,st⟩
theorem HOk.lt(x:HOk P w H h)(e:H a=some o):a<h.objs.size:=(x a o e).lt
theorem HOk.fresh(x:HOk P w H h)(e:h.objs.size<=a):H a=none:=by
 cases q:H a with
 |none=>rfl
 |some u=>exact absurd (AAM (x.lt q) e) (AAv _)
theorem HOk.kept(x:HOk P w H h)(k:∀b u,h.get? b=some u->h'.get? b=some u):HOk P w H h':=λa o e=>
 (x a o e).stay (λb u _=>k b u) (λ_ q=>q) λ_ _ q=>q
theorem HOk.laid(x:HOk P w H h)(k:∀b u,h.get? b=some u->h'.get? b=some u)(g:h.objs.size<=a)(i:ObjOk P w (upd H a o) h' a o):HOk P w (upd H a o) h':=λb u e=>by
 have d:=x.fresh g;by_cases f:b=a
 ·subst f;rw[Br] at e;simp_all
 ·rw[upd_ne f] at e;exact(x b u e).stay (λc v _=>k c v) (λc q=>by rw[upd_ne (C5 q d)];exact q) λc j q=>by rw[upd_ne (C5 q d)];exact q
end
def Rd(H:Hp)(a:Addr)(u:HO):Prop:=H a=some u∨∃o,H a=some (.frz o u)
theorem Rd.ok(r:Rd H a u)(x:HOk P w H h):ObjOk P w H h a u:=by
 rcases r with r|⟨o,r⟩
 ·exact x a u r
 ·obtain⟨_,q⟩:=x a _ r;exact q
noncomputable def Mut:Option HO->Prop
 |some (.lst _)=>True
 |some (.dK _)=>True
 |some (.dT _)=>True
 |some (.set _ _)=>True
 |some (.ins _ _ _)=>True
 |some (.ext _)=>True
 |_=>False
section
variable{P:Program}{w:World}{H:Hp}{h h':Heap}{x e:Addr}{o':HO}
theorem HOk.write(o:HOk P w H h)(g:Mut (H x))(p:e=x∨H e=some (.own x))(k:∀b u,b≠e->h.get? b=some u->h'.get? b=some u)(j:∃u,h'.get? e=some u)
  (s:ObjOk P w (upd H x o') h' x o'):HOk P w (upd H x o') h':=λb u q=>by
 have d:∀c y,H c=some (.own y)->c≠x:=λc y r z=>by subst z;rw[r] at g;exact g
 have f:∀c i,H c=some (.tup i)->c≠x:=λc i r z=>by subst z;rw[r] at g;exact g
 by_cases l:b=x
 ·subst l;rw[Br] at q;simp_all
 ·rw[upd_ne l] at q;by_cases a:b=e
  ·have m:H b=some (.own x):=by
    rcases p with z|z
    ·exact absurd (a.trans z) l
    ·rw[a];exact z
   rw[q] at m;cases m;obtain⟨v,t⟩:=j;exact⟨v,by rw[a];exact t⟩
  ·refine(o b u q).stay (λc v n=>k c v ?_) (λc r=>by rw[upd_ne (d c b r)];exact r) λc i r=>by rw[upd_ne (f c i r)];exact r
   rcases n with rfl|n
   ·exact a
   ·rintro rfl
    simp_all
end
structure Un(fs ex:List Addr)(H H':Hp)(h h':Heap):Prop where
 keep:∀b o,h.get? b=some o->H b=none->b∉fs->b∉ex->h'.get? b=some o
 slot:∀b o,h.get? b=some o->H b=none->b∈fs->b∉ex->∃sl,h'.get? b=some { o with slots:=sl }
 free:∀b o,h.get? b=some o->H b=none->b∉ex->H' b=none
 there:∀b o,h.get? b=some o->b∉ex->∃o',h'.get? b=some o'
 tups:∀b xs,H b=some (.tup xs)->H' b=some (.tup xs)
 frzs:∀b o u,H b=some (.frz o u)->H' b=some (.frz o u)
 tbls:∀b ps,H b=some (.tbl ps)->∃more,H' b=some (.tbl (ps++more))
section
variable{fs ex:List Addr}{H H1:Hp}{h h1 h':Heap}{a x e:Addr}{o:HO}
theorem Un.any(u:Un fs ex H H1 h h1)(q:h.get? b=some c)(n:H b=none)(d:b∉ex):∃g,h1.get? b=some { c with slots:=g }:=by
 by_cases f:b∈fs
 ·exact u.slot b c q n f d
 ·exact⟨_,u.keep b c q n f d⟩
theorem Un.kept(k:∀b u,h.get? b=some u->h'.get? b=some u):Un fs ex H H h h':=
 ⟨λb c q _ _ _=>k b c q,λb c q _ _ _=>⟨c.slots,k b c q⟩,λ_ _ _ n _=>n,λb c q _=>⟨c,k b c q⟩,λ_ _ q=>q,λ_ _ _ q=>q,λ_ d q=>⟨#[],by rw[q];simp⟩⟩
theorem Un.refl:Un fs ex H H h h:=Un.kept λ_ _ q=>q
theorem Un.laid(k:∀b u,h.get? b=some u->h'.get? b=some u)(c:h.objs.size<=a)(hn:H a=none):Un fs ex H (upd H a o) h h' where
 keep:=λb u q _ _ _=>k b u q
 slot:=λb u q _ _ _=>⟨_,k b u q⟩
 free:=λb u q n _=>by rw[upd_ne (AAc (AAM (Heap.lt_size q) c))];exact n
 there:=λb u q _=>⟨u,k b u q⟩
 tups:=λb d q=>by rw[upd_ne (C5 q hn)];exact q
 frzs:=λb u d q=>by rw[upd_ne (C5 q hn)];exact q
 tbls:=λb f q=>⟨#[],by rw[upd_ne (C5 q hn),q];simp⟩
theorem Un.write(g:Mut (H x))(m:e=x∨H e=some (.own x))(k:∀b u,b≠e->h.get? b=some u->h'.get? b=some u)(d:∃u,h'.get? e=some u):Un fs ex H (upd H x o) h h':=by
 have j:∀b,H b=none->b≠x:=λb n z=>by subst z;rw[n] at g;exact g
 have i:∀b,H b=none->b≠e:=λb n z=>by simp_all
 have f:∀b u,H b=some u->¬Mut (some u)->b≠x:=λb u q p z=>by simp_all
 refine⟨λb u q n _ _=>k b u (i b n) q,λb u q n _ _=>⟨u.slots,k b u (i b n) q⟩,λb u q n _=>by rw[upd_ne (j b n)];exact n,λb u q _=>?_,
  λb l q=>by rw[upd_ne (f b _ q λz=>z)];exact q,λb u l q=>by rw[upd_ne (f b _ q λz=>z)];exact q,λb r q=>⟨#[],by rw[upd_ne (f b _ q λz=>z),q];simp⟩⟩
 by_cases c:b=e
 ·subst c;exact d
 ·exact⟨u,k b u c q⟩
end
noncomputable def trk(h:Heap)(H:Hp):List Addr:=(List.range h.objs.size).filter λa=>(H a).isSome
noncomputable def UM(h:Heap)(H:Hp):Heap:=PySem.W.hideAll h (trk h H)
theorem RN(h:Heap)(H:Hp):(UM h H).objs.size=h.objs.size:=PySem.W.hideAll_size _ _
theorem UL(e:h.get? b=some o)(n:H b=none):(UM h H).get? b=some o:=
 PySem.W.hideAll_get _ e λa=>by
  have q  := (List.mem_filter.mp a).2;rw[n] at q;simp_all
theorem WX(e:(UM h H).get? b=some o):h.get? b=some o/\H b=none:=by
 have a  := PySem.W.of_hideAll _ e;refine⟨a,?_⟩;cases q:H b with
 |none=>rfl
 |some x=>
  have c:b∈trk h H:=List.mem_filter.mpr ⟨List.mem_range.mpr (Heap.lt_size a),by simp[q]⟩;have z:(UM h H).get? b=none:=PySem.W.hideAll_none _ c
  simp_all
structure Mod(K:PySem.W.Frag)(mg:Str->Option Value)(base:Heap):Prop where
 kin:K.In base
 glob:base.Ns mainGlobals mg
 blt:∃mb,base.Ns builtinsNs mb/\∀x:Str,x ≠ "__name__" -> mb x=bootBuiltins x
 nolimit:base.NoLimit
set_option genInjectivity false in
structure Cx where
 prog:Program
 w:World
 K:PySem.W.Frag
 mg:Str->Option Value
 base:Heap
 A:Around
 N:List Str
 s₀:Shared
 H₀:Hp
 env:Env
 outer:List Env
 stack:List Env
 ex:List Addr
 fn:Str->Bool
 calm:Bool
 pn:List (Addr×Obj)
 xe:Value->Shared->Prop
noncomputable def frs(l:List Env):List Addr:=l.filterMap (·.frame)
noncomputable abbrev Cx.fs(X:Cx):List Addr:=frs X.outer
def Vis(a:Scope)(x:Str):Prop:=a.names.lookup x=some .local∨a.names.lookup x=some .cell∨a.names.lookup x=some .free
def Loc(a:Scope)(x:Str):Prop:=a.names.lookup x=some .local∨a.names.lookup x=some .cell
def dE(env:Env)(h:Heap)(m:Str->Option Value)(x:Str)(u:Value):Prop:=
 (env.kindOf x=some .local/\m x=some u)∨((env.kindOf x=some .cell∨env.kindOf x=some .free)/\∃c,env.cells.lookup x=some c/\h.IsCell c (some u))
structure Cx.Ok(X:Cx):Prop where
 mod:Mod X.K X.mg X.base
 kind:X.env.scope.kind=.function
 glob:X.env.globals=mainGlobals
 blt:X.env.builtins=builtinsNs
 above:X.s₀.heap.objs.size<=X.env.locals
 inj:∀x y c,X.env.cells.lookup x=some c->X.env.cells.lookup y=some c->x=y
 has:∀x,(X.env.kindOf x=some .cell∨X.env.kindOf x=some .free)->∃c,X.env.cells.lookup x=some c
 cab:∀x c,X.fn x=true->X.env.cells.lookup x=some c->X.s₀.heap.objs.size<=c
 hd:X.calm=true->X.A.handled=none
 frames:X.A.frames=some X.stack
 stk:X.stack=X.outer∨(X.stack=X.env::X.outer/\X.env.frame=some X.env.locals)
 exf:∀b∈X.ex,b≠X.env.locals/\∀x c,X.env.cells.lookup x=some c->c≠b
 bs:∀b o,X.base.get? b=some o->X.s₀.heap.get? b=some o/\X.H₀ b=none
 bsz:X.base.objs.size<=X.s₀.heap.objs.size
 noex:∀b o,X.base.get? b=some o->b∉X.ex
 exfs:∀b∈X.ex,b∉X.fs
 funs:X.s₀.heap.FunFrames X.base X.outer
 frf:∀b∈X.fs,X.H₀ b=none
structure Inv(X:Cx)(w4:List (Addr×Obj))(O:List (Option V))(H:Hp)(s:Shared):Prop where
 ok:X.Ok
 os:s.os=X.s₀.os
 bare:AllBare s.gens
 base:Un X.fs X.ex X.H₀ H X.s₀.heap s.heap
 loc:∃m,s.heap.Ns X.env.locals m/\∀(i:Nat) (x:Str) (v:V),X.N[i]?=some x->O[i]?=some (some v)->Vis X.env.scope x->∃u,RelV v u/\dE X.env s.heap m x u
 cell:∀x c,X.env.cells.lookup x=some c->∃v,s.heap.IsCell c v
 free:H X.env.locals=none
 freeC:∀x c,X.env.cells.lookup x=some c->H c=none
 pin:∀p∈X.pn++w4,s.heap.get? p.1=some p.2/\H p.1=none/\p.1≠X.env.locals/\p.1∉X.fs/\∀v,p.2.data≠.cell v
 hok:HOk X.prog X.w H s.heap
 len:O.length=X.N.length
section
variable{X:Cx}{w4:List (Addr×Obj)}{O:List (Option V)}{H H':Hp}{s:Shared}{h':Heap}
theorem Cx.Ok.nofr(a:X.Ok)(e:X.base.get? b=some o):b∉X.fs:=λc=>by
 have:=(a.funs.mem c).1
 grind
theorem Inv.bs(I:Inv X w4 O H s):∀b o,X.base.get? b=some o->s.heap.get? b=some o/\H b=none:=λb o e=>
 ⟨I.base.keep b o (I.ok.bs b o e).1 (I.ok.bs b o e).2 (I.ok.nofr e) (I.ok.noex b o e),I.base.free b o (I.ok.bs b o e).1 (I.ok.bs b o e).2 (I.ok.noex b o e)⟩
theorem Inv.bk(I:Inv X w4 O H s):∀b o,X.base.get? b=some o->s.heap.get? b=some o:=λb o e=>(I.bs b o e).1
theorem Inv.mod(I:Inv X w4 O H s):Mod X.K X.mg X.base:=I.ok.mod
theorem Inv.kIn(I:Inv X w4 O H s):X.K.In s.heap:=I.ok.mod.kin.keeps I.bk
theorem Inv.lt(I:Inv X w4 O H s):X.env.locals<s.heap.objs.size:=let ⟨_,a,_⟩:=I.loc;a.lt
theorem Inv.sz(I:Inv X w4 O H s):X.s₀.heap.objs.size<=s.heap.objs.size:=AAq I.ok.above (Nat.le_of_lt I.lt)
theorem Inv.nofs(I:Inv X w4 O H s)(h:s.heap.objs.size<=a):a∉X.fs:=λb=>by
 obtain⟨_,o,c,_⟩:=I.ok.funs.mem b;exact absurd (AAM (Heap.lt_size c) (AAq I.sz h)) (AAv _)
theorem Inv.cne(I:Inv X w4 O H s):∀x c,X.env.cells.lookup x=some c->c≠X.env.locals:=λx c e z=>by
 obtain⟨v,o,d,f⟩:=I.cell x c e;obtain⟨m,⟨g,h,i,a,b,_⟩,_⟩:=I.loc
 grind
theorem Inv.funs(I:Inv X w4 O H s):s.heap.FunFrames X.base X.outer:=by
 have a:∀l,(∀b∈frs l,b∈X.fs)->X.s₀.heap.FunFrames X.base l->s.heap.FunFrames X.base l:=by
  intro l
  induction l with
  |nil=>intro _ _;trivial
  |cons h r i=>
   intro g j;obtain⟨k,⟨L,o,c,m,n,p⟩,q⟩:=j;have d  := g L (by unfold frs;rw[List.filterMap_cons,c];exact AAP);obtain⟨t,e⟩:=I.base.slot L o n (I.ok.frf L d) d λz=>I.ok.exfs L z d;exact⟨k,⟨L,_,c,m,e,p⟩,i (λb f=>g b (by unfold frs;rw[List.filterMap_cons,c];exact AAQ _ f)) q⟩
 exact a X.outer (λ_ f=>f) I.ok.funs
theorem Inv.stack(I:Inv X w4 O H s):s.heap.FunFrames X.base X.stack:=by
 rcases I.ok.stk with e|⟨e,a⟩
 ·rw[e];exact I.funs
 ·rw[e];obtain⟨m,b,_⟩:=I.loc;exact .cons (by rw[I.ok.kind];decide) a b (Heap.get?_none_of_le (AAq I.ok.bsz I.ok.above)) I.funs
theorem Inv.stkSub(I:Inv X w4 O H s):∀b∈frs X.stack,b∈X.env.locals::X.fs:=λb a=>by
 rcases I.ok.stk with e|⟨e,c⟩
 ·rw[e] at a;exact AAQ _ a
 ·rw[e] at a;unfold frs at a;rw[List.filterMap_cons,c] at a;exact a
theorem Inv.stkFree(I:Inv X w4 O H s):∀b∈frs X.stack,H b=none:=λb a=>by
 rcases AAI.mp (I.stkSub b a) with e|a
 ·rw[e];exact I.free
 ·obtain⟨_,o,c,_⟩:=I.ok.funs.mem a;exact I.base.free b o c (I.ok.frf b a) λz=>I.ok.exfs b z a
theorem Inv.step{U:Array GenState}{t':Nat}{ch:List Addr}(I:Inv X w4 O H s)
  (g:∀b∈ch,(b∈X.ex∨X.s₀.heap.objs.size<=b)/\b≠X.env.locals/\(∀x c,X.env.cells.lookup x=some c->c≠b)/\∀p∈X.pn++w4,p.1≠b)
  (h:∀b o,b≠X.env.locals->b∉X.fs->b∉ch->s.heap.get? b=some o->H b=none->h'.get? b=some o)
  (A:∀b o,b≠X.env.locals->b∈X.fs->b∉ch->s.heap.get? b=some o->H b=none->∃Q,h'.get? b=some { o with slots:=Q }) (f:∀b o,b∉ch->s.heap.get? b=some o->H b=none->H' b=none)
  (B:∀b o,b∉ch->s.heap.get? b=some o->∃E,h'.get? b=some E)
  (F:∀b xs,H b=some (.tup xs)->H' b=some (.tup xs)) (G:∀b o u,H b=some (.frz o u)->H' b=some (.frz o u)) (J:∀b N,H b=some (.tbl N)->∃L,H' b=some (.tbl (N++L)))
  (ns:∀m,s.heap.Ns X.env.locals m->h'.Ns X.env.locals m) (R:HOk X.prog X.w H' h') (hg:AllBare U) :
  Inv X w4 O H' { s with heap:=h',gens:=U,drawn:=d',toks:=t' }:=by
 have M:∀b o,X.s₀.heap.get? b=some o->b≠X.env.locals:=λb o e=>AAc (AAM (Heap.lt_size e) I.ok.above);have w:∀b o,X.s₀.heap.get? b=some o->b∉X.ex->b∉ch:=λb o e a C=>by
  rcases(g b C).1 with z|z
  ·exact a z
  ·exact absurd (AAM (Heap.lt_size e) z) (AAv _)
 have j:∀x c,X.env.cells.lookup x=some c->∀v,s.heap.IsCell c v->h'.IsCell c v:=λx c e v ⟨o,D,S⟩=>by
  have t  := λz=>(g c z).2.2.1 x c e rfl;by_cases W:c∈X.fs
  ·obtain⟨Q,q⟩:=A c o (I.cne x c e) W t D (I.freeC x c e);exact⟨_,q,S⟩
  ·exact⟨o,h c o (I.cne x c e) W t D (I.freeC x c e),S⟩
 refine⟨I.ok,I.os,hg,⟨λb o e n C a=>?_,λb o e n C a=>?_,λb o e n a=>?_,λb o e a=>?_,λb xs e=>F b xs (I.base.tups b xs e),λb o xs e=>G b o xs (I.base.frzs b o xs e),λb N e=>?_⟩,?_,λx c e=>?_,?_,λx c e=>?_,λp Y=>?_,R,I.len⟩
 ·exact h b o (M b o e) C (w b o e a) (I.base.keep b o e n C a) (I.base.free b o e n a)
 ·obtain⟨Q,y⟩:=I.base.slot b o e n C a;obtain⟨T,P⟩:=A b _ (M b o e) C (w b o e a) y (I.base.free b o e n a);exact⟨T,P⟩
 ·obtain⟨E,y⟩:=I.base.there b o e a;exact f b E (w b o e a) y (I.base.free b o e n a)
 ·obtain⟨E,y⟩:=I.base.there b o e a;exact B b E (w b o e a) y
 ·obtain⟨m1,y⟩:=I.base.tbls b N e;obtain⟨m2,P⟩:=J b _ y;exact⟨m1++m2,by simp_all⟩
 ·obtain⟨m,hn,hl⟩:=I.loc;refine⟨m,ns m hn,λi x v y P e3=>?_⟩;obtain⟨u,r,l⟩:=hl i x v y P e3;refine⟨u,r,?_⟩;rcases l with l|⟨k,c,e,z⟩
  ·exact .inl l
  ·exact .inr ⟨k,c,e,j x c e _ z⟩
 ·obtain⟨v,z⟩:=I.cell x c e;exact⟨v,j x c e v z⟩
 ·obtain⟨m,⟨o,_,_,D,_⟩,_⟩:=I.loc;exact f _ o (λz=>(g _ z).2.1 rfl) D I.free
 ·obtain⟨v,o,D,S⟩:=I.cell x c e;exact f c o (λz=>(g c z).2.2.1 x c e rfl) D (I.freeC x c e)
 ·obtain⟨e,n,Z,nf,d⟩:=I.pin p Y;have t  := λz=>(g p.1 z).2.2.2 p Y rfl;exact⟨h p.1 p.2 Z nf t e n,f p.1 p.2 t e n,Z,nf,d⟩
theorem Inv.un{t':Nat}(I:Inv X w4 O H s)(u:Un X.fs [] H H' s.heap h')(c:HOk X.prog X.w H' h'):Inv X w4 O H' { s with heap:=h',toks:=t' }:=by
 obtain⟨m,⟨o,l,p,h,r⟩,_⟩:=id I.loc;obtain⟨q,i⟩:=u.any h I.free (by simp);exact I.step (ch:=[]) (by simp) (λb o _ d _ e n=>u.keep b o e n d (by simp)) (λb o _ d _ e n=>u.slot b o e n d (by simp)) (λb o _ e n=>u.free b o e n (by simp)) (λb o _ e=>u.there b o e (by simp)) u.tups u.frzs u.tbls (λt j=>by
  obtain⟨v,f,g,a,k⟩:=j;rw[h] at a;cases a;exact⟨_,f,g,i,k⟩) c I.bare
theorem Inv.call{k:Array GenState}{t':Nat}{ch:List Addr}(I:Inv X w4 O H s)(u:Un (frs X.stack) ch H H' s.heap h')(g:HOk X.prog X.w H' h')(q:AllBare k)
  (d:∀b∈ch,(b∈X.ex∨X.s₀.heap.objs.size<=b)/\b≠X.env.locals/\(∀x c,X.env.cells.lookup x=some c->c≠b)/\∀p∈X.pn++w4,p.1≠b) :
  Inv X w4 O H' { s with heap:=h',gens:=k,drawn:=d',toks:=t' }:=by
 obtain⟨m,⟨o,y,A,l,r⟩,_⟩:=id I.loc;obtain⟨B,h⟩:=u.any l I.free λz=>(d _ z).2.1 rfl;exact I.step d (λb o h t a e n=>u.keep b o e n (λz=>(AAI.mp (I.stkSub b z)).elim h t) a) (λb o _ _ a e n=>u.any e n a) (λb o a e n=>u.free b o e n a) (λb o a e=>u.there b o e a) u.tups u.frzs u.tbls (λC v=>by
  obtain⟨D,i,j,f,w⟩:=v;rw[l] at f;cases f;exact⟨_,i,j,h,w⟩) g q
theorem Inv.turned{t':Nat}{a:Addr}(I:Inv X w4 O H s)(k:∀b o,b≠a->s.heap.get? b=some o->h'.get? b=some o)(hn:H a=none)(g:a≠X.env.locals)
  (h:a∈X.ex∨X.s₀.heap.objs.size<=a) (i:∀x c,X.env.cells.lookup x=some c->c≠a) (j:∀p∈X.pn++w4,p.1≠a):Inv X w4 O H { s with heap:=h',toks:=t' }:=by
 have f:∀b u,H b=some u->b≠a:=λb u e z=>by simp_all
 refine I.step (ch:=[a]) (λb l=>?_) (λb o _ _ d e _=>k b o (λz=>d (by simp[z])) e) (λb o _ _ d e _=>⟨o.slots,k b o (λz=>d (by simp[z])) e⟩) (λ_ _ _ _ n=>n)
  (λb o d e=>⟨o,k b o (λz=>d (by simp[z])) e⟩) (λ_ _ e=>e) (λ_ _ _ e=>e) (λb B e=>⟨#[],by simp_all⟩) (λm t=>?_) (λb u e=>?_) I.bare
 ·have e  := by simpa using l
  subst e;exact⟨h,g,i,j⟩
 ·obtain⟨o,w,y,A,r⟩:=t;exact⟨o,w,y,k _ o (Ne.symm g) A,r⟩
 ·refine(I.hok b u e).stay (λc v d=>k c v ?_) (λ_ q=>q) λ_ _ q=>q;rcases d with z|z
  ·rw[z];exact f b u e
  ·exact f c _ z
theorem Inv.tok(I:Inv X w4 O H s)(t:Nat):Inv X w4 O H { s with toks:=t }:=I.un Un.refl I.hok
theorem Inv.kept(I:Inv X w4 O H s)(k:∀b u,s.heap.get? b=some u->h'.get? b=some u):Inv X w4 O H { s with heap:=h',toks:=t' }:=I.un (Un.kept k) (I.hok.kept k)
theorem Inv.laid(I:Inv X w4 O H s)(k:∀b u,s.heap.get? b=some u->h'.get? b=some u)(c:s.heap.objs.size<=a)(d:ObjOk X.prog X.w (upd H a o) h' a o):
  Inv X w4 O (upd H a o) { s with heap:=h',toks:=t' }:=I.un (Un.laid k c (I.hok.fresh c)) (I.hok.laid k c d)
theorem Inv.write(I:Inv X w4 O H s)(d:Mut (H x))(f:e=x∨H e=some (.own x))(k:∀b u,b≠e->s.heap.get? b=some u->h'.get? b=some u)(a:∃u,h'.get? e=some u)
  (c:ObjOk X.prog X.w (upd H x o) h' x o):Inv X w4 O (upd H x o) { s with heap:=h',toks:=t' }:=I.un (Un.write d f k a) (I.hok.write d f k a c)
theorem Inv.weak(I:Inv X w4 O H s)(c:b.length=O.length)(w:∀(i:Nat) v,b[i]?=some (some v)->O[i]?=some (some v)):Inv X w4 b H s:=
 ⟨I.ok,I.os,I.bare,I.base,let ⟨m,d,a⟩:=I.loc;⟨m,d,λi x v e f=>a i x v e (w i v f)⟩,I.cell,I.free,I.freeC,I.pin,I.hok,c.trans I.len⟩
theorem Inv.pins_of(I:Inv X w4 O H s)(h:∀p∈pins',s.heap.get? p.1=some p.2/\H p.1=none/\p.1≠X.env.locals/\p.1∉X.fs/\∀v,p.2.data≠.cell v):Inv X pins' O H s:=
 ⟨I.ok,I.os,I.bare,I.base,I.loc,I.cell,I.free,I.freeC,λp a=>(AAJ.mp a).elim (λz=>I.pin p (AAa _ z)) (h p),I.hok,I.len⟩
theorem NE{N:List Str}(c:N.Nodup){i j:Nat}{x:Str}(a:N[i]?=some x)(b:N[j]?=some x):i=j:=by
 obtain⟨f,d⟩:=AAT.mp a;obtain⟨g,e⟩:=AAT.mp b;exact(List.getElem_inj c).mp (d.trans e.symm)
theorem Kk{M:Model}{A:Around}{E:Value->Shared->Prop}{i:Nat}{x:Str}{u:Value}{Q:Unit->Shared->Prop}(I:Inv X w4 O H s)(hN:X.N.Nodup)(hi:X.N[i]?=some x)(l:Loc X.env.scope x)(r:RelV v u)
  (h:∀U,Inv X w4 (O.set i (some v)) H U->(∃a,Heap.SameBut a s.heap U.heap/\(a=X.env.locals∨X.env.cells.lookup x=some a))->Q () U) (hf:X.fn x=true∨X.env.scope.names.lookup x=some .local:=by first|exact .inl rfl|exact .inr rfl|assumption):wpAny M A (storeName X.env x u) Q E s:=by
 obtain⟨m,W,hl⟩:=id I.loc;have N:(X.env.scope.kind==.class||X.env.scope.kind==.module&&X.env.locals != X.env.globals)=false:=by rw[I.ok.kind];rfl
 have C:i<O.length:=by rw[I.len];exact(AAT.mp hi).1
 have D:=I.cne;have f:∀{a:Addr} {h':Heap},(∃o,s.heap.get? a=some o/\H a=none)->Heap.SameBut a s.heap h'->HOk X.prog X.w H h':=λ{a h'} ha hs b ob e=>by
  obtain⟨_,_,Y⟩:=ha;refine(I.hok b ob e).stay (λc Z w=>(hs.2 c ?_).trans) (λ_ q=>q) λ_ _ q=>q;rintro rfl
  simp_all
 rcases l with L|L
 ·refine wpAny_storeName_local L W (λh' hn' hs=>?_) N;obtain⟨oL,_,_,hoL,_⟩:=id W;refine h _ ⟨I.ok,I.os,I.bare,⟨λb o e n F l=>?_,λb o e n F l=>?_,I.base.free,λb o e l=>?_,I.base.tups,I.base.frzs,I.base.tbls⟩,⟨_,hn',λj y v' g B e3=>?_⟩,λy c e=>?_,I.free,I.freeC,λp hp=>?_,f ⟨oL,hoL,I.free⟩ hs,by simpa using I.len⟩ ⟨_,hs,.inl rfl⟩
  ·exact(hs.2 b (AAc (AAM (Heap.lt_size e) I.ok.above))).trans (I.base.keep b o e n F l)
  ·obtain⟨sl,g⟩:=I.base.slot b o e n F l;exact⟨sl,(hs.2 b (AAc (AAM (Heap.lt_size e) I.ok.above))).trans g⟩
  ·obtain⟨o',g⟩:=I.base.there b o e l;exact⟨o',(hs.2 b (AAc (AAM (Heap.lt_size e) I.ok.above))).trans g⟩
  ·by_cases G:j=i
   ·subst G;rw[hi] at g;cases g;rw[List.getElem?_set_self C] at B;cases B;exact⟨u,r,.inl ⟨L,by simp⟩⟩
   ·rw[AAm (Ne.symm G)] at B;obtain⟨u',r',q⟩:=hl j y v' g B e3;refine⟨u',r',?_⟩;rcases q with ⟨k,e⟩|⟨k,c,e,z⟩
    ·refine .inl ⟨k,?_⟩;have:y≠x:=λe=>G (NE hN g (e ▸ hi));simp[this,e]
    ·exact .inr ⟨k,c,e,z.sameBut hs (D y c e)⟩
  ·obtain⟨Z,z⟩:=I.cell y c e;exact⟨Z,z.sameBut hs (D y c e)⟩
  ·obtain⟨e,n,S,nf,d⟩:=I.pin p hp;exact⟨(hs.2 p.1 S).trans e,n,S,nf,d⟩
 ·have J:X.fn x=true:=by simp_all
  obtain⟨c,w⟩:=I.ok.has x (.inl L);obtain⟨Z,z⟩:=I.cell x c w;refine wpAny_storeName_cell I.ok.kind L w z λh' P hs=>?_;obtain⟨oc,hoc,hocd⟩:=id z;refine h { s with heap:=h' } ⟨I.ok,I.os,I.bare,⟨λb o e n F l=>?_,λb o e n F l=>?_,I.base.free,λb o e l=>?_,I.base.tups,I.base.frzs,I.base.tbls⟩,⟨m,W.sameBut hs (Ne.symm (D x c w)),λj y v' g B e3=>?_⟩,λy T e=>?_,I.free,I.freeC,λp hp=>?_,f ⟨oc,hoc,I.freeC x c w⟩ hs,by simpa using I.len⟩ ⟨c,hs,.inr w⟩
  ·exact(hs.2 b (AAc (AAM (Heap.lt_size e) (I.ok.cab x c J w)))).trans (I.base.keep b o e n F l)
  ·obtain⟨sl,g⟩:=I.base.slot b o e n F l;exact⟨sl,(hs.2 b (AAc (AAM (Heap.lt_size e) (I.ok.cab x c J w)))).trans g⟩
  ·obtain⟨o',g⟩:=I.base.there b o e l;exact⟨o',(hs.2 b (AAc (AAM (Heap.lt_size e) (I.ok.cab x c J w)))).trans g⟩
  ·by_cases G:j=i
   ·subst G;rw[hi] at g;cases g;rw[List.getElem?_set_self C] at B;cases B;exact⟨u,r,.inr ⟨.inl L,c,w,P⟩⟩
   ·rw[AAm (Ne.symm G)] at B;obtain⟨u',r',q⟩:=hl j y v' g B e3;refine⟨u',r',?_⟩;rcases q with q|⟨k,T,e,z'⟩
    ·exact .inl q
    ·refine .inr ⟨k,T,e,z'.sameBut hs ?_⟩;rintro rfl;exact G (NE hN g (I.ok.inj _ _ _ e w ▸ hi))
  ·by_cases R:T=c
   ·subst R;exact⟨_,P⟩
   ·obtain⟨w2,z2⟩:=I.cell y T e;exact⟨w2,z2.sameBut hs R⟩
  ·obtain⟨e,n,S,nf,d⟩:=I.pin p hp;refine⟨(hs.2 p.1 ?_).trans e,n,S,nf,d⟩;intro q
   simp_all
theorem JG(I:Inv X w4 O H s)(b:X.N.Nodup)(hi:X.N[i]?=some x)(c:Loc X.env.scope x)(r:RelV v u)
  (h:∀a,Inv X w4 (O.set i (some v)) H a->Q () a) (d:X.fn x=true∨X.env.scope.names.lookup x=some .local:=by first|exact .inl rfl|exact .inr rfl|assumption):wpAny M A (storeName X.env x u) Q E s:=
 Kk I b hi c r (λa e _=>h a e) d
theorem Inv.call'(I:Inv X w4 O H s)(g:a.os=s.os)(u:Un (frs X.stack) ch H H' s.heap a.heap)(d:HOk X.prog X.w H' a.heap)(h:AllBare a.gens)
  (f:∀b∈ch,(b∈X.ex∨X.s₀.heap.objs.size<=b)/\b≠X.env.locals/\(∀x c,X.env.cells.lookup x=some c->c≠b)/\∀p∈X.pn++w4,p.1≠b):Inv X w4 O H' a:=by
 obtain⟨h',i,j,k,l⟩:=a;have e  := g;subst e;exact I.call u d h f
end
noncomputable abbrev XK:=Value->Option Addr->Hp->Prop
noncomputable abbrev St:=List (Option V)
noncomputable abbrev VK:=V->Hp->Prop
noncomputable abbrev TE:=St->Hp->VK->Prop
noncomputable abbrev TT:=St->Hp->(Bool->Hp->Prop)->Prop
noncomputable abbrev TA:=St->Hp->(List V->Hp->Prop)->Prop
structure U8 where
 nx:St->Hp->Prop
 rt:VK
 bk:St->Hp->Prop:=λ_ _=>False
 ct:St->Hp->Prop:=λ_ _=>False
noncomputable abbrev TS:=U8->St->Hp->Prop
def EP(X:Cx)(b:List (Addr×Obj))(O:St)(Q:VK)(u:Value)(c:Shared):Prop:=∃v a,Inv X b O a c/\RelV v u/\Q v a
def TP(X:Cx)(c:List (Addr×Obj))(O:St)(Q:Bool->Hp->Prop)(b:Bool)(d:Shared):Prop:=∃a,Inv X c O a d/\Q b a
def AP(X:Cx)(c:List (Addr×Obj))(O:St)(Q:List V->Hp->Prop)(d:List Value)(e:Shared):Prop:=∃a b,Inv X c O b e/\Vals a d/\Q a b
def SP(X:Cx)(c:List (Addr×Obj))(D:U8)(f:Flow)(d:Shared):Prop:=
 match f with
 | .next=>∃b a,Inv X c b a d/\D.nx b a
 | .brk=>∃b a,Inv X c b a d/\D.bk b a
 | .cont=>∃b a,Inv X c b a d/\D.ct b a
 | .ret u=>∃v b a,Inv X c b a d/\RelV v u/\D.rt v a
def PE(X:Cx)(e:Expr)(t:TE):Prop:=
 ∀(a:List (Addr×Obj)) (s:Shared) (O:St) (H:Hp) (Q:VK),Inv X a O H s->t O H Q->wpAny (model X.prog X.w) X.A (eval e X.env) (EP X a O Q) X.xe s
def PT(X:Cx)(e:Expr)(t:TT):Prop:=
 ∀(a:List (Addr×Obj)) (s:Shared) (O:St) (H:Hp) (Q:Bool->Hp->Prop),Inv X a O H s->t O H Q->wpAny (model X.prog X.w) X.A (isTrue e X.env (eval e X.env)) (TP X a O Q) X.xe s
def PW(X:Cx)(e:Expr)(t:TT):Prop:=
 ∀(a:Sem Value) (b:List (Addr×Obj)) (s:Shared) (O:St) (H:Hp) (Q:Bool->Hp->Prop),Inv X b O H s->t O H Q->wpAny (model X.prog X.w) X.A (isTrue e X.env a) (TP X b O Q) X.xe s
theorem PW.pt(h:PW X e t):PT X e t:=h _
def PA(X:Cx)(es:List Expr)(t:TA):Prop:=
 ∀(a:Pos) (b:List (Addr×Obj)) (s:Shared) (O:St) (H:Hp) (Q:List V->Hp->Prop),Inv X b O H s->t O H Q->wpAny (model X.prog X.w) X.A (spliced (backTo a (starEach es X.env))) (AP X b O Q) X.xe s
def PS(X:Cx)(st:Stmt)(t:TS):Prop:=
 ∀(a:List (Addr×Obj)) (s:Shared) (O:St) (H:Hp) (D:U8),Inv X a O H s->t D O H->wpAny (model X.prog X.w) X.A (exec st X.env) (SP X a D) X.xe s
def PSs(X:Cx)(st:List Stmt)(t:TS):Prop:=
 ∀(a:List (Addr×Obj)) (s:Shared) (O:St) (H:Hp) (D:U8),Inv X a O H s->t D O H->wpAny (model X.prog X.w) X.A (execs st X.env) (SP X a D) X.xe s
theorem thn(h:wpAny M A t Q E s)(b:∀a s,Q a s->c a s):wpAny M A t c E s:=AAh h b λ_ _ x=>x
section
variable{X:Cx}
noncomputable def cD(i:Nat):TE:=λO H Q=>∃v,O[i]?=some (some v)/\Q v H
noncomputable def tC(v:V):TE:=λ_ H Q=>Q v H
theorem Ys(k:X.N[i]?=some x)(n:Vis X.env.scope x)(f:(x==("__debug__" : Str))=false:=by decide)(g:(x==("__classdict__" : Str))=false:=by decide):PE X (.Name x pos) (cD i):=by
 intro o s O H Q I h;obtain⟨v,e,h⟩:=h;obtain⟨m,p,q⟩:=I.loc;obtain⟨u,r,l⟩:=q i x v k e n;have b:EP X o O Q u s:=⟨v,H,I,r,h⟩;rcases l with ⟨d,t⟩|⟨d,c,j,a⟩
 ·exact wpAny_Name (wpAny_loadName_local I.ok.kind d p t b) f
 ·rcases d with d|d
  ·exact wpAny_Name (wpAny_loadName_cell I.ok.kind d j a b) f
  ·exact wpAny_Name (wpAny_loadName_free I.ok.kind d j a b g) f
theorem Yy:PE X (.Constant (.int i) j pos) (tC (.int i)):=λ_ _ _ H _ I h=>wpAny_Constant_int ⟨.int i,H,I.tok _,⟨_,rfl⟩,h⟩
theorem ax:PE X (.Constant (.bool b) j pos) (tC (.bl b)):=λ_ _ _ H _ I h=>Constant_bool ⟨.bl b,H,I,rfl,h⟩
theorem Yx:PE X (.Constant .none j pos) (tC .non):=λ_ _ _ H _ I h=>Constant_none ⟨.non,H,I,rfl,h⟩
theorem Yu:PE X (.Constant (.str x) j pos) (tC (.str x)):=λ_ _ _ H _ I h=>Calls.Constant_str ⟨.str x,H,I.tok _,⟨_,rfl⟩,h⟩
def Gl(X:Cx)(x:Str):Prop:=X.env.kindOf x=some .globalImplicit
theorem P2(I:Inv X d O H s)(a:Gl X x)(b:X.mg x=some u)(h:Q u s)
  (c:(x==("__debug__" : Str))=false:=by decide):wpAny (model X.prog X.w) X.A (eval (.Name x pos) X.env) Q E s:=
 Calls.Name_function_global I.ok.kind a (Calls.loadGlobal_global (by rw[I.ok.glob];exact I.mod.glob.keeps I.bk) b h) c
theorem Hf(I:Inv X g O H s)(a:Gl X x)(b:X.mg x=none)(c:bootBuiltins x=some u)(h:Q u s)
  (hn:x ≠ "__name__" := by decide) (d:(x==("__debug__" : Str))=false:=by decide):wpAny (model X.prog X.w) X.A (eval (.Name x pos) X.env) Q E s:=by
 obtain⟨i,e,f⟩:=I.mod.blt;exact Calls.Name_function_global I.ok.kind a (Calls.loadGlobal_builtin (by rw[I.ok.glob];exact I.mod.glob.keeps I.bk) b (by rw[I.ok.blt];exact e.keeps I.bk) ((f x hn).trans c) h) d
theorem WK(a:Gl X x)(b:X.mg x=some u)(r:RelV v u)(c:(x==("__debug__" : Str))=false:=by decide):PE X (.Name x pos) (tC v):=
 λ_ _ _ H _ I h=>P2 I a b ⟨v,H,I,r,h⟩ c
theorem WO(a:Gl X x)(b:X.mg x=none)(c:bootBuiltins x=some u)(r:RelV v u)(hn:x ≠ "__name__" := by decide)(d:(x==("__debug__" : Str))=false:=by decide):PE X (.Name x pos) (tC v):=
 λ_ _ _ H _ I h=>Hf I a b c ⟨v,H,I,r,h⟩ hn d
variable{a b:Expr}{ta tb:TE}{pos:Pos}
def PC(X:Cx)(op:CmpOp)(a b:Expr)(t:TE):Prop:=
 ∀(e:List (Addr×Obj)) (s:Shared) (O:St) (H:Hp) (Q:VK),Inv X e O H s->t O H Q->
  wpAny (model X.prog X.w) X.A (eval a X.env) (λv c=>wpAny (model X.prog X.w) X.A (eval b X.env) (λu d=>wpAny (model X.prog X.w) X.A (compareOp op v u) (EP X e O Q) X.xe d) X.xe c) X.xe s
noncomputable def tB(t:TE):TT:=λO H Q=>t O H λx d=>∃c,x=.bl c/\Q c d
theorem Yz(h:PC X op a b t)(d:behindInMarks op b=false:=by first|exact c _ (by decide) (by decide)|rfl):PE X (.Compare a [op] [b] pos) t:=λe s O H Q I f=>wpAny_Compare1 (h e s O H Q I f) d
theorem Yk(h:PE X e t)(f:∀c,isTrue e X.env c=(do let v ←c;standAt e.pos;holding [v] (truthy v)):=by intro _;rfl):PT X e (tB t):=by
 intro g s O H Q I i;refine isTrue_plain (thn (h g s O H _ I i) λv n ⟨x,j,k,l,m⟩=>?_) (f _);obtain⟨d,rfl,q⟩:=m;cases l;exact wpAny_truthy_bool ⟨j,k,q⟩
variable{tA tB':TT}{rest:List Expr}
noncomputable def cO(t u:TT):TT:=λO H Q=>t O H λc d=>if c=true then u O d Q else Q false d
noncomputable def tOr(t u:TT):TT:=λO H Q=>t O H λc d=>if c=true then Q true d else u O d Q
noncomputable def cH(t:TT):TT:=λO H Q=>t O H λc d=>Q (!c) d
theorem WA(d:PT X a tA):PW X (.BoolOp .And [a] pos) tA:=by
 intro g f s O H Q I h;refine isTrue_and (thn (d f s O H Q I h) λc i e=>?_);cases c with
 |true=>exact isTrue_and_nil e
 |false=>exact e
theorem Yi(d:PT X a tA):PW X (.BoolOp .Or [a] pos) tA:=by
 intro g f s O H Q I h;refine isTrue_or (thn (d f s O H Q I h) λc i e=>?_);cases c with
 |false=>exact isTrue_or_nil e
 |true=>exact e
theorem Yj(e:PT X a tA)(f:PW X (.BoolOp .And (b::rest) pos) tB'):PW X (.BoolOp .And (a::b::rest) pos) (cO tA tB'):=by
 intro g d s O H Q I h;refine isTrue_and (thn (e d s O H _ I h) λc i ⟨j,k,l⟩=>?_);cases c with
 |true=>exact f g d i O j Q k l
 |false=>trivial
theorem ah(e:PT X a tA)(f:PW X (.BoolOp .Or (b::rest) pos) tB'):PW X (.BoolOp .Or (a::b::rest) pos) (tOr tA tB'):=by
 intro g d s O H Q I h;refine isTrue_or (thn (e d s O H _ I h) λc i ⟨j,k,l⟩=>?_);cases c with
 |true=>trivial
 |false=>exact f g d i O j Q k l
theorem Yl(c:PT X a tA):PT X (.UnaryOp .Not a pos) (cH tA):=by
 intro d s O H Q I h;exact isTrue_not (c d s O H _ I h)
noncomputable def aP(ta tb:TE):TE:=λO H Q=>ta O H λx d=>∃c,x=.bl c/\if c=true then tb O d Q else Q (.bl false) d
noncomputable def aF(ta:TE):TE:=λO H Q=>ta O H λx d=>∃c,x=.bl c/\Q (.bl (!c)) d
theorem Yv(h:PE X a t):PE X (.BoolOp op [a] pos) t:=λc s O H Q I d=>BoolOp_one (h c s O H Q I d)
theorem Y1(i:PE X a ta)(j:PE X (.BoolOp .And (b::rest) pos) tb):PE X (.BoolOp .And (a::b::rest) pos) (aP ta tb):=by
 intro e s O H Q I h;refine BoolOp_and (thn (i e s O H _ I h) λv k ⟨x,f,g,l,d⟩=>?_);obtain⟨c,rfl,d⟩:=d;cases l;refine wpAny_truthy_bool ?_;cases c with
 |true=>exact j e k O f Q g d
 |false=>exact⟨.bl false,f,g,rfl,d⟩
theorem Yw(e:PE X a ta):PE X (.UnaryOp .Not a pos) (aF ta):=by
 intro f s O H Q I h;refine UnaryOp_ (thn (e f s O H _ I h) λv k ⟨x,g,i,j,d⟩=>?_);obtain⟨c,rfl,d⟩:=d;cases j;exact not_of (wpAny_truthy_bool ⟨.bl !c,g,i,rfl,d⟩)
noncomputable def tIf(t:TT)(ta tb:TE):TE:=λO H Q=>t O H λc d=>if c=true then ta O d Q else tb O d Q
theorem TW(k:PT X c tA)(l:PE X a ta)(m:PE X b tb):PE X (.IfExp c a b pos) (tIf tA ta tb):=by
 intro e s O H Q I h;refine wpAny_IfExp (thn (k e s O H _ I h) λd f ⟨g,i,j⟩=>?_);cases d with
 |true=>exact l e f O g Q i j
 |false=>exact m e f O g Q i j
end
def SqL(K:PySem.W.Frag)(H:Hp)(a:Addr)(xs:List V):Prop:=
 Rd H a (.lst xs) ∨
  ∃(o:Obj) (b:Array Value) (n:Nat),K.lookup a=some o/\o.cls=.type "list" /\ o.dict=none/\o.data=.seq b n/\b.size<=sizeLine/\Vals xs b.toList
def SqT(K:PySem.W.Frag)(H:Hp)(a:Addr)(xs:List V):Prop:=
 Rd H a (.tup xs) ∨
  ∃(o:Obj) (b:Array Value) (n:Nat),K.lookup a=some o/\o.cls=.type "tuple" /\ o.data=.seq b n/\b.size<=sizeLine/\Vals xs b.toList
noncomputable def dA:Value->Option V
 | .none=>some .non
 | .bool b=>some (.bl b)
 | .int i _=>some (.int i)
 | .str x _=>some (.str x)
 | .bytes b _=>some (.byt b)
 | .float b _=>some (.flt b)
 | .ref a=>some (.ref a)
 | .type n=>some (.ty n)
 |_=>none
theorem RelV.abs(r:RelV x u):dA u=some x:=by
 cases x with
 |non=>cases r;rfl
 |bl _=>cases r;rfl
 |int _=>obtain⟨t,rfl⟩:=r;rfl
 |str _=>obtain⟨t,rfl⟩:=r;rfl
 |byt _=>obtain⟨t,rfl⟩:=r;rfl
 |flt _=>obtain⟨t,rfl⟩:=r;rfl
 |ref _=>cases r;rfl
 |ty _=>cases r;rfl
theorem RelV.inj(r:RelV x u)(q:RelV y u):x=y:=Option.some.inj (r.abs.symm.trans q.abs)
theorem Vals.inj:∀{xs ys:List V} {a:List Value},Vals xs a->Vals ys a->xs=ys
 |_,_,_,.nil,.nil=>rfl
 |_,_,_,.cons r t,.cons b c=>by rw[r.inj b,Vals.inj t c]
section
variable{X:Cx}{w4:List (Addr×Obj)}{O:St}{H:Hp}{s:Shared}{a:Addr}{xs ys:List V}
theorem SqL.of{K:PySem.W.Frag}(h:H a=some (.lst xs)):SqL K H a xs:=.inl (.inl h)
theorem SqT.of{K:PySem.W.Frag}(h:H a=some (.tup xs)):SqT K H a xs:=.inl (.inl h)
theorem Inv.list(I:Inv X w4 O H s)(h:SqL X.K H a xs):∃b:List Value,Vals xs b/\PlainL s.heap a b.toArray/\xs.length<=sizeLine:=by
 rcases h with h|⟨o,b,n,c,d,f,g,i,r⟩
 ·obtain⟨z,b,n,r,e⟩:=h.ok I.hok;exact⟨b,r,⟨_,n,e,rfl,rfl,rfl⟩,z⟩
 ·refine⟨_,r,⟨o,n,I.kIn a o c,d,f,by omega⟩,?_⟩;have e:=r.length
  simp_all
theorem Inv.tuple(I:Inv X w4 O H s)(h:SqT X.K H a xs):∃b:List Value,Vals xs b/\IsTup s.heap a b.toArray/\xs.length<=sizeLine:=by
 rcases h with h|⟨o,b,n,c,d,f,g,r⟩
 ·obtain⟨z,b,r,p⟩:=h.ok I.hok;exact⟨b,r,p,z⟩
 ·refine⟨_,r,⟨o,I.kIn a o c,d,n,by omega⟩,?_⟩;have e:=r.length;simp at e;omega
theorem Inv.list_inj(I:Inv X w4 O H s)(h:SqL X.K H a xs)(g:SqL X.K H a ys):xs=ys:=by
 obtain⟨i,r,⟨o,n,e,_,_,d⟩,_⟩:=I.list h;obtain⟨b,j,⟨l,m,c,_,_,f⟩,_⟩:=I.list g;rw[e] at c;cases c;rw[d] at f;injection f with k _
 have  := by simpa using congrArg Array.toList k
 subst this;exact r.inj j
theorem Inv.tuple_inj(I:Inv X w4 O H s)(h:SqT X.K H a xs)(g:SqT X.K H a ys):xs=ys:=by
 obtain⟨i,r,⟨o,e,_,n,d⟩,_⟩:=I.tuple h;obtain⟨b,j,⟨l,c,_,m,f⟩,_⟩:=I.tuple g;rw[e] at c;cases c;rw[d] at f;injection f with k _
 have  := by simpa using congrArg Array.toList k
 subst this;exact r.inj j
end
noncomputable abbrev Cx.wish(X:Cx)(E:Value->Shared->Prop):Cx:={ X with xe:=E }
noncomputable abbrev Cx.nox(X:Cx):Cx:=X.wish λ_ _=>False
theorem Cx.Ok.wish{X:Cx}(a:X.Ok)(E:Value->Shared->Prop):(X.wish E).Ok:=
 ⟨a.mod,a.kind,a.glob,a.blt,a.above,a.inj,a.has,a.cab,a.hd,a.frames,a.stk,a.exf,a.bs,a.bsz,a.noex,a.exfs,a.funs,a.frf⟩
theorem Cx.Ok.unwish{X:Cx}(a:(X.wish E).Ok):X.Ok:=
 ⟨a.mod,a.kind,a.glob,a.blt,a.above,a.inj,a.has,a.cab,a.hd,a.frames,a.stk,a.exf,a.bs,a.bsz,a.noex,a.exfs,a.funs,a.frf⟩
section
variable{X:Cx}{w4:List (Addr×Obj)}{O:St}{H:Hp}{s:Shared}{E:Value->Shared->Prop}
theorem Inv.wish(I:Inv X w4 O H s)(E:Value->Shared->Prop):Inv (X.wish E) w4 O H s:=⟨I.ok.wish E,I.os,I.bare,I.base,I.loc,I.cell,I.free,I.freeC,I.pin,I.hok,I.len⟩
theorem Inv.unwish(I:Inv (X.wish E) w4 O H s):Inv X w4 O H s:=⟨I.ok.unwish,I.os,I.bare,I.base,I.loc,I.cell,I.free,I.freeC,I.pin,I.hok,I.len⟩
theorem SP.unwish(h:SP (X.wish E) w4 D f c):SP X w4 D f c:=by
 cases f with
 |next=>obtain⟨a,b,I,q⟩:=h;exact⟨a,b,I.unwish,q⟩
 |brk=>obtain⟨a,b,I,q⟩:=h;exact⟨a,b,I.unwish,q⟩
 |cont=>obtain⟨a,b,I,q⟩:=h;exact⟨a,b,I.unwish,q⟩
 |ret u=>obtain⟨v,a,b,I,r,q⟩:=h;exact⟨v,a,b,I.unwish,r,q⟩
theorem PSs.nox{st:List Stmt}(h:PSs X.nox st t):PSs X st t:=λw4 s O H D I a=>
 AAh (h w4 s O H D (I.wish _) a) (λ_ _ q=>q.unwish) λ_ _=>False.elim
end
section
variable{X:Cx}{st:Stmt}{rest:List Stmt}{t u:TS}{e:Expr}{te:TE}{pos:Pos}
noncomputable def aG:TS:=λD O H=>D.nx O H
noncomputable def cF(t u:TS):TS:=λD O H=>t { D with nx:=u D } O H
theorem WD:PSs X [] aG:=λ_ _ O H _ I h=>wpAny_execs_nil ⟨O,H,I,h⟩
theorem TJ(b:PS X st t)(c:PSs X rest u):PSs X (st::rest) (cF t u):=by
 intro a s O H D I h;refine wpAny_execs_cons (thn (b a s O H { D with nx:=u D } I h) λf d q=>?_);cases f with
 |next=>
  obtain⟨g,i,j,q⟩:=q;exact c a d g i D j q
 |ret v=>exact q
 |brk=>exact q
 |cont=>exact q
theorem WC(a:PS X st t):PSs X [st] t:=by
 intro b s O H D I h;refine wpAny_execs_cons (thn (a b s O H D I h) λf c q=>?_);cases f with
 |next=>exact wpAny_execs_nil q
 |ret v=>exact q
 |brk=>exact q
 |cont=>exact q
theorem Inv.quiet(I:Inv X a O H s):interactive X.env=false:=by simp[interactive,I.ok.kind]
noncomputable def aI(te:TE):TS:=λD O H=>te O H λ_ a=>D.nx O a
theorem WE(a:PE X e te)(b:swapsWith e none pos.line X.env=pure false:=by rfl):PS X (.Expr e pos) (aI te):=by
 intro c s O H D I h;exact wpAny_Expr_any (thn (a c s O H _ I h) λv i ⟨x,d,f,j,g⟩=>⟨O,d,f,g⟩) I.quiet b
noncomputable def cG(te:TE):TS:=λD O H=>te O H D.rt
theorem Yn(a:PE X e te):PS X (.Return (some e) pos) (cG te):=by
 intro b s O H D I h;exact wpAny_Return_some (thn (a b s O H _ I h) λv i ⟨x,c,d,f,g⟩=>⟨x,O,c,d,f,g⟩)
noncomputable def cK(c:TT)(t u:TS):TS:=λD O H=>c O H λb a=>if b=true then t D O a else u D O a
theorem ao(l:PT X c m)(n:PSs X a t)(o:PSs X b u):PS X (.If c a b pos) (cK m t u):=by
 intro f s O H D I h;refine wpAny_If (thn (l f s O H _ I h) λd g ⟨i,j,k⟩=>?_);cases d with
 |true=>exact n f g O i D j k
 |false=>exact o f g O i D j k
noncomputable def YY:TS:=λ_ _ _=>False
theorem TL:PS X st YY:=λ_ _ _ _ _ _ h=>h.elim
end
noncomputable abbrev TG:=V->St->Hp->(St->Hp->Prop)->Prop
noncomputable abbrev TGs:=List V->St->Hp->(St->Hp->Prop)->Prop
def PG(X:Cx)(a:Expr)(t:TG):Prop:=
 ∀(b:List (Addr×Obj)) (s:Shared) (O:St) (H:Hp) (v:V) (u:Value) (Q:St->Hp->Prop),Inv X b O H s->RelV v u->t v O H Q->
  wpAny (model X.prog X.w) X.A (assign a X.env u) (λ_ e=>∃c d,Inv X b c d e/\Q c d) X.xe s
def PGs(X:Cx)(ts:List Expr)(t:TGs):Prop:=
 ∀(a:List (Addr×Obj)) (s:Shared) (O:St) (H:Hp) (b:List V) (c:List Value) (Q:St->Hp->Prop),Inv X a O H s->Vals b c->t b O H Q->
  wpAny (model X.prog X.w) X.A (assignInOrder ((assignEach ts X.env).map (·.2)) c) (λ_ f=>∃d e,Inv X a d e f/\Q d e) X.xe s
noncomputable abbrev bw:=V->V->V->Hp->(Hp->Prop)->Prop
def bx(X:Cx)(t:bw):Prop:=
 ∀(a:List (Addr×Obj)) (s:Shared) (O:St) (H:Hp) (o i v:V) (b c u:Value) (Q:Hp->Prop),Inv X a O H s->RelV o b->RelV i c->RelV v u->t o i v H Q->
  wpAny (model X.prog X.w) X.A (setItem b c u) (λ_ e=>∃d,Inv X a O d e/\Q d) X.xe s
noncomputable abbrev TIp:=V->V->Hp->VK->Prop
def PIp(X:Cx)(op:Operator)(t:TIp):Prop:=
 ∀(a:List (Addr×Obj)) (s:Shared) (O:St) (H:Hp) (x y:V) (v u:Value) (Q:VK),Inv X a O H s->RelV x v->RelV y u->t x y H Q->
  wpAny (model X.prog X.w) X.A (inplaceOp op v u) (EP X a O Q) X.xe s
section
variable{X:Cx}{pos:Pos}
noncomputable def IK(i:Nat):TG:=λv O H Q=>Q (O.set i (some v)) H
theorem Aq(a:X.N.Nodup)(hi:X.N[i]?=some x)(b:Loc X.env.scope x)(c:X.fn x=true∨X.env.scope.names.lookup x=some .local:=by first|exact .inl rfl|exact .inr rfl|assumption):PG X (.Name x pos) (IK i):=by
 intro e s O H v u Q I r h;exact wpAny_assign_Name (JG I a hi b r (λf d=>⟨_,H,d,h⟩) c)
noncomputable def bW:TGs:=λa O H Q=>a=[]/\Q O H
noncomputable def Xu(t:TG)(u:TGs):TGs:=λa O H Q=>∃v r,a=v::r/\t v O H λb c=>u r b c Q
theorem DY:PGs X [] bW:=by
 intro a s O H b c Q I r h;obtain⟨e,h⟩:=h;exact assignInOrder_nil ⟨O,H,I,h⟩
theorem BR(b:PG X e t)(c:PGs X es u)
  (d:(assignEach (e::es) X.env).map (·.2)=assign e X.env::(assignEach es X.env).map (·.2):=by rfl):PGs X (e::es) (Xu t u):=by
 intro a s O H n o Q I r h;obtain⟨v,p,f,h⟩:=h;subst f;cases r with
 |cons r g=>
  rw[d];exact assignInOrder_cons (thn (b a s O H _ _ _ I r h) λ_ i ⟨j,k,l,m⟩=>c a i j k _ _ Q l g m)
noncomputable def Wr(K:PySem.W.Frag)(n:Nat)(t:TGs):TG:=λv O H Q=>∃a b,v=.ref a/\SqT K H a b/\b.length=n/\t b O H Q
theorem OM(g:X.calm=true)(h:PGs X es t)
  (hn:(assignEach es X.env).length=n:=by rfl) (c:(assignEach es X.env).findIdx? (·.1)=none:=by rfl):PG X (.Tuple es k pos) (Wr X.K n t):=by
 intro i s O H v u Q I r d;obtain⟨a,j,l,m,p,d⟩:=d;subst l;cases r;obtain⟨q,f,w,z⟩:=I.tuple m;refine assign_Tuple_tuple (I.ok.hd g) w (by simp[hn,←p,f.length]) c λA x=>?_;have y  := I.kept (t':=s.toks) λb o e=>x b o (AAc (Heap.lt_size e)) e;exact h i _ O H j _ Q y (by simpa using f) d
noncomputable def ck(a b:TE)(t:bw):TG:=λv O H Q=>a O H λo c=>b O c λi d=>t o i v d λe=>Q O e
theorem Yr(d:PE X o e)(hi:PE X i f)(g:bx X t)
  (j:∀v,assign (.Subscript o i pos) X.env v=(do
   let a ←holding [v] (eval o X.env)
   let b ←holding [v,a] (eval i X.env)
   standAt pos
   holding [v,a,b] (setItem a b v)
   release [v,a,b] []):=by intro _;rfl):PG X (.Subscript o i pos) (ck e f t):=by
 intro c s O H v u Q I r h;rw[j];exact AAA (AAn (thn (d c s O H _ I h) λa k ⟨x,l,m,n,p⟩=>AAA (AAn (thn (hi c k O l _ m p) λb q ⟨y,w,z,A,B⟩=>AAA (wpAny_standAt (AAA (AAn (thn (g c q O w x y v a b u _ z n A r B) λ_ F ⟨C,D,E⟩=>wpAny_release ⟨O,C,D,E⟩))))))))
noncomputable def Vv(te:TE)(g:TG):TS:=λD O H=>te O H λx a=>g x O a D.nx
theorem Yp(c:PE X e te)(d:PG X a g)(f:swapsWithSole [a] e pos.line X.env=pure false:=by rfl)(i:swappedStores [a] e X.env=pure none:=by rfl)
  (j:(assignEach [a] X.env).map (·.2)=[assign a X.env]:=by rfl):PS X (.Assign [a] e pos) (Vv te g):=by
 intro b s O H D I h;refine wpAny_Assign_stores (thn (c b s O H _ I h) λv k ⟨x,l,m,n,o⟩=>?_) f i;rw[j];exact thn (d b k O l x v _ m n o) λ_ p q=>q
theorem Ym(b:X.N.Nodup)(hi:X.N[i]?=some x)(c:Loc X.env.scope x)(d:PE X e te)(f:swapsWith e (some (.Name x a)) pos.line X.env=pure false:=by rfl)(g:X.fn x=true∨X.env.scope.names.lookup x=some .local:=by first|exact .inl rfl|exact .inr rfl|assumption):
  PS X (.Assign [.Name x a] e pos) (Vv te (IK i)):=by
 intro j s O H D I h;exact wpAny_Assign_Name (thn (d j s O H _ I h) λv p ⟨y,k,l,m,n⟩=>JG l b hi c m (λq o=>⟨_,k,o,n⟩) g) f
noncomputable def cN(i:Nat)(te:TE)(a:TIp):TS:=λD O H=>∃x,O[i]?=some (some x)/\te O H λy b=>a x y b λz c=>D.nx (O.set i (some z)) c
theorem Yo(p:X.N.Nodup)(hi:X.N[i]?=some x)(f:Loc X.env.scope x)(q:PE X e te)(t:PIp X op A)(B:X.fn x=true∨X.env.scope.names.lookup x=some .local:=by first|exact .inl rfl|exact .inr rfl|assumption):
  PS X (.AugAssign (.Name x n) op e pos) (cN i te A):=by
 intro g s O H D I h;obtain⟨v,C,h⟩:=h;obtain⟨m,E,F⟩:=I.loc;have j:Vis X.env.scope x:=by rcases f with k|k;exact .inl k;exact .inr (.inl k)
 obtain⟨u,r,l⟩:=F i x v hi C j;refine wpAny_AugAssign_Name ?_;have o:wpAny _ X.A _ (λw d=>wpAny _ X.A _ (λr=>wpAny (model X.prog X.w) X.A _ (λ_=>SP X g D .next) X.xe) _ d) _ s:=thn (q g s O H _ I h) λw G ⟨y,J,L,M,N⟩=>thn (t g G O J v y u w _ L r M N) λz Y ⟨Z,P,Q,R,S⟩=>JG Q p hi f R (λs3 T=>⟨_,P,T,S⟩) B;rcases l with ⟨a,U⟩|⟨a,c,W,b⟩
 ·exact wpAny_loadName_local I.ok.kind a E U o
 ·rcases a with a|a
  ·exact wpAny_loadName_cell I.ok.kind a W b o
  ·rcases f with k|k
   ·have:X.env.scope.names.lookup x=some .free:=a;rw[k] at this;cases this
   ·have:X.env.scope.names.lookup x=some .free:=a;rw[k] at this;cases this
noncomputable def ipI(f:Int->Int->Int):TIp:=λx y H Q=>∃i j,x=.int i/\y=.int j/\Q (.int (f i j)) H
theorem ZV:PIp X .Add (ipI λi j=>i+j):=by
 intro e s O H x y v u Q I a b h;obtain⟨i,j,c,d,q⟩:=h;subst c;subst d;obtain⟨t,rfl⟩:=a;obtain⟨f,rfl⟩:=b;exact iadd_int ⟨.int _,H,I.tok _,⟨_,rfl⟩,q⟩
end
section
variable{X:Cx}{pos:Pos}
noncomputable def YX(c:TT)(g:TS):TS:=λD O H=>∃W:Nat->St->Hp->Prop,(∃m,W m O H)/\∀m O H,W m O H->
 c O H λb a=>if b=true then ∃N:St->Hp->Prop,(∀d e,N d e->∃f,f<m/\W f d e)/\g { D with nx:=N,ct:=N,bk:=D.nx } O a else D.nx O a
theorem TK(t:PassesOwn (model X.prog X.w) X.A X.env X.xe)(B:PT X c C)(E:PSs X a F):PS X (.While c a [] pos) (YX C F):=by
 intro l s O H D I h;obtain⟨W,⟨G,J⟩,d⟩:=h;refine wpAny_While (codeAny_whileLoop (λn L=>∃u w,Inv X l u w L/\W n u w) ?_ G ⟨O,H,I,J⟩);rintro n M ⟨i,x,P,Q⟩;refine wpAny_passesOwn t (thn (B l M i x _ P (d n i x Q)) λb R ⟨y,z,j⟩=>?_);cases b with
 |true=>
  obtain⟨N,A,j⟩:=j;refine wpAny_passesOwn t (thn (E l R i y _ z j) λf S k=>?_);cases f with
  |next=>
   obtain⟨e,g,m,o⟩:=k;obtain⟨p,q,r⟩:=A e g o;exact⟨p,q,e,g,m,r⟩
  |cont=>
   obtain⟨e,g,m,o⟩:=k;obtain⟨p,q,r⟩:=A e g o;exact⟨p,q,e,g,m,r⟩
  |brk=>exact k
  |ret v=>exact k
 |false=>
  exact wpAny_execs_nil ⟨i,y,z,j⟩
end
set_option genInjectivity false in
structure It where
 go:Nat->Hp->Prop
 yld:Nat->Hp->V->Hp->Prop
 stop:Nat->Hp->Prop
def HN(X:Cx)(a:List (Addr×Obj))(H:Hp)(b:Addr):Prop:=
 H b=none/\b≠X.env.locals/\b∉X.fs/\(b∈X.ex∨X.s₀.heap.objs.size<=b)/\(∀x c,X.env.cells.lookup x=some c->c≠b)/\∀p∈X.pn++a,p.1≠b
theorem Inv.fpOk(I:Inv X d O H s)(a:s.heap.objs.size<=b)(hn:H' b=none):HN X d H' b:=by
 refine⟨hn,Nat.ne_of_gt (AAM I.lt a),I.nofs a,.inr (AAq I.sz a),λx c e z=>?_,λp f z=>?_⟩
 ·obtain⟨v,q⟩:=I.cell x c e;exact absurd (AAM q.lt (by rw[z];exact a)) (AAv _)
 ·exact absurd (AAM (Heap.lt_size (I.pin p f).1) (by rw[z];exact a)) (AAv _)
structure MU(P:Program)(w:World)(K:PySem.W.Frag)(tg:Expr)(J:It)(fp:List Addr)(it:Addr)(tn:Nat->Heap->Prop):Prop where
 mem:it∈fp
 obj:∀i h,tn i h->∀b∈fp,∃o,h.get? b=some o/\∀v,o.data≠.cell v
 keep:∀i h h',tn i h->(∀b∈fp,∀o,h.get? b=some o->h'.get? b=some o)->tn i h'
 item:∀(X:Cx),X.prog=P->X.w=w->X.K=K->X.calm=true->∀(i:Nat) (w4:List (Addr×Obj)) (s:Shared) (O:St) (H:Hp) (E:Value->Shared->Prop),Inv X w4 O H s->(∀b∈fp,HN X w4 H b)->tn i s.heap->J.go i H->
  wpAny (model P w) X.A (pyNext (.ref it)) (λr s1=>∃u,r=some u /\
   wpAny (model P w) X.A (letOwnedTupleGo tg (.ref it) u) (λ_ s2=>∃x H',Inv X w4 O H' s2/\RelV x u/\J.yld i H x H'/\tn (i+1) s2.heap/\∀b∈fp,H' b=none) E s1) E s
 done:∀(X:Cx),X.prog=P->X.w=w->X.K=K->X.calm=true->∀(i:Nat) (w4:List (Addr×Obj)) (s:Shared) (O:St) (H:Hp) (E:Value->Shared->Prop),Inv X w4 O H s->(∀b∈fp,HN X w4 H b)->tn i s.heap->J.stop i H->
  wpAny (model P w) X.A (pyNext (.ref it)) (λr s1=>r=none/\Inv X w4 O H s1) E s
 self:∀(A:Around) (i:Nat) (s:Shared) (Q:Value->Shared->Prop) (E:Value->Shared->Prop),tn i s.heap->Q (.ref it) s->wpAny (model P w) A (pyIter (.ref it)) Q E s
noncomputable abbrev TI:=St->Hp->(It->Hp->Prop)->Prop
def PIE(X:Cx)(d:List (Addr×Obj))(O:St)(i:Expr)(R:It->Hp->Prop)(a:Value)(e:Shared):Prop:=
 ∃(f:Addr) (g:List Addr) (h:Nat->Heap->Prop) (J:It) (c:Hp),a=.ref f/\Inv X d O c e/\MU X.prog X.w X.K i J g f h/\h 0 e.heap/\(∀b∈g,HN X d c b)/\R J c
def PI(X:Cx)(c a:Expr)(d:TI):Prop:=
 ∀(b:List (Addr×Obj)) (s:Shared) (O:St) (H:Hp) (R:It->Hp->Prop),Inv X b O H s->d O H R->
  wpAny (model X.prog X.w) X.A (eval a X.env) (λv e=>wpAny (model X.prog X.w) X.A (pyIter v) (PIE X b O c R) X.xe e) X.xe s
theorem UO(b:s.heap.get? c=some o)(d:o.cls=.type n)(e:o.data=.fields g)
  (hn:["enumerate", "zip", "dict_itemiterator", "dict_reverseitemiterator", "odict_iterator", "itertools.zip_longest", "itertools.pairwise"].contains n=false) (a:Q () s):wpAny M A (letOwnedTupleGo f (.ref c) u) Q E s:=by
 cases f<;>first
  |exact AAB a
  |(cases u<;>first
    |exact AAB a
    |(refine AAA (wpAny_load b ?_);rw[d,e];show wpAny M A (if _=true then _ else _) Q E s;rw[if_neg (by intro h;rw[hn] at h;cases h)];exact AAB a))
noncomputable def Itl(K:PySem.W.Frag)(a:Addr):It:=
 ⟨λi H=>∃b x,SqL K H a b/\b[i]?=some x,λi H x c=>c=H/\∀b,SqL K H a b->b[i]?=some x,λi H=>∃b,SqL K H a b/\b.length<=i⟩
noncomputable def Itt(K:PySem.W.Frag)(a:Addr):It:=
 ⟨λi H=>∃b x,SqT K H a b/\b[i]?=some x,λi H x c=>c=H/\∀b,SqT K H a b->b[i]?=some x,λi H=>∃b,SqT K H a b/\b.length<=i⟩
noncomputable def Itr(lo:Int)(n:Nat):It:=⟨λi _=>i<n,λi H x a=>a=H/\x=.int (lo+i),λi _=>n<=i⟩
theorem Qn{P:Program}{w:World}{K:PySem.W.Frag}{L:Expr}(a f:Addr):MU P w K L (Itl K a) [f] f (λi h=>h.IsListIter f a i) where
 mem:=by simp
 obj:=λi h st b g=>by
  have e  := by simpa using g
  subst e;obtain⟨o,e,c,d⟩:=st
  simp_all
 keep:=λi h G st k=>st.at (k f (by simp))
 item:=by
  intro X n q r J i M s O H E I l st t;subst n q r;obtain⟨N,x,m,v⟩:=t;obtain⟨y,z,p,Q⟩:=I.list m;obtain⟨u,R,S⟩:=z.get v;obtain⟨A,B,T,C,D,F⟩:=l f (by simp);refine wpAny_pyNext_list_item st p.isList (by simpa using R) λG j sb=>?_;have U  := I.turned (t':=s.toks) (λb o g=>(sb.2 b g).trans) A B C D F;obtain⟨o,e,c,d⟩:=id j;exact⟨u,rfl,UO e c d (by decide) ⟨x,H,U,S,⟨rfl,λys W=>by rw[I.list_inj W m];exact v⟩,j,λb g=>(l b g).1⟩⟩
 done:=by
  intro X n q r J i M s O H E I l st t;subst n q r;obtain⟨N,m,v⟩:=t;obtain⟨y,z,p,Q⟩:=I.list m;obtain⟨A,B,T,C,D,F⟩:=l f (by simp);have hl:=z.length;exact wpAny_pyNext_list_end (I.ok.hd J) st p.isList (by simp;lia) λG Y=>⟨rfl,I.turned (Y) A B C D F⟩
 self:=λ_ _ _ _ _=>wpAny_pyIter_listiter
theorem N0{P:Program}{w:World}{K:PySem.W.Frag}{N:Expr}(a f:Addr):MU P w K N (Itt K a) [f] f (λi h=>h.IsTupleIter f a i) where
 mem:=by simp
 obj:=λi h st b g=>by
  have e  := by simpa using g
  subst e;obtain⟨o,e,c,d⟩:=st;exact⟨o,e,λv z=>by simp_all⟩
 keep:=λi h L st k=>st.at (k f (by simp))
 item:=by
  intro X n q r M i Q s O H E I l st t;subst n q r;obtain⟨R,x,m,y⟩:=t;obtain⟨A,B,p,S⟩:=I.tuple m;obtain⟨u,T,U⟩:=B.get y;obtain⟨C,D,W,F,G,J⟩:=l f (by simp);refine wpAny_pyNext_tuple_item st p (by simpa using T) λL j sb=>?_;have Y  := I.turned (t':=s.toks) (λb o g=>(sb.2 b g).trans) C D F G J;obtain⟨o,e,c,d⟩:=id j;exact⟨u,rfl,UO e c d (by decide) ⟨x,H,Y,U,⟨rfl,λys Z=>by rw[I.tuple_inj Z m];exact y⟩,j,λb g=>(l b g).1⟩⟩
 done:=by
  intro X n q r M i Q s O H E I l st t;subst n q r;obtain⟨R,m,y⟩:=t;obtain⟨A,B,p,S⟩:=I.tuple m;obtain⟨C,D,W,F,G,J⟩:=l f (by simp);have hl:=B.length;exact wpAny_pyNext_tuple_end (I.ok.hd M) st p (by simp;lia) λL eb=>⟨rfl,I.turned (eb) C D F G J⟩
 self:=λ_ _ _ _ _=>wpAny_pyIter_tupleiter
theorem N1{P:Program}{w:World}{K:PySem.W.Frag}{A:Expr}(a:Addr)(lo:Int)(n:Nat):MU P w K A (Itr lo n) [a] a (λi h=>IsRangeIter h a (lo+(i:Nat) * 1) ((n:Int)-(i:Nat)) 1) where
 mem:=by simp
 obj:=λi h st b d=>by simp_all
 keep:=λi h f st k=>k a (by simp) _ st
 item:=by
  intro X g j l m i z s O H E I e st p;subst g j l;obtain⟨q,r,B,u,x,y⟩:=e a (by simp);have W:=Walks.range (prog:=X.prog) (w:=X.w) (I.ok.hd m) a lo 1 n;refine W.item i s _ _ p st λv f C D c F=>?_;obtain⟨t,rfl⟩:=D;have G:Inv X z O H { s with heap:=f,toks:=C }:=I.turned (λb o d=>F b o (by simpa using d)) q r u x y;refine⟨_,rfl,UO c rfl rfl (by decide) ⟨.int (lo+i),H,G,⟨t,?_⟩,⟨rfl,rfl⟩,c,λb d=>(e b d).1⟩⟩;rw[Int.mul_one]
 done:=by
  intro X g j l m i z s O H E I e st p;subst g j l;obtain⟨q,r,B,u,x,y⟩:=e a (by simp);exact wpAny_pyNext_range_end (I.ok.hd m) st (by have:n<=i:=p;lia) λf J=>⟨rfl,I.turned (J) q r u x y⟩
 self:=λ_ _ _ _ _=>wpAny_pyIter_rangeiter
section
variable{X:Cx}{tg:Expr}
noncomputable def Xq(K:PySem.W.Frag)(c:TE):TI:=λO H R=>c O H λx b=>∃a,x=.ref a/\(∃d,SqL K b a d)/\R (Itl K a) b
noncomputable def bU(K:PySem.W.Frag)(c:TE):TI:=λO H R=>c O H λx b=>∃a,x=.ref a/\(∃d,SqT K b a d)/\R (Itt K a) b
theorem Pn{l:Expr}{d:TE}(f:PE X l d):PI X tg l (Xq X.K d):=by
 intro g s O H R I h;refine thn (f g s O H _ I h) λv t ⟨x,i,c,j,k⟩=>?_;obtain⟨a,e,⟨u,m⟩,q⟩:=k;subst e;cases j;obtain⟨n,w,p,y⟩:=c.list m;refine wpAny_pyIter_list p.isList ⟨_,_,_,_,i,rfl,c.kept λb o=>AAC _,Qn a _,⟨_,AAD _ rfl,rfl,rfl⟩,λb r=>?_,q⟩;have e  := by simpa using r
 subst e;exact c.fpOk (AAE _) (c.hok.fresh (AAE _))
theorem Yq{l:Expr}{d:TE}(f:PE X l d):PI X tg l (bU X.K d):=by
 intro g s O H R I h;refine thn (f g s O H _ I h) λv t ⟨x,i,c,j,k⟩=>?_;obtain⟨a,e,⟨u,m⟩,q⟩:=k;subst e;cases j;obtain⟨n,w,p,y⟩:=c.tuple m;refine wpAny_pyIter_tuple (p) ⟨_,_,_,_,i,rfl,c.kept λb o=>AAC _,N0 a _,⟨_,AAD _ rfl,rfl,rfl⟩,λb r=>?_,q⟩;have e  := by simpa using r
 subst e;exact c.fpOk (AAE _) (c.hok.fresh (AAE _))
theorem S9{a:List (Addr×Obj)}{O:St}{H:Hp}{s:Shared}{lo hi:Int}{t u v:Tok}{d:Nat}(I:Inv X a O H s)(f:-(2 ^ 62)<=lo)(g:lo<2 ^ 62)(h:-(2 ^ 62)<=hi)(i:hi<2 ^ 62)
  (q:R (Itr lo (hi-lo).toNat) H):wpAny (model X.prog X.w) X.A (pyIter (.ref s.heap.objs.size)) (PIE X a O tg R) E { s with heap:=s.heap.push { cls:=.type "range",data:=.fields #[.int lo t,.int hi u,.int 1 v] },toks:=d }:=by
 refine wpAny_pyIter_range (IsRange.new ..) (small_one f g h i) ?_;have c:Inv X a O H { s with heap:=s.heap.push { cls:=.type "range",data:=.fields #[.int lo t,.int hi u,.int 1 v] },toks:=d }:=I.kept λb o=>AAC _;refine⟨_,_,_,_,H,rfl,
  c.kept λb o=>AAC _,N1 _ lo _,?_,λb j=>?_,q⟩
 ·have k:lo+((0:Nat):Int) * 1=lo:=by simp
  have l:(hi-lo).toNat-((0:Nat):Int)=Builtin.Range.rangeSize lo hi 1:=by rw[rangeSize_one];split<;>lia
  rw[k,l];exact AAD _ rfl
 ·have e:b=(s.heap.push { cls:=.type "range",data:=.fields #[.int lo t,.int hi u,.int 1 v] }).objs.size:=by simpa using j
  subst e;exact c.fpOk (AAE _) (c.hok.fresh (AAE _))
noncomputable def bV(a:TA):TI:=λO H R=>a O H λb c=>∃j:Int,b=[.int j]/\-(2 ^ 62)<=j/\j<2 ^ 62/\R (Itr 0 j.toNat) c
theorem Qy{a:Expr}{p pos:Pos}(c:Gl X "range")(d:X.mg "range" = none)(f:PA X [a] g)(i:starEach [a] X.env=[(false,eval a X.env)]:=by rfl):PI X tg (.Call (.Name "range" p) [a] [] pos) (bV g):=by
 intro k s O H R I h;refine Call_ (Hf I c d boot_range (PyProof.Rows.callWith_type1 (thn (f pos k s O H _ I h) λu v ⟨w,x,l,m,b⟩=>?_) i rfl));obtain⟨j,e,b,n,q⟩:=b;subst e;cases m with
 |cons r o=>
  cases o;obtain⟨t,rfl⟩:=r;exact call_range_1 (S9 l (by lia) (by lia) b n (by simpa using q))
noncomputable def cL(d:TI)(g:TG)(e:TS):TS:=λD O H=>d O H λJ f=>∃W:Nat->Nat->St->Hp->Prop,(∃m,W 0 m O f)/\∀i m O H,W i m O H->
 (J.stop i H/\D.nx O H)∨(J.go i H/\∃N:St->Hp->Prop,(∀b a,N b a->∃c,c<m/\W (i+1) c b a)/\∀x a,J.yld i H x a->g x O a λh j=>e { D with nx:=N,ct:=N,bk:=D.nx } h j)
noncomputable def Lv(fp:List Addr)(h:Heap):List (Addr×Obj):=fp.filterMap λb=>(h.get? b).map λo=>(b,o)
theorem DS(a:b∈fp)(e:h.get? b=some o):(b,o)∈Lv fp h:=List.mem_filterMap.mpr ⟨b,a,by rw[e];rfl⟩
theorem Q3(a:p∈Lv fp h):p.1∈fp/\h.get? p.1=some p.2:=by
 obtain⟨b,c,e⟩:=List.mem_filterMap.mp a;cases q:h.get? b with
 |none=>simp_all
 |some o=>
  rw[q] at e;have d  := Option.some.inj e;subst d;exact⟨c,q⟩
theorem Inv.pinned(I:Inv X a O H s)(f:∀b∈fp,HN X a H b)(g:∀b∈fp,∃o,s.heap.get? b=some o/\∀v,o.data≠.cell v):Inv X (a++Lv fp s.heap) O H s:=
 I.pins_of λp h=>(AAJ.mp h).elim (λz=>I.pin p (AAZ _ z)) λz=>by
  obtain⟨c,e⟩:=Q3 z;obtain⟨i,j,k,_⟩:=f p.1 c;obtain⟨o,l,d⟩:=g p.1 c
  simp_all
theorem Inv.unpinned(I:Inv X (a++c) O H s):Inv X a O H s:=I.pins_of λp b=>I.pin p (AAZ _ (AAa _ b))
theorem OJ(z:PassesOwn (model X.prog X.w) X.A X.env X.xe)(hc:X.calm=true)(hi:PI X tg q wi)(hg:PG X tg g)(a:PSs X A tb)
  (hs:∀x,foldedSetIterable q X.env x=pure x:=by intro _;rfl):PS X (.For tg q A [] pos) (cL wi g tb):=by
 intro w s O H D I h;refine wpAny_For (thn (hi w s O H _ I h) λv s1 h1=>thn h1 λitv s2 h2=>?_) hs;obtain⟨it,B,tn,J,H2,e,I2,T,R,f2,W,⟨m0,w0⟩,C⟩:=h2;subst e;have c:∀{p:Hp},(∀b∈B,p b=none)->∀b∈B,HN X w p b:=λhn b a=>⟨hn b a,(f2 b a).2⟩;refine codeAny_forLoop_any (λn s'=>∃i E p,Inv X w E p s'/\tn i s'.heap/\(∀b∈B,p b=none)/\W i n E p) ?_ m0 ⟨0,O,H2,I2,R,λb a=>(f2 b a).1,w0⟩;rintro n s3 ⟨i,F,Q,I3,G,L,w3⟩;rcases C i n F Q w3 with ⟨M,qn⟩|⟨go,N,hN,step⟩
 ·refine wpAny_passesOwn z (thn (T.done X rfl rfl rfl hc i w s3 F Q X.xe I3 (c L) G M) λr s4 ⟨S,I4⟩=>?_);subst S;exact wpAny_execs_nil ⟨F,Q,I4,qn⟩
 ·refine wpAny_passesOwn z (thn (T.item X rfl rfl rfl hc i w s3 F Q X.xe I3 (c L) G go) λr s4 ⟨u,S,h4⟩=>?_);subst S;refine wpAny_passesOwn z (thn h4 λ_ s5 zq=>?_);obtain⟨x,H5,I5,r5,y5,y,U⟩:=zq;have Y:=I5.pinned (c U) (T.obj _ _ y);refine wpAny_passesOwn z (thn (hg _ s5 F H5 x u _ Y r5 (step x H5 y5)) λ_ s6 ⟨u9,H6,I6,q6⟩=>wpAny_passesOwn z (thn (a _ s6 u9 H6 _ I6 q6) λf Z t=>?_));have again:∀{j:St} {k:Hp},Inv X (w++Lv B s5.heap) j k Z->N j k->∃m,m<n/\∃i E p,Inv X w E p Z/\tn i Z.heap/\(∀b∈B,p b=none)/\W i m E p:=λ{j k} l P=>by
   obtain⟨m',hm,w7⟩:=hN j k P;refine⟨m',hm,i+1,j,k,l.unpinned,T.keep _ _ _ y λb a o e=>(l.pin (b,o) (AAZ _ (AAZ _ (DS a e)))).1,λb a=>?_,w7⟩;obtain⟨o,e,d⟩:=T.obj _ _ y b a;exact(l.pin (b,o) (AAZ _ (AAZ _ (DS a e)))).2.1
  cases f with
  |next=>obtain⟨j,k,l,P⟩:=t;exact again l P
  |cont=>obtain⟨j,k,l,P⟩:=t;exact again l P
  |brk=>obtain⟨j,k,l,t⟩:=t;exact⟨j,k,l.unpinned,t⟩
  |ret v=>obtain⟨x7,j,k,l,r7,t⟩:=t;exact⟨x7,j,k,l.unpinned,r7,t⟩
end
noncomputable abbrev R2:=V->V->Hp->VK->Prop
def OpR(X:Cx)(f:Value->Value->Sem Value)(r:R2):Prop:=
 ∀(a:List (Addr×Obj)) (s:Shared) (O:St) (H:Hp) (x y:V) (v u:Value) (Q:VK),Inv X a O H s->RelV x v->RelV y u->r x y H Q->
  wpAny (model X.prog X.w) X.A (f v u) (EP X a O Q) X.xe s
def UnR(X:Cx)(f:Value->Sem Value)(r:V->Hp->VK->Prop):Prop:=
 ∀(a:List (Addr×Obj)) (s:Shared) (O:St) (H:Hp) (x:V) (v:Value) (Q:VK),Inv X a O H s->RelV x v->r x H Q->
  wpAny (model X.prog X.w) X.A (f v) (EP X a O Q) X.xe s
def B7(X:Cx)(f:Value)(r:List V->Hp->VK->Prop):Prop:=
 ∀(a:List (Addr×Obj)) (s:Shared) (O:St) (H:Hp) (b:List V) (c:List Value) (Q:VK),Inv X a O H s->Vals b c->r b H Q->
  wpAny (model X.prog X.w) X.A (call f c) (EP X a O Q) X.xe s
def dB(X:Cx)(r:V->Hp->(Bool->Hp->Prop)->Prop):Prop:=
 ∀(a:List (Addr×Obj)) (s:Shared) (O:St) (H:Hp) (x:V) (v:Value) (Q:Bool->Hp->Prop),Inv X a O H s->RelV x v->r x H Q->
  wpAny (model X.prog X.w) X.A (truthy v) (TP X a O Q) X.xe s
noncomputable def tOp(r:R2)(a b:TE):TE:=λO H Q=>a O H λx c=>b O c λy d=>r x y d Q
noncomputable def tUn(r:V->Hp->VK->Prop)(a:TE):TE:=λO H Q=>a O H λx b=>r x b Q
noncomputable def rI(C:Int->Int->Prop)(g:Int->Int->V):R2:=λx y H Q=>∃i j,x=.int i/\y=.int j/\C i j/\Q (g i j) H
noncomputable def rI0(g:Int->Int->V):R2:=λx y H Q=>∃i j,x=.int i/\y=.int j/\Q (g i j) H
noncomputable def rU(g:Int->V):V->Hp->VK->Prop:=λx H Q=>∃i,x=.int i/\Q (g i) H
section
variable{X:Cx}{a b:Expr}{ta tb:TE}{pos:Pos}
theorem Zv(k:PE X a ta)(l:PE X b tb){g:List (Addr×Obj)}{s:Shared}{H:Hp}{R:V->V->Hp->Prop}(I:Inv X g O H s)
  (h:ta O H λx j=>tb O j λy c=>R x y c) {Q:Value->Shared->Prop} {f:Value->Value->Sem Value}
  (m:∀v u i x y c,Inv X g O c i->RelV x v->RelV y u->R x y c->wpAny (model X.prog X.w) X.A (f v u) Q X.xe i) :
  wpAny (model X.prog X.w) X.A (eval a X.env) (λv d=>wpAny (model X.prog X.w) X.A (eval b X.env) (λu e=>wpAny (model X.prog X.w) X.A (f v u) Q X.xe e) X.xe d) X.xe s:=thn (k g s O H _ I h) λv n ⟨x,j,o,p,q⟩=>thn (l g n O j _ o q) λu i ⟨y,c,r,t,w⟩=>m v u i x y c r p t w
theorem au{op:Operator}{r:R2}(c:OpR X (binaryOp op) r)(d:PE X a ta)(e:PE X b tb):PE X (.BinOp a op b pos) (tOp r ta tb):=by
 intro f s O H Q I h;exact wpAny_BinOp (Zv d e I h λv u g x y i=>c f g O i x y v u Q)
theorem aq(d:UnR X (unaryOp op) r)(e:PE X a ta):PE X (.UnaryOp op a pos) (tUn r ta):=by
 intro c s O H Q I h;exact UnaryOp_ (thn (e c s O H _ I h) λv f ⟨x,g,i,j,k⟩=>d c f O g x v Q i j k)
theorem opI{f:Value->Value->Sem Value}{g:Int->Int->Int}
  (rule:∀(i j:Int) (t u:Tok) (s:Shared) (Q:Value->Shared->Prop) (E:Value->Shared->Prop),C i j->Q (.int (g i j) s.toks) { s with toks:=s.toks+1 }->wpAny (model X.prog X.w) X.A (f (.int i t) (.int j u)) Q E s) :
  OpR X f (rI C λi j=>.int (g i j)):=by
 intro l s O H x y v u Q I c d h;obtain⟨i,j,rfl,rfl,e,q⟩:=h;obtain⟨t,rfl⟩:=c;obtain⟨k,rfl⟩:=d;exact rule i j t k s _ _ e ⟨.int (g i j),H,I.tok _,⟨_,rfl⟩,q⟩
theorem bB{f:Value->Value->Sem Value}{g:Int->Int->Int}
  (rule:∀(i j:Int) (t u:Tok) (s:Shared) (Q:Value->Shared->Prop) (E:Value->Shared->Prop),Q (.int (g i j) s.toks) { s with toks:=s.toks+1 }->wpAny (model X.prog X.w) X.A (f (.int i t) (.int j u)) Q E s) :
  OpR X f (rI0 λi j=>.int (g i j)):=by
 intro k s O H x y v u Q I c d h;obtain⟨i,j,rfl,rfl,q⟩:=h;obtain⟨t,rfl⟩:=c;obtain⟨e,rfl⟩:=d;exact rule i j t e s _ _ ⟨.int (g i j),H,I.tok _,⟨_,rfl⟩,q⟩
theorem WW{g:Int->Int->Bool}
  (rule:∀(i j:Int) (t u:Tok) (s:Shared) (Q:Value->Shared->Prop) (E:Value->Shared->Prop),Q (.bool (g i j)) s->wpAny (model X.prog X.w) X.A (f (.int i t) (.int j u)) Q E s) :
  OpR X f (rI0 λi j=>.bl (g i j)):=by
 intro k s O H x y v u Q I c d h;obtain⟨i,j,rfl,rfl,q⟩:=h;obtain⟨t,rfl⟩:=c;obtain⟨e,rfl⟩:=d;exact rule i j t e s _ _ ⟨.bl _,H,I,rfl,q⟩
def dI(i j:Int):Prop:=0<j/\j<1073741824
def dH(i j:Int):Prop:=0<=j/\j<=1000000/\i.natAbs<2 ^ 64
def CMul(i j:Int):Prop:=(-(2 ^ 64)<i/\i<2 ^ 64)∨(-(2 ^ 64)<j/\j<2 ^ 64)
theorem CMul.ok(h:CMul i j):IntMulOk i j:=by
 rcases h with ⟨c,d⟩|⟨c,d⟩
 ·exact .of_left (intBits_le_64 c d)
 ·exact .of_right (intBits_le_64 c d)
theorem ZF:OpR X (binaryOp .Add) (rI0 λi j=>.int (i+j)):=bB λ_ _ _ _ _ _ _=>add_int
theorem Y6:OpR X (binaryOp .Sub) (rI0 λi j=>.int (i-j)):=bB λ_ _ _ _ _ _ _=>sub_int
theorem ZA:OpR X (binaryOp .Mult) (rI CMul λi j=>.int (i * j)):=opI λ_ _ _ _ _ _ _ c q=>mul_int q c.ok
theorem WU:OpR X (binaryOp .FloorDiv) (rI dI λi j=>.int (i / j)):=opI λi j _ _ _ _ _ hc q=>by
 have d  := hc.1;have e  := hc.2;exact floordiv_int (by lia) (by rw[Int.fdiv_eq_ediv_of_nonneg i (by lia)];exact q) (.inl (PyProof.noPylong_small (by lia)))
theorem ZB:OpR X (binaryOp .Mod) (rI (λ_ j=>0<j) λi j=>.int (i % j)):=opI λi j _ _ _ _ _ c q=>mod_int' (by lia) (by rw[Int.fmod_eq_emod_of_nonneg i (by lia)];exact q)
theorem Y8:OpR X (binaryOp .Pow) (rI dH λi j=>.int (i ^ j.toNat)):=opI λ_ _ _ _ _ _ _ hc=>pow_int_small hc.1 hc.2.1 hc.2.2
theorem unI{g:Int->Int}
  (rule:∀(i:Int) (t:Tok) (s:Shared) (Q:Value->Shared->Prop) (E:Value->Shared->Prop),Q (.int (g i) s.toks) { s with toks:=s.toks+1 }->wpAny (model X.prog X.w) X.A (f (.int i t)) Q E s) :
  UnR X f (rU λi=>.int (g i)):=by
 intro d s O H x v Q I c h;obtain⟨i,rfl,q⟩:=h;obtain⟨t,rfl⟩:=c;exact rule i t s _ _ ⟨.int (g i),H,I.tok _,⟨_,rfl⟩,q⟩
theorem YQ:UnR X (unaryOp .USub) (rU λi=>.int (-i)):=unI λ_ _ _ _ _=>neg_int
end
section
variable{X:Cx}{a b c:Expr}{ta tb tc:TE}{pos:Pos}
theorem ME(I:Inv X d O H s)(q:Q (.bl k) H)(e:k=f):EP X d O Q (.bool f) s:=by
 subst e;exact⟨.bl k,H,I,rfl,q⟩
theorem a7:OpR X (compareOp .Lt) (rI0 λi j=>.bl (decide (i<j))):=WW λ_ _ _ _ _ _ _=>lt_int
theorem a8:OpR X (compareOp .LtE) (rI0 λi j=>.bl (decide (i<=j))):=WW λ_ _ _ _ _ _ _=>le_int
theorem a9:OpR X (compareOp .Gt) (rI0 λi j=>.bl (decide (j<i))):=WW λ_ _ _ _ _ _ _=>gt_int
theorem bA:OpR X (compareOp .GtE) (rI0 λi j=>.bl (decide (j<=i))):=WW λ_ _ _ _ _ _ _=>ge_int
theorem Q1:OpR X (compareOp .In) (λx y H Q=>∃i j,x=.str i/\y=.str j/\Q (.bl (!(Builtin.Str.occurrences j i 0 j.length 1).isEmpty)) H):=by
 intro f s O H x y v u Q I d e h;obtain⟨i,j,rfl,rfl,q⟩:=h;obtain⟨t,rfl⟩:=d;obtain⟨g,rfl⟩:=e;exact in_str (ME I q rfl)
theorem ZC:OpR X (compareOp .Is) (λx y H Q=>y=.non/\Q (.bl (decide (x=.non))) H):=by
 intro f s O H x y v u Q I d e h;obtain⟨rfl,q⟩:=h;cases e;refine is_none_gen (ME I q ?_);cases x<;>first
  |grind
  |(obtain⟨t,rfl⟩:=d;rfl)
theorem WT:OpR X (compareOp .IsNot) (λx y H Q=>y=.non/\Q (.bl (!decide (x=.non))) H):=by
 intro f s O H x y v u Q I d e h;obtain⟨rfl,q⟩:=h;cases e;refine isnot_none_gen (ME I q ?_);cases x<;>first
  |(rfl)
  |(obtain⟨t,rfl⟩:=d;rfl)
theorem Lw:OpR X (compareOp .NotIn) (λx y H Q=>∃i j,x=.str i/\y=.str j/\Q (.bl (!(!(Builtin.Str.occurrences j i 0 j.length 1).isEmpty))) H):=by
 intro f s O H x y v u Q I d e h;obtain⟨i,j,rfl,rfl,q⟩:=h;obtain⟨t,rfl⟩:=d;obtain⟨g,rfl⟩:=e;exact notIn_str (ME I q rfl)
theorem Tr(b:Expr)(h:op≠.In:=by decide)(f:op≠.NotIn:=by decide):behindInMarks op b=false:=by
 have d:(op==CmpOp.In)=false:=by grind
 have e:(op==CmpOp.NotIn)=false:=by grind
 cases b<;>simp[behindInMarks,d,e]
theorem WM{r:R2}(d:OpR X (compareOp op) r)(e:PE X a ta)(f:PE X b tb)(g:behindInMarks op b=false):PE X (.Compare a [op] [b] pos) (tOp r ta tb):=by
 intro i s O H Q I h;exact wpAny_Compare1 (Zv e f I h λv u j x y k=>d i j O k x y v u Q) g
noncomputable def aD(t:TE):TT:=λO H Q=>t O H λx d=>∃k,x=.bl k/\Q k d
theorem WB(f:OpR X (compareOp op) r)(g:PE X a ta)(i:PE X b tb)(j:behindInMarks op b=false):PT X (.Compare a [op] [b] pos) (aD (tOp r ta tb)):=by
 intro d s O H Q I h;refine wpAny_isTrue_Compare1 (thn (g d s O H _ I h) λv l ⟨x,m,n,o,p⟩=>thn (i d l O m _ n p) λu q ⟨y,t,w,A,B⟩=>
  thn (f d q O t x y v u _ w o A B) λc G ⟨z,C,D,E,k,e,F⟩=>?_) j
 subst e;cases E;exact wpAny_truthy_bool ⟨C,D,F⟩
noncomputable def Se(r e:R2)(ta tb tc:TE):TE:=λO H Q=>ta O H λx f=>tb O f λy g=>r x y g λz d=>∃k,z=.bl k /\
 (if k=true then tc O d λh i=>e y h i Q else Q (.bl false) d)
theorem Tc(o:OpR X (compareOp op) r)(i:OpR X (compareOp f) p)(q:PE X a ta)(t:PE X b tb)(w:PE X c tc)
  (A:lastMarks [op,f] [b,c]=false:=by with_unfolding_all rfl):PE X (.Compare a [op,f] [b,c] pos) (Se r p ta tb tc):=by
 intro g s O H Q I h;refine Compare_chain (thn (q g s O H _ I h) λv B ⟨x,C,D,E,F⟩=>chain_link (thn (t g B O C _ D F) λu G ⟨y,J,L,j,M⟩=>
  thn (o g G O J x y v u _ L E j M) λd N ⟨z,l,m,P,k,e,n⟩=>?_)) A
 subst e;cases P;refine wpAny_truthy_bool ?_;cases k with
 |false=>exact ite_ff ⟨.bl false,l,m,rfl,n⟩
 |true=>exact ite_tt (chain_last (thn (w g N O l _ m n) λR S ⟨T,U,W,Y,Z⟩=>i g S O U y T u R Q W j Y Z))
def bv(K:PySem.W.Frag)(x:V)(H:Hp)(k:Bool):Prop:=
 match x with
 | .non=>k=false
 | .bl b=>k=b
 | .int i=>k=(i != 0)
 | .str y=>y.length<=sizeLine/\k=((y.length:Int) != 0)
 | .byt y=>y.size<=sizeLine/\k=((y.size:Int) != 0)
 | .ref p=>(∃d,SqL K H p d/\k=!d.isEmpty)∨(∃d,SqT K H p d/\k=!d.isEmpty)∨∃e,H p=some (.dK e)/\k=!e.isEmpty
 |_=>False
theorem On(r:KV d e):(!e.isEmpty)=!d.isEmpty:=by
 cases r<;>rfl
theorem Jl(r:Vals xs d):(!d.toArray.isEmpty)=!xs.isEmpty:=by
 cases r<;>simp
theorem Je:(sizeLine:Nat)<2 ^ 63:=by decide
theorem YS:dB X (λx H Q=>∃k,bv X.K x H k/\Q k H):=by
 intro C s O H x v Q I g h;obtain⟨k,e,q⟩:=h;have D  := sizeLine_eq;cases x with
 |non=>
  cases g;have d  := e;subst d;exact truthy_none ⟨H,I,q⟩
 |bl b=>
  cases g;have d  := e;subst d;exact wpAny_truthy_bool ⟨H,I,q⟩
 |int i=>
  obtain⟨t,rfl⟩:=g;have d  := e;subst d;exact PySem.P.truthy_int ⟨H,I,q⟩
 |str y=>
  obtain⟨t,rfl⟩:=g;obtain⟨z,d⟩:y.length<=sizeLine/\k=((y.length:Int) != 0):=e;subst d;exact PySem.P.truthy_str (by lia) ⟨H,I.tok _,q⟩
 |byt y=>
  obtain⟨t,rfl⟩:=g;obtain⟨z,d⟩:y.size<=sizeLine/\k=((y.size:Int) != 0):=e;subst d;exact PySem.W.truthy_bytes (by lia) ⟨H,I.tok _,q⟩
 |ref p=>
  cases g;have d  := e;rcases d with ⟨A,j,d⟩|⟨A,j,d⟩|⟨l,j,d⟩
  ·subst d;obtain⟨n,r,o,w⟩:=I.list j;have f:=r.length;exact wpAny_truthy_list o.isList (by simp only[List.size_toArray];lia) ⟨H,I.tok _,by rw[Jl r];exact q⟩
  ·subst d;obtain⟨n,r,o,w⟩:=I.tuple j;have f:=r.length;exact truthy_tuple o (by simp only[List.size_toArray];lia) ⟨H,I.tok _,by rw[Jl r];exact q⟩
  ·subst d;obtain⟨w,B,u,r,m⟩:l.length<=sizeLine/\(p==sysModules)=false/\∃u,KV l u/\s.heap.DictOf (CZ X.prog X.w) p u:=I.hok p _ j;have f  := Paired.length r;exact wpAny_truthy_dict B m (by lia) ⟨H,I.tok _,by rw[On r];exact q⟩
 |_=>exact(e).elim
theorem TH(f:PE X a ta)(g:∀d,isTrue a X.env d=(do let v ←d;standAt a.pos;holding [v] (truthy v))):
  PT X a (λO H Q=>ta O H λx H'=>∃k,bv X.K x H' k/\Q k H'):=by
 intro e s O H Q I h;exact isTrue_plain (thn (f e s O H _ I h) λv i ⟨x,j,l,m,n⟩=>YS e i O j x v Q l m n) (g _)
theorem OO:OpR X (binaryOp .Add) (λx y H Q=>∃i j,x=.str i/\y=.str j/\i.length+j.length<=sizeLine/\Q (.str (i++j)) H):=by
 intro k s O H x y v u Q I d e h;obtain⟨i,j,rfl,rfl,f,q⟩:=h;obtain⟨t,rfl⟩:=d;obtain⟨g,rfl⟩:=e;exact add_str (λg l=>⟨.str _,H,I.tok _,⟨_,rfl⟩,q⟩) f
theorem Ea(r:Vals [x] d):∃u,d=[u]/\RelV x u:=by
 cases r with
 |cons e f=>cases f;exact⟨_,rfl,e⟩
theorem XL(r:Vals [x,y] e):∃u d,e=[u,d]/\RelV x u/\RelV y d:=by
 cases r with
 |cons f g=>
  cases g with
  |cons h i=>cases i;exact⟨_,_,rfl,f,h⟩
theorem Ri(e:X.calm=true):B7 X (.builtin "max") (λxs H Q=>∃i j,xs=[.int i,.int j]/\Q (.int (if j > i then j else i)) H):=by
 intro f s O H xs g Q I r h;obtain⟨i,j,rfl,q⟩:=h;obtain⟨u,l,rfl,⟨t,rfl⟩,m,rfl⟩:=XL r;refine max_two_ints (I.ok.hd e) λn o k=>⟨_,H,I.kept k,?_,q⟩;by_cases d:j > i
 ·rw[if_pos d,if_pos d];exact⟨_,rfl⟩
 ·rw[if_neg d,if_neg d];exact⟨_,rfl⟩
theorem Rk:B7 X (.type "int") (λxs H Q=>(∃i,xs=[.int i]/\Q (.int i) H)∨∃k,xs=[.bl k]/\Q (.int (if k then 1 else 0)) H):=by
 intro e s O H xs f Q I r h;rcases h with ⟨i,rfl,q⟩|⟨k,rfl,q⟩
 ·obtain⟨u,rfl,t,rfl⟩:=Ea r;exact call_int_int ⟨.int i,H,I,⟨_,rfl⟩,q⟩
 ·obtain⟨u,rfl,d⟩:=Ea r;cases d;exact call_int_bool ⟨.int _,H,I.tok _,⟨_,rfl⟩,q⟩
def dF(K:PySem.W.Frag)(x:V)(H:Hp)(n:Nat):Prop:=
 match x with
 | .str y=>y.length<=sizeLine/\n=y.length
 | .byt y=>y.size<=sizeLine/\n=y.size
 | .ref p=>(∃d,SqL K H p d/\n=d.length)∨∃d,SqT K H p d/\n=d.length
 |_=>False
theorem Ur:B7 X (.builtin "len") (λxs H Q=>∃x n,xs=[x]/\dF X.K x H n/\Q (.int n) H):=by
 intro v s O H xs w Q I r h;obtain⟨x,n,rfl,e,q⟩:=h;obtain⟨u,rfl,g⟩:=Ea r;have z  := sizeLine_eq;cases x with
 |str y=>
  obtain⟨t,rfl⟩:=g;obtain⟨m,f⟩:_:=e;subst f;exact len_str (by lia) ⟨.int _,H,I.tok _,⟨_,rfl⟩,q⟩
 |byt y=>
  obtain⟨t,rfl⟩:=g;obtain⟨m,f⟩:_:=e;subst f;exact PySem.W.len_bytes (by lia) ⟨.int _,H,I.tok _,⟨_,rfl⟩,q⟩
 |ref p=>
  cases g;have f  := e;rcases f with ⟨xs,i,f⟩|⟨xs,i,f⟩
  ·subst f;obtain⟨j,k,l,o⟩:=I.list i;have d:=k.length;exact Calls.call_len_list l.isList (by simp only[List.size_toArray];lia) ⟨.int _,H,I.tok _,⟨_,by simp only[List.size_toArray];rw[d]⟩,q⟩
  ·subst f;obtain⟨j,k,l,o⟩:=I.tuple i;have d:=k.length;exact len_tuple l (by simp only[List.size_toArray];lia) ⟨.int xs.length,H,I.tok _,⟨_,by simp only[List.size_toArray];rw[d]⟩,q⟩
 |_=>exact(e).elim
end
structure ObjM(h:Heap)(x dx C:Addr)(mA:Str->Option Value):Prop where
 obj:h.get? x=some (PySem.W.instObj C dx)
 ns:h.Ns1 dx mA
 ne:dx≠x
theorem RC{h:Heap}{c:Addr}{d:Str->Option Value}(n:h.Ns1 c d):∃f,h.get? c=some f/\∀name,PySem.W.lookIn name f=some (d name):=by
 obtain⟨o,g,r,i,j,k,_,l⟩:=n;refine⟨o,i,λname=>?_⟩;have e:=l name;unfold nsFind findBy at e;rw[←Array.find?_toList] at e;unfold PySem.W.lookIn;rw[j];dsimp;split
 ·rename_i y q;rw[q] at e;exact congrArg some e
 ·rename_i q;rw[q] at e;have a:g.toList.any (·.refKey)=false:=by
   rw[List.any_eq_false];intro y m;obtain⟨z,t,b⟩:=k y (Array.mem_toList_iff.mp m);simp[DictEntry.refKey,b]
  have p:¬g.toList.any (·.refKey)=true:=by rw[a];exact AAf
  rw[if_neg p];exact congrArg some e
theorem ObjM.look(I:ObjM h x b C c):∃a,PySem.W.InstAt h x (PySem.W.instObj C b) C (some a)/\∀name,PySem.W.lookIn name a=some (c name):=
 let ⟨a,d,e⟩:=RC I.ns
 ⟨a,⟨I.obj,rfl,rfl,d⟩,e⟩
theorem RelO.some_of(r:RelO (some v) o):∃u,o=some u/\RelV v u:=by
 cases o with
 |none=>exact(r).elim
 |some u=>exact⟨u,rfl,r⟩
section
variable{P:Program}{w:World}{H:Hp}{h:Heap}{a C dx:Addr}{fs:List (Str×V)}
theorem Wo(c:HOk P w H h)(e:H a=some (.ins C dx fs)):∃b,ObjM h a dx C b/\(∀f,RelO (fs.lookup f) (b f))/\PySem.Within b (fs.map (·.1))/\fs.length<=1000/\H dx=some (.own a):=by
 obtain⟨d,z,g,i,b,n,r,q⟩:=c a _ e;exact⟨b,⟨i,n,g⟩,r,q,z,d⟩
end
structure Cls(K:PySem.W.Frag)(C:Addr):Prop where
 pg:PySem.W.plainGet K C Str.empty=true
 hd:PySem.W.hasDictIn K C=true
 po:PySem.W.plainOver K C=true
 sa:PySem.W.findIn K (.ref C) "__setattr__" = some (some (.builtin "object.__setattr__"))
theorem Cls.get{K:PySem.W.Frag}{C:Addr}(c:Cls K C)(f:Str):PySem.W.plainGet K C f=true:=c.pg
section
variable{X:Cx}{w4:List (Addr×Obj)}{O:St}{H:Hp}{s:Shared}{A:Around}{E:Value->Shared->Prop}{Q:Value->Shared->Prop}{c:Value}{b:Bool}
inductive H9 (K:PySem.W.Frag) (H:Hp):V->Value->Prop where
 |non:H9 K H .non (.type "NoneType")
 |bl (x:Bool):H9 K H (.bl x) (.type "bool")
 |int (i:Int):H9 K H (.int i) (.type "int")
 |str (x:Str):H9 K H (.str x) (.type "str")
 |flt (x:UInt64):H9 K H (.flt x) (.type "float")
 |lst {a:Addr} {xs:List V} (e:H a=some (.lst xs)):H9 K H (.ref a) (.type "list")
 |frz {a:Addr} {o:Obj} {xs:List V} (e:H a=some (.frz o (.lst xs))):H9 K H (.ref a) (.type "list")
 |tup {a:Addr} {xs:List V} (e:H a=some (.tup xs)):H9 K H (.ref a) (.type "tuple")
 |dK {a:Addr} {kvs:List (Key×V)} (e:H a=some (.dK kvs)):H9 K H (.ref a) (.type "dict")
 |dT {a:Addr} {kvs:List (List Key×V)} (e:H a=some (.dT kvs)):H9 K H (.ref a) (.type "dict")
 |ins {a C dx:Addr} {fs:List (Str×V)} (e:H a=some (.ins C dx fs)) (cl:Cls K C) (ha:PySem.W.findIn K (.ref C) "__class__" = some (some (.builtin "object.__class__")))
   (hn:PySem.W.specialIn K (.builtin "object.__class__") "__get__" = some (some (.builtin "getset_descriptor.__get__"))) (htk:PySem.W.takesIn K (.builtin "object.__class__")=some true)
   (hm:PySem.W.mroIn K C (.type "object")=some true):H9 K H (.ref a) (.ref C)
theorem RJ(I:Inv X w4 O H s)(d:RelV x u)(v:H9 X.K H x t)(e:PySem.W.kitOne X.K t c=some b)(h:∀w,Q (.bool b) { s with toks:=w }):
  wpAny (model X.prog X.w) A (call (.builtin "isinstance") [u,c]) Q E s:=by
 cases v with
 |non=>cases d;exact PySem.W.kia_one PySem.W.kitx_none I.kIn True.intro e (λz=>nomatch z) h
 |bl y=>cases d;exact PySem.W.kia_one PySem.W.kitx_bool I.kIn True.intro e (λz=>nomatch z) h
 |int i=>obtain⟨t,q⟩:=d;cases q;exact PySem.W.kia_one PySem.W.kitx_int I.kIn True.intro e (λz=>nomatch z) h
 |str y=>obtain⟨t,q⟩:=(d);cases q;exact PySem.W.kia_one PySem.W.kitx_str I.kIn True.intro e (λz=>nomatch z) h
 |flt y=>obtain⟨t,q⟩:=(d);cases q;exact PySem.W.kia_one PySem.W.kitx_float I.kIn True.intro e (λz=>nomatch z) h
 |@lst a j f=>
  cases show u=Value.ref a from d
  obtain⟨_,_,n,_,g⟩:=I.hok a _ f;exact PySem.W.kia_one PySem.W.kitx_list I.kIn ⟨_,g,rfl⟩ e (λz=>nomatch z) h
 |@frz a N j f=>
  cases d;obtain⟨_,_,_,n,_,g⟩:=I.hok a _ f;exact PySem.W.kia_one PySem.W.kitx_list I.kIn ⟨_,g,rfl⟩ e (λz=>nomatch z) h
 |@tup a j f=>
  cases show u=Value.ref a from d
  obtain⟨_,_,_,p⟩:=I.hok a _ f;obtain⟨o,g,h2,_⟩:=p;exact PySem.W.kia_one PySem.W.kitx_tuple I.kIn ⟨o,g,h2⟩ e (λz=>nomatch z) h
 |@dK a l f=>
  cases show u=Value.ref a from d
  obtain⟨_,_,P,_,p⟩:=I.hok a _ f;obtain⟨o,B,D,g,h2,_⟩:=p;exact PySem.W.kia_one PySem.W.kitx_dict I.kIn ⟨o,g,h2.1⟩ e (λz=>nomatch z) h
 |@dT a l f=>
  cases show u=Value.ref a from d
  obtain⟨_,_,j,_,o,B,D,g,h2,_⟩:=I.hok a _ f;exact PySem.W.kia_one PySem.W.kitx_dict I.kIn ⟨o,g,h2.1⟩ e (λz=>nomatch z) h
 |@ins a C R S f r F G m L=>
  cases d;obtain⟨T,M,_⟩:=Wo I.hok f;obtain⟨U,J,_⟩:=M.look;exact PySem.W.kia_one (PySem.W.kitx_own (r.get _) r.hd F G m L) I.kIn J e (λz=>nomatch z) h
end
structure Room(k:Nat)(A:Around):Prop where
 hd:A.handled=none
 dp:A.depth+3 * k+5<recursionLimit
 un:A.units+16 * k+200<cLine
 gd:A.guards=some []
theorem Room.mono(r:Room k A)(h:j<=k):Room j A:=⟨r.hd,by have:=r.dp;lia,by have:=r.un;lia,r.gd⟩
theorem Room.deeper(r:Room (k+1) A)(env:Env):Room k (A.deeper env):=
 ⟨r.hd,by have:=r.dp;show A.depth+1+3 * k+5<_;lia,by have:=r.un;show A.units+3+16 * k+200<_;lia,r.gd⟩
theorem Room.depth(r:Room k A):A.depth<recursionLimit:=by have:=r.dp;lia
theorem Room.units(r:Room k A):A.units+64<cLine:=by have:=r.un;lia
noncomputable def cI:TA:=λ_ H Q=>Q [] H
noncomputable def aL(a:TE)(b:TA):TA:=λO H Q=>a O H λx c=>b O c λd e=>Q (x::d) e
section
variable{X:Cx}{e:Expr}{es:List Expr}{te:TE}{t:TA}{pos:Pos}
theorem Hb:PA X [] cI:=λ_ _ _ _ H Q I h=>Calls.spliced_nil ⟨[],H,I,.nil,h⟩
theorem F5(b:PE X e te)(c:PA X es t)(d:starEach (e::es) X.env=(false,eval e X.env)::starEach es X.env:=by rfl):PA X (e::es) (aL te t):=by
 intro pos a s O H Q I h;rw[d];show wpAny _ _ (spliced ((false,eval e X.env)::backTo pos (starEach es X.env))) _ _ s;exact Calls.spliced_cons (thn (b a s O H _ I h) λu f ⟨x,g,i,j,k⟩=>thn (c pos a f O g _ i k) λq r ⟨l,m,n,o,p⟩=>⟨x::l,m,n,.cons j o,p⟩)
noncomputable def cE(t:TA):TE:=λO H Q=>t O H λa b=>a.length<=sizeLine/\∀p,b p=none->Q (.ref p) (upd b p (.tup a))
noncomputable def cJ(t:TA):TE:=λO H Q=>t O H λa b=>a.length<=sizeLine/\∀p,b p=none->Q (.ref p) (upd b p (.lst a))
theorem Yt(h:PA X es t):PE X (.Tuple es i pos) (cE t):=by
 intro c s O H Q I d;refine wpAny_Tuple_spliced (thn (h pos c s O H _ I d) λf j ⟨k,l,a,r,z,q⟩=>⟨by rw[←r.length];exact z,?_⟩);have g  := a.hok.fresh (AAE _);refine⟨.ref _,_,a.laid (λb u=>AAC _) (AAE _) ?_,rfl,q _ g⟩;exact⟨z,f,r,_,AAD _ rfl,rfl,_,rfl⟩
theorem TV(h:PA X es t):PE X (.List es pos) (cJ t):=by
 intro c s O H Q I d;refine wpAny_List_spliced (thn (h pos c s O H _ I d) λf i ⟨j,k,a,r,z,q⟩=>⟨by rw[←r.length];exact z,?_⟩);have g  := a.hok.fresh (AAE _);refine⟨.ref _,_,a.laid (λb u=>AAC _) (AAE _) ?_,rfl,q _ g⟩;exact⟨z,f,0,r,AAD _ rfl⟩
end
noncomputable abbrev Sp:=List V->Hp->VK->XK->Prop
noncomputable abbrev CXT:=List Env->Hp->Shared->XK->Value->Shared->Prop
structure XF(P:Program)(w:World)(K:PySem.W.Frag)(mg:Str->Option Value)(base:Heap)(A:Around)(outer:List Env)(s:Shared)(H:Hp):Prop where
 frames:A.frames=some outer
 mod:Mod K mg base
 bs:∀b o,base.get? b=some o->s.heap.get? b=some o/\H b=none
 bsz:base.objs.size<=s.heap.objs.size
 funs:s.heap.FunFrames base outer
 frf:∀b∈frs outer,H b=none
 hok:HOk P w H s.heap
 bare:AllBare s.gens
def CE(a:List Env)(P:Program)(w:World)(H:Hp)(s:Shared)(Q:VK)(u:Value)(b:Shared):Prop:=
 ∃v c,b.os=s.os/\AllBare b.gens/\Un (frs a) [] H c s.heap b.heap/\HOk P w c b.heap/\RelV v u/\Q v c
def CR(c:CXT)(a:List Env)(P:Program)(w:World)(H:Hp)(s:Shared)(Q:VK)(E:XK)(r:Result)(b:Shared):Prop:=
 match r with
 | .ok (.ret u)=>CE a P w H s Q u b
 | .ok _=>False
 | .error e=>c a H s E e b
structure FnOk(P:Program)(w:World)(K:PySem.W.Frag)(mg:Str->Option Value)(base:Heap)(CX:CXT)(k:Nat)(f:Addr)(fd:FuncData)(ps:List Str)(sp:Sp):Prop where
 len:∀vs H Q E,sp vs H Q E->vs.length=ps.length
 run:∀(A:Around) (outer:List Env) (s:Shared) (H:Hp) (args:Args) (us:List Value) (vs:List V) (Q:VK) (E:XK),Room k A->XF P w K mg base A outer s H->BindsTo s fd args (ps.zip us)->Vals vs us->sp vs H Q E->
  codeAny (model P w) A (.call (.ref f) args) (CR CX outer P w H s Q E) s
theorem FnOk.mono{P:Program}{w:World}{K:PySem.W.Frag}{d:Str->Option Value}{a:Heap}(F:FnOk P w K d a e j f g i l)(h:j<=k):
  FnOk P w K d a e k f g i l:=⟨F.len,λA b s H c m n Q E o=>F.run A b s H c m n Q E (o.mono h)⟩
theorem FnOk.imp{P:Program}{w:World}{K:PySem.W.Frag}{g:Str->Option Value}{a:Heap}(F:FnOk P w K g a i k f j l m)
  (h:∀c H Q E,e c H Q E->m c H Q E):FnOk P w K g a i k f j l e:=
 ⟨λc H Q E q=>F.len c H Q E (h _ _ _ _ q),λA b s H d n c Q E o p r t u=>F.run A b s H d n c Q E o p r t (h _ _ _ _ u)⟩
section
variable{X:Cx}{w4:List (Addr×Obj)}{O:St}{H:Hp}{s s':Shared}
theorem Inv.env0(I:Inv X w4 O H s):XF X.prog X.w X.K X.mg X.base X.A X.stack s H:=
 ⟨I.ok.frames,I.ok.mod,I.bs,AAq I.ok.bsz I.sz,I.stack,I.stkFree,I.hok,I.bare⟩
theorem Inv.after(I:Inv X w4 O H s)(h:CE X.stack X.prog X.w H s Q u s'):EP X w4 O Q u s':=by
 obtain⟨v,f,os,a,i,c,r,q⟩:=h;obtain⟨j,g,d,t,e⟩:=s';obtain rfl:e=s.os:=os;exact⟨v,f,I.call i c a λb z=>absurd z (by simp),r,q⟩
end
noncomputable def aM(b:Sp)(a:List V)(E:XK)(t:TA):TE:=λO H Q=>t O H λc d=>b (c++a) d Q E
def Binds(K:PySem.W.Frag)(c:FuncData)(b:List Str)(ds:List Value):Prop:=
 ∀(s:Shared) (a:List Value),K.In s.heap->(a++ds).length=b.length->BindsTo s c ⟨a,[]⟩ (b.zip (a++ds))
theorem Binds.all{K:PySem.W.Frag}(h:∀a:List Value,a.length=b.length->bindArgs d ⟨a,[]⟩=pure (b.zip a)):Binds K d b []:=λs a _ c=>by
 rw[AAY] at c ⊢;exact .of_eq (h a c)
def O7(b:CXT)(X:Cx)(E:XK):Prop:=∀(c:List (Addr×Obj)) (O:St) (H:Hp) (s:Shared) (e:Value) (a:Shared),Inv X c O H s->b X.stack H s E e a->X.xe e a
section
variable{X:Cx}{CX:CXT}{k:Nat}{f:Addr}{fd:FuncData}{ps:List Str}{sp:Sp}{dvs:List V}{ds:List Value}{E:XK}{x:Str}{p pos:Pos}{e:Expr}{es:List Expr}{t:TA}
theorem Ye(F:FnOk X.prog X.w X.K X.mg X.base CX k f fd ps sp)(i:Room k X.A)(j:Binds X.K fd ps ds)(l:Vals dvs ds)(m:O7 CX X E)
  (I:Inv X c O H s) (r:Vals d a) (h:sp (d++dvs) H Q E):wpAny (model X.prog X.w) X.A (call (.ref f) a) (EP X c O Q) X.xe s:=by
 have g  := r.append l;have n:(a++ds).length=ps.length:=by rw[←g.length];exact F.len _ _ _ _ h
 refine wpAny_call (codeAny_mono (F.run X.A X.stack s H ⟨a,[]⟩ (a++ds) (d++dvs) Q E i I.env0 (j s a I.kIn n) g h) λr o b=>?_);cases r with
 |error e=>exact m c O H s e o I b
 |ok q=>
  cases q with
  |ret u=>exact I.after b
  |next=>exact False.elim b
  |brk=>exact False.elim b
  |cont=>exact False.elim b
theorem WN(F:FnOk X.prog X.w X.K X.mg X.base CX k f fd ps sp)(d:Room k X.A)(g:Gl X x)(i:X.mg x=some (.ref f))(j:PySem.W.keepIn X.K (.ref f)=true)(l:Binds X.K fd ps ds)(m:Vals dvs ds)(n:O7 CX X E)
  (o:PA X (e::es) t) (a:(x==("__debug__" : Str))=false:=by decide) (u:starEach (e::es) X.env=(false,eval e X.env)::starEach es X.env:=by rfl) (b:(backTo pos (starEach es X.env)).any (·.1)=false:=by rfl) :
  PE X (.Call (.Name x p) (e::es) [] pos) (aM sp dvs E t):=by
 intro v s O H Q I h;exact wpAny_Call_Name_kw (P2 I g i (PySem.W.callWith_K I.ok.mod.kin j (thn (o pos v s O H _ I h) λw y ⟨z,A,c,r,q⟩=>⟨c.kIn,Ye F d l m n c r q⟩) u b) a)
end
structure Ab(N P:List Str)(sc:Scope):Prop where
 kind:sc.kind=.function
 co:sc.isCoroutine=false
 gen:sc.isGenerator=false
 nd:N.Nodup
 pre:N.take P.length=P
 par:∀x∈P,sc.names.lookup x=some .local∨sc.names.lookup x=some .cell
 nofree:∀y∈sc.names,y.2≠.free
theorem LN{kindOf:Str->Option NameKind}:∀{a:List (Str×Value)} {m:Str->Option Value},(∀v,(x,v)∉a)->bindL kindOf a m x=m x
 |[],_,_=>rfl
 |(n,v)::r,m,h=>by
  unfold bindL;rw[LN λw b=>h w (AAQ _ b)];split
  ·have:x≠n:=by rintro rfl;exact h v AAP
   simp[this]
  ·rfl
theorem LP{kindOf:Str->Option NameKind}:∀{a:List (Str×Value)} {m:Str->Option Value},(∀v,(x,v)∉a)->bindC kindOf a m x=m x
 |[],_,_=>rfl
 |(n,v)::r,m,h=>by
  unfold bindC;rw[LP λw b=>h w (AAQ _ b)];split
  ·rfl
  ·have:x≠n:=by rintro rfl;exact h v AAP
   simp[this]
theorem LO{kindOf:Str->Option NameKind}:∀{P:List Str} {a:List Value} {i:Nat} {m:Str->Option Value},P.Nodup->P[i]?=some x->a[i]?=some v->kindOf x=some .local->
  bindL kindOf (P.zip a) m x=some v
 |[],_,_,_,_,h,_,_=>by simp at h
 |_::_,[],_,_,_,_,h,_=>by simp at h
 |p::P,w::a,0,m,d,b,c,e=>by
  simp at b c;subst b;subst c;show bindL kindOf ((p,w)::P.zip a) m p=_;unfold bindL;rw[LN λv f=>(List.nodup_cons.mp d).1 (List.of_mem_zip f).1,if_pos e];simp
 |p::P,w::a,i+1,m,d,b,c,e=>by
  unfold bindL;exact LO (List.nodup_cons.mp d).2 (by simpa using b) (by simpa using c) e
theorem LQ{kindOf:Str->Option NameKind}:∀{P:List Str} {a:List Value} {i:Nat} {m:Str->Option Value},P.Nodup->P[i]?=some x->a[i]?=some v->kindOf x≠some .local->
  bindC kindOf (P.zip a) m x=some v
 |[],_,_,_,_,h,_,_=>by trivial
 |_::_,[],_,_,_,_,h,_=>by trivial
 |p::P,w::a,0,m,b,c,d,e=>by
  simp at c d;subst c;subst d;show bindC kindOf ((p,w)::P.zip a) m p=_;unfold bindC;rw[LP λv f=>(List.nodup_cons.mp b).1 (List.of_mem_zip f).1,if_neg e];simp
 |p::P,w::a,i+1,m,b,c,d,e=>by
  unfold bindC;exact LQ (List.nodup_cons.mp b).2 (by trivial) (by trivial) e
noncomputable def start(N:List Str)(a:List V):St:=a.map some++List.replicate (N.length-a.length) none
noncomputable def HH(i:CXT)(P:Program)(w:World)(K:PySem.W.Frag)(j:Str->Option Value)(g:Heap)(N:List Str)(c:Str)(a:Scope)(f:Addr)(h:Value)(A:Around)(b:List Env)(s:Shared)(H:Hp)(E:XK):Cx where
 prog:=P
 w:=w
 K:=K
 mg:=j
 base:=g
 A:=A.deeper (envOfC c a s.heap.objs.size f h)
 N:=N
 s₀:=s
 H₀:=H
 env:=envOfC c a s.heap.objs.size f h
 outer:=b
 stack:=envOfC c a s.heap.objs.size f h::b
 ex:=[]
 calm:=true
 fn:=λ_=>true
 pn:=[]
 xe:=λe k=>wpAny (model P w) (A.deeper (envOfC c a s.heap.objs.size f h)) (leaving (envOfC c a s.heap.objs.size f h) e) (λ_ d=>i b H s E e d) (λl d=>i b H s E l d) k
theorem Nd{a:Scope}(h:a.names.lookup x=some .cell):∃c,(cellsFrom n a.names []).lookup x=some c:=by
 have q:=PySem.W.cellsFrom_some _ n [] (.inl h);exact Option.isSome_iff_exists.mp q
theorem RK{L:CXT}{P:Program}{w:World}{K:PySem.W.Frag}{I:Str->Option Value}{g:Heap}{N m:List Str}{d:Str}{a:Scope}
  (S:Ab N m a) (R:A.handled=none) (l:XF P w K I g A j s H) (Y:t.length=m.length) (r:Vals t M)
  (x:InCallC s s.heap.objs.size (bindL (envOfC d a s.heap.objs.size f J).kindOf (m.zip M) λ_=>none) (cellsFrom (s.heap.objs.size+1) a.names []) (bindC (envOfC d a s.heap.objs.size f J).kindOf (m.zip M) λ_=>none) T) :
  Inv (HH L P w K I g N d a f J A j s H E) [] (start N t) H T:=by
 have U:m.length<=N.length:=by have:=congrArg List.length S.pre;rw[List.length_take] at this;lia
 obtain⟨F,Z,rfl,O⟩:=x.done;have n:∀b ,b∉(HH L P w K I g N d a f J A j s H E).ex:=λb z=>absurd (show b∈[] from z) (by simp);refine⟨⟨l.mod,S.kind,rfl,rfl,AAE _,λy z c F o=>?_,λy B=>?_,λy c _ h=>?_,λ_=>R,Around.frames_deeper l.frames,.inr ⟨rfl,rfl⟩,λb z=>absurd z (n b),l.bs,l.bsz,λb _ _=>n b,λb z=>absurd z (n b),l.funs,l.frf⟩,
  rfl,l.bare,Un.kept O,⟨_,x.toInCall.ns,λi y v F o h3=>?_⟩,λy c h=>⟨_,x.cell y c h⟩,l.hok.fresh (AAE _),λy c h=>?_,λp C=>absurd (show p∈[] from C) (by simp),l.hok.kept O,?_⟩
 ·exact name_of_addr x.apart (PySem.mem_of_lookup F) (PySem.mem_of_lookup o)
 ·rcases B with B|B
  ·exact Nd B
  ·exact absurd rfl (S.nofree _ (PySem.mem_of_lookup B))
 ·exact Nat.le_of_lt (x.above y c (PySem.mem_of_lookup h))
 ·have G:i<t.length:=by
   unfold start at o;by_cases G:i<t.length
   ·exact G
   ·rw[AAR (by simpa using G)] at o;rw[List.getElem?_replicate] at o
    simp_all
  have W:t[i]?=some v:=by
   unfold start at o;rw[AAS (by simpa using G),AAV] at o
   simp_all
  obtain⟨u,Q,X⟩:=r.get W;have C:m[i]?=some y:=by
   rw[←S.pre,List.getElem?_take_of_lt (by lia)];exact F
  have D:m.Nodup:=by rw[←S.pre];exact S.nd.sublist (List.take_sublist _ _)
  refine⟨u,X,?_⟩;rcases S.par y (AAU C) with k|k
  ·exact .inl ⟨k,LO D C Q k⟩
  ·obtain⟨c,e⟩:=Nd k;refine .inr ⟨.inl k,c,e,?_⟩;have q:=x.cell y c e;rw[LQ D C Q (by show a.names.lookup y≠_;rw[k];decide)] at q;exact q
 ·exact l.hok.fresh (Nat.le_of_lt (x.above y c (PySem.mem_of_lookup h)))
 ·unfold start;show _=N.length
  simp_all
theorem bX{L:CXT}{P:Program}{w:World}{K:PySem.W.Frag}{M:Str->Option Value}{h:Heap}{k:Nat}{f:Addr}{name d:Str}{i:Arguments}{j:List Stmt}{a:Scope}{dV kV B pm g ct oc:Value}{an od:Option Addr}
  {T:Array (Option Value)} {N O:List Str} {U:Sp} (lk:K.lookup f=some ⟨oc,od,.func (PySem.W.fnOf name d i j a dV kV B pm an g ct),T⟩) (W:PySem.W.codeIn K g d=true) (S:Ab N O a)
  (C:∀l H Q E,U l H Q E->l.length=O.length)
  (m:∀(A:Around) (c:List Env) (s:Shared) (H:Hp) (l:List V) (Q:VK) (E:XK),Room k (A.deeper (envOfC d a s.heap.objs.size f g))->U l H Q E->
   ∃t,PSs (HH L P w K M h N d a f g A c s H E) j t/\t { nx:=λ_ H'=>Q .non H',rt:=Q } (start N l) H) :
  FnOk P w K M h L (k+1) f (PySem.W.fnOf name d i j a dV kV B pm an g ct) O U:=by
 refine⟨C,λA c s H args us l Q E X D hb r F=>?_⟩;have hl:=C _ _ _ _ F;have KX  := D.mod.kin.keeps λb o e=>(D.bs b o e).1;have Y  := D.mod.nolimit.keeps λb o e=>(D.bs b o e).1;have p:∀y∈O.zip us,a.names.lookup y.1=some .local∨a.names.lookup y.1=some .cell/\((cellsFrom (s.heap.objs.size+1) a.names []).lookup y.1).isSome=true:=λ⟨n,v⟩ hy=>by
  rcases S.par n (List.of_mem_zip hy).1 with q|q
  ·exact .inl q
  ·exact .inr ⟨q,PySem.W.cellsFrom_some _ _ _ (.inl q)⟩
 refine codeAny_call_function X.depth (KX _ _ lk) rfl S.co S.gen rfl (PySem.W.codeRec_of KX W) (hb _ _ _ _ (wpAny_newFunctionEnv_cells S.kind p λenv he s1 x=>?_));subst he;refine⟨Y.keeps x.toInCall.keep,codeAny_func ?_⟩;obtain⟨t,ht,hq⟩:=m A c s H l Q E (X.deeper _) F;have I:Inv (HH L P w K M h N d a f g A c s H E) [] (start N l) H s1:=RK S X.hd D hl r x;refine AAh (ht [] s1 (start N l) H _ I hq) (λfl Z z=>?_) λe Z z=>z;have G:∀{R:St} {H':Hp} {v:V} {u:Value},Inv (HH L P w K M h N d a f g A c s H E) [] R H' Z->RelV v u->Q v H'->CE c P w H s Q u Z:=
  λ{R H' v u} J rv q=>⟨v,H',J.os,J.bare,J.base,J.hok,rv,q⟩
 cases fl with
 |ret u=>
  obtain⟨v,R,H',J,rv,q⟩:=z;exact G J rv q
 |next=>
  obtain⟨R,H',J,q⟩:=z;exact G (v:=V.non) J rfl q
 |brk=>
  obtain⟨_,_,_,q⟩:=z
  simp_all
 |cont=>
  obtain⟨_,_,_,q⟩:=z;exact False.elim q
section
variable{X:Cx}{x:Str}{p pos:Pos}{e:Expr}{es:List Expr}{t:TA}{id T:String}{r:List V->Hp->VK->Prop}
noncomputable def tCB(r:List V->Hp->VK->Prop)(t:TA):TE:=λO H Q=>t O H λa b=>r a b Q
theorem M8(d:B7 X (.builtin id) r)(f:Gl X x)(g:X.mg x=none)(i:bootBuiltins x=some (.builtin id))(j:PA X (e::es) t)(hn:x ≠ "__name__" := by decide)(a:(x==("__debug__" : Str))=false:=by decide)
  (k:starEach (e::es) X.env=(false,eval e X.env)::starEach es X.env:=by rfl) (b:(backTo pos (starEach es X.env)).any (·.1)=false:=by rfl):PE X (.Call (.Name x p) (e::es) [] pos) (tCB r t):=by
 intro c s O H Q I h;exact wpAny_Call_Name_kw (Hf I f g i (PyProof.Rows.callWith_builtin1 (thn (j pos c s O H _ I h) λl m ⟨n,o,q,u,v⟩=>d c m O o n l Q q u v) k b) hn a)
theorem Eg(d:B7 X (.type T) r)(f:Gl X x)(g:X.mg x=none)(i:bootBuiltins x=some (.type T))(j:PA X (e::es) t)(hn:x ≠ "__name__" := by decide)(a:(x==("__debug__" : Str))=false:=by decide)
  (k:starEach (e::es) X.env=(false,eval e X.env)::starEach es X.env:=by rfl) (b:(backTo pos (starEach es X.env)).any (·.1)=false:=by rfl):PE X (.Call (.Name x p) (e::es) [] pos) (tCB r t):=by
 intro c s O H Q I h;exact wpAny_Call_Name_kw (Hf I f g i (PyProof.Rows.callWith_type1 (thn (j pos c s O H _ I h) λl m ⟨n,o,q,u,v⟩=>d c m O o n l Q q u v) k b) hn a)
end
end L2
namespace HT
open PySem PyProof.Rows
noncomputable def Dd:List Int->List Int->Bool
 |[],[]=>false
 |[],_::_=>true
 |_::_,[]=>false
 |x::a,y::b=>if x=y then Dd a b else decide (x<y)
theorem CQ(x y:Int)(xs ys:List Int):Dd (x::xs) (y::ys)=if x=y then Dd xs ys else decide (x<y):=rfl
theorem KY:Dd [] []=false:=rfl
theorem Jg(y:Int)(ys:List Int):Dd [] (y::ys)=true:=rfl
theorem Jh(x:Int)(xs:List Int):Dd (x::xs) []=false:=rfl
theorem UW(A:Around)(s:Shared)(a:Int)(t:Tok)(c:Int)(u:Tok):∃e,SeqAt.EqAt A s (.int a t) (.int c u) e/\(e=true↔a=c):=
 ⟨_,SeqAt.EqAt.int_int a t c u,by simp⟩
theorem S8(A:Around)(s:Shared)(a:Int)(t:Tok)(c:Int)(u:Tok)(prog:Program)(w:World)(E:Value->Shared->Prop)(Q:Value->Shared->Prop)(h:Q (.bool (decide (a<c))) s):
  wpAny (model prog w) A (richCompare .Lt (.int a t) (.int c u)) Q E s:=
 PyProof.Rows.lt_int h
section
open PySem.SeqAt
open PySem.AutoSeq1 (wpAny_loadPart')
open PySem.MeetsSeq PySem.MeetsSeq2 PySem.MeetsSeq3
theorem KN(l b:Addr)(i f:Array Value)(n V:Nat)(W N:Option Addr)(X O:Array (Option Value))(ns H:List Int)(hi:IntsAre i.toList ns)(T:IntsAre f.toList H):
  Meets (Builtin.«tuple.__lt__» ⟨[.ref l,.ref b],[]⟩)
   (λ_ R s=>s.heap.get? l=some { cls:=.type "tuple",dict:=W,data:=.seq i n,slots:=X }/\s.heap.get? b=some { cls:=.type "tuple",dict:=N,data:=.seq f V,slots:=O } /\
    R (.ok (.ret (.bool (Dd ns H)))) s):=
 .of_wp λr w A R s h=>by
  obtain⟨I,g,d,J,os⟩:=s;obtain⟨Y,Z,h⟩:=h;have f2:=AutoSeq1.sub_tuple_tuple;have z1:i.size=ns.length:=by rw[←hi.length];simp
  have z2:f.size=H.length:=by rw[←T.length];simp
  wp_walk using wpAny_loadPart' Y,wpAny_loadPart' Z,wpAny_forIn_list _ (λv b P=>b.1=none/\P=⟨I,g,d,J,os⟩/\∃(L M:List Value) (k m:List Int),v=L.zip M /\
   IntsAre L k/\IntsAre M m/\k.length+f.size=m.length+i.size/\R (.ok (.ret (.bool (Dd k m)))) ⟨I,g,d,J,os⟩) _
  case turn=>
   rintro⟨y,x⟩ v b P ⟨C,rfl,L,M,k,m,o,D,p,j,z⟩;cases D with
   |nil=>rw[List.zip_nil_left] at o;cases o
   |cons a t F=>
    cases p with
    |nil=>rw[List.zip_nil_right] at o;cases o
    |cons c u G=>
     rw[List.zip_cons_cons] at o;injection o with Q E
     injection Q with hy hx
     subst hy hx;rw[CQ] at z;simp only[AAH] at j;obtain⟨e,he,B⟩:=UW A.in1 ⟨I,g,d,J,os⟩ a t c u;refine AAA (he r w _ _ ?_);cases e with
     |true=>
      rw[if_pos (B.mp rfl)] at z
      wp_walk
      exact⟨rfl,rfl,_,_,_,_,E,F,G,by lia,z⟩
     |false=>
      rw[if_neg (λq=>absurd (B.mpr q) AAf)] at z;have S:=S8 A.in1 ⟨I,g,d,J,os⟩ a t c u r w
      wp_walk using S
      exact⟨_,rfl,by simpa using z⟩
  case fin=>
   rintro⟨b1,b2⟩ P ⟨C,rfl,L,M,k,m,o,D,p,j,z⟩;simp only at C;subst C;have U:Dd k m=decide (i.size<f.size):=by
    cases D with
    |nil=>
     cases p with
     |nil=>
      simp only[List.length_nil] at j;rw[KY];exact(AAN (by lia)).symm
     |cons c u hw=>
      simp only[List.length_nil,AAH] at j;rw[Jg];exact(AAO (by lia)).symm
    |cons a t U=>
     cases p with
     |nil=>
      simp only[List.length_nil,AAH] at j;rw[Jh];exact(AAN (by lia)).symm
     |cons c u hw=>
      rw[List.zip_cons_cons] at o;cases o
   rw[U] at z
   wp_walk
   exact⟨_,rfl,by simpa[Builtin.Tuple.tupleCompareSizes] using z⟩
  case h=>
   exact⟨rfl,rfl,i.toList,f.toList,ns,H,rfl,hi,T,by lia,h⟩
end
section
variable{prog:Program}{w:World}{A:Around}{E:Value->Shared->Prop}{s:Shared}
theorem OY(r:IsTup s.heap l c)(t:IsTup s.heap b a)(hi:IntsAre c.toList ns)(u:IntsAre a.toList j)
  (v:A.units<cLine) (h:Q (.bool (Dd ns j)) s):wpAny (model prog w) A (compareOp .Lt (.ref l) (.ref b)) Q E s:=by
 obtain⟨⟨y,z,k,B⟩,m,o,n,p⟩:=id r;obtain⟨⟨q,g,data2,i⟩,d,e,C,f⟩:=id t;simp at o p e f;subst o p e f;exact richCompare_meets_room (op:=.Lt) ⟨_,m,rfl⟩ ⟨_,d,rfl⟩ PySem.F.slot_tuple_lt PySem.F.entry_tuple_lt (PySem.F.args_tuple_lt_2 _ _) (KN l b c a n C z g B i ns j hi u)
  ⟨m,d,(λx=>nomatch x),h⟩ v
theorem W3(x:IsTup s.heap t d.toArray)(y:IsTup s.heap b a.toArray)(l:d≠[])
  (z:a=[]->Q (.ref t) s) (B:a≠[]->Q (.ref s.heap.objs.size) { s with heap:=s.heap.push { cls:=.type "tuple",data:=.seq (d++a).toArray } })
  (C:d.length+a.length<=sizeLine):wpAny (model prog w) A (binaryOp .Add (.ref t) (.ref b)) Q E s:=by
 obtain⟨⟨D,m,o,p⟩,j,q,n,r⟩:=id x;obtain⟨⟨u,f,data2,g⟩,c,h,v,i⟩:=id y;simp at q r h i;subst q r h i;have e:d.toArray++a.toArray=(d++a).toArray:=by simp
 by_cases k:a=[]
 ·exact concat_meets ⟨_,j,rfl⟩ ⟨_,c,rfl⟩ noFill_tuple_add seq_tuple_add PySem.F.slot_tuple_add PySem.F.entry_tuple_add (PySem.F.args_tuple_add_2 _ _)
   (tuple_addW1 t b d.toArray a.toArray n v m f p g (by simpa using l) (by simp[k])) ⟨j,c,z k⟩
 ·refine concat_meets ⟨_,j,rfl⟩ ⟨_,c,rfl⟩ noFill_tuple_add seq_tuple_add PySem.F.slot_tuple_add PySem.F.entry_tuple_add (PySem.F.args_tuple_add_2 _ _)
   (tuple_addW2 t b d.toArray a.toArray n v m f p g (by simpa using l) (by simpa using k) (by trivial)) ⟨j,c,?_⟩
  rw[e];exact B k
noncomputable def sIx(n d:Nat):Option Int->Nat
 |none=>d
 |some v=>if v<0 then (v+(n:Int)).toNat else min v.toNat n
theorem Mz(n d:Nat):sIx n d none=d:=rfl
theorem IY(n d k:Nat):sIx n d (some (k:Int))=min k n:=rfl
theorem QW(v:Int)(n d:Nat):(if v<0 then max (v+(n:Int)) 0 else min v (n:Int))=((sIx n d (some v):Nat):Int):=by
 show _=((if v<0 then (v+n).toNat else min v.toNat n:Nat):Int)
 grind
theorem O6(lo hi:Option Int)(n:Nat):Builtin.Slice.sliceAdjust lo hi 1 (n:Int)=(((sIx n 0 lo:Nat):Int),((sIx n n hi:Nat):Int)):=by
 refine Prod.ext ?_ ?_
 ·cases lo with
  |none=>rfl
  |some v=>exact QW v n 0
 ·cases hi with
  |none=>rfl
  |some v=>exact QW v n n
theorem OL(i j:Nat):Builtin.Slice.slicePlaces (i:Int) (j:Int) 1=j-i:=by
 unfold Builtin.Slice.slicePlaces
 grind
theorem JI(p:IsPart v o)(h:Q o s):wpAny (model prog w) A (Builtin.Slice.slicePartIndex v) Q E s:=by
 cases p with
 |none=>exact slicePart_none h
 |int i t=>exact slicePart_int h
theorem Eb{e:Addr}{c d:Value}{lo hi:Option Int}{n:Nat}{Q:Int×Int×Nat->Shared->Prop}(f:s.heap.IsSliceOf e c d .none)(g:IsPart c lo)(i:IsPart d hi)
  (h:Q (((sIx n 0 lo:Nat):Int),1,sIx n n hi-sIx n 0 lo) s):wpAny (model prog w) A (Builtin.Slice.sliceApplied (.ref e) (pure (n:Int))) Q E s:=by
 obtain⟨os,a,j,b⟩:=id f;refine AAA (AAA (AAs a b (x:=c) rfl (AAA (AAs a b (x:=d) rfl (AAA (AAs a b (x:=.none) rfl (AAB (AAA (slicePart_none (AAA (JI g (AAA (JI i (AAA (AAB ?_)))))))))))))));show wpAny _ _ (match Builtin.Slice.sliceAdjust lo hi 1 n with|(lo,hi)=>pure (lo,(1:Int),Builtin.Slice.slicePlaces lo hi 1)) _ _ s;rw[O6 lo hi n];show wpAny _ _ (pure _) _ _ s;rw[OL];exact AAB h
theorem TM(xs:Array Value)(i k:Nat):((List.range k).filterMap λ(m:Nat)=>xs[((i:Int)+(m:Int) * 1).toNat]?).toArray=((xs.toList.drop i).take k).toArray:=by
 have e:(λ(m:Nat)=>xs[(i+(m:Int) * 1).toNat]?)=λm=>xs[i+m]?:=by
  funext m
  have:(i+(m:Int) * 1).toNat=i+m:=by lia
  rw[this]
 rw[e];have:=pick_run xs i k;rw[List.filterMap_map] at this;have a:((λx=>xs[x]?) ∘ λx=>i+x)=λm=>xs[i+m]?:=rfl;rw[a] at this;rw[this]
theorem G7{t d:Addr}{a:Array Value}{j k:Value}{lo hi:Option Int}{Q:Value->Shared->Prop}(c:IsTup s.heap t a)(l:s.heap.IsSliceOf d j k .none)(m:IsPart j lo)(n:IsPart k hi)
  (q:¬(sIx a.size 0 lo=0/\sIx a.size a.size hi=a.size))
  (h:Q (.ref s.heap.objs.size) { s with heap:=s.heap.push { cls:=.type "tuple",data:=.seq ((a.toList.drop (sIx a.size 0 lo)).take (sIx a.size a.size hi-sIx a.size 0 lo)).toArray } })
  (o:a.size<=sizeLine):wpAny (model prog w) A (getItem (.ref t) (.ref d)) Q E s:=by
 have b:sizeOk (.seq ((a.toList.drop (sIx a.size 0 lo)).take (sIx a.size a.size hi-sIx a.size 0 lo)).toArray):=by
  show ((a.toList.drop (sIx a.size 0 lo)).take (sIx a.size a.size hi-sIx a.size 0 lo)).toArray.size<=sizeLine;rw[List.size_toArray,List.length_take,List.length_drop,Array.length_toList];lia
 obtain⟨os,e,f,p⟩:=id l;have g:s.TypeIs (.ref d) "slice" := ⟨os,e,f⟩;unfold getItem
 try with_reducible refine AAn ?_
 refine AAA (wpAny_sequenceKey c.typeIs (by decide) (AAA (wpAny_callSpecial?_slot c.typeIs PyProof.Rows.slot_tuple_getitem
  (AAb PyProof.Rows.slot_tuple_getitem c.typeIs entry_tuple_getitem ?_ (args_tuple_getitem _ _)))))
 show wpAny _ _ (Builtin.Tuple.tupleItemsOf (.ref t) >>= _) _ _ s;refine AAA (tupleItemsOf_ c (AAA (wpAny_typeOf g (AAA (Eb l m n ?_)))));have i:¬((sIx a.size 0 lo:Int)==0&&(1:Int)==1&&sIx a.size a.size hi-sIx a.size 0 lo==a.size)=true:=by simp_all
 show wpAny _ _ (if _=true then _ else _) _ _ s;rw[if_neg i,TM]
 first
  |exact AAA (AAp (AAB ⟨_,rfl,AAB h⟩) b)
  |simp_all
  |simp_all
  |simp_all
end
end HT
namespace L2
open PySem PySem.Spec PyProof.Rows
noncomputable abbrev TO:=St->Hp->(Option Int->Hp->Prop)->Prop
def PO(X:Cx)(e:Option Expr)(t:TO):Prop:=
 ∀(a:List (Addr×Obj)) (s:Shared) (O:St) (H:Hp) (Q:Option Int->Hp->Prop),Inv X a O H s->t O H Q->
  wpAny (model X.prog X.w) X.A (evalPart e X.env) (λu c=>∃o b,Inv X a O b c/\IsPart u o/\Q o b) X.xe s
noncomputable def Vu:TO:=λ_ H Q=>Q none H
noncomputable def aE(t:TE):TO:=λO H Q=>t O H λx a=>∃i,x=.int i/\Q (some i) a
section
variable{X:Cx}{e:Expr}{te:TE}{lo hi:Option Expr}{tl th:TO}{pos p2:Pos}
theorem WJ:PO X none Vu:=by
 intro a s O H Q I h;exact AAB ⟨none,H,I,.none,h⟩
theorem WI(h:PE X e te):PO X (some e) (aE te):=by
 intro a s O H Q I b;refine thn (h a s O H _ I b) λu j ⟨x,c,d,f,g⟩=>?_;obtain⟨i,rfl,q⟩:=g;obtain⟨t,rfl⟩:=f;exact⟨some i,c,d,.int i t,q⟩
def SlR(X:Cx)(r:V->Option Int->Option Int->Hp->VK->Prop):Prop:=
 ∀(a:List (Addr×Obj)) (s:Shared) (O:St) (H:Hp) (x:V) (v b c:Value) (lo hi:Option Int) (d:Addr) (Q:VK),Inv X a O H s->RelV x v->s.heap.IsSliceOf d b c .none->IsPart b lo->IsPart c hi->r x lo hi H Q->
  ∃T id,typeLookup (.type T) "__getitem__" = pure (some (.builtin id))/\s.TypeIs v T/\wpAny (model X.prog X.w) X.A (getItem v (.ref d)) (EP X a O Q) X.xe s
theorem SlR.or(h:SlR X r)(k:SlR X l):SlR X (λx lo hi H Q=>r x lo hi H Q∨l x lo hi H Q):=by
 intro a s O H x v b c lo hi d Q I f g i j q;rcases q with q|q
 ·exact h a s O H x v b c lo hi d Q I f g i j q
 ·exact k a s O H x v b c lo hi d Q I f g i j q
noncomputable def tSl(r:V->Option Int->Option Int->Hp->VK->Prop)(te:TE)(tl th:TO):TE:=λO H Q=>te O H λx a=>tl O a λl b=>th O b λu c=>r x l u c Q
theorem TU(i:SlR X r)(j:PE X e te)(k:PO X lo tl)(m:PO X hi th):PE X (.Subscript e (.Slice lo hi none p2) pos) (tSl r te tl th):=by
 intro a s O H Q I h;refine Subscript_ (thn (j a s O H _ I h) λv n ⟨x,o,p,q,t⟩=>wpAny_Slice (thn (k a n O o _ p t) λd w ⟨l,y,z,A,B⟩=>thn (m a w O y _ z B) λf c ⟨u,g,C,D,E⟩=>AAB ?_));have F:Inv X a O g { c with heap:=c.heap.push { cls:=.type "slice",data:=.fields #[d,f,.none] } }:=C.kept λb M=>AAC _;obtain⟨T,id,G,J,L⟩:=i a _ O g x v d f l u c.heap.objs.size Q F q (Heap.IsSliceOf.new ..) A D E;exact tail_any J G L (by trivial)
noncomputable def Re(xs:List V)(lo hi:Option Int):List V:=(xs.drop (HT.sIx xs.length 0 lo)).take (HT.sIx xs.length xs.length hi-HT.sIx xs.length 0 lo)
theorem IL(xs:List V)(lo hi:Option Int):(Re xs lo hi).length<=xs.length:=by
 unfold Re;rw[List.length_take,List.length_drop];lia
noncomputable def cP(K:PySem.W.Frag):V->Option Int->Option Int->Hp->VK->Prop:=λx lo hi H Q=>∃a b,x=.ref a/\SqT K H a b /\
 ¬(HT.sIx b.length 0 lo=0/\HT.sIx b.length b.length hi=b.length)/\∀p,H p=none->Q (.ref p) (upd H p (.tup (Re b lo hi)))
theorem Yd:SlR X (cP X.K):=by
 intro p s O H x v t u lo hi w Q I j k l m h;obtain⟨a,f,rfl,n,o,q⟩:=h;cases j;obtain⟨d,r,g,i⟩:=I.tuple n;have c:d.toArray.size=f.length:=r.length.symm;refine⟨"tuple",_,PyProof.Rows.slot_tuple_getitem.lookup,g.typeIs,HT.G7 g k l m (by rw[c];exact o) ?_ (by rw[c];exact i)⟩;rw[c];refine⟨.ref _,_,I.laid (λb y=>AAC _) (AAE _) ?_,rfl,q _ (I.hok.fresh (AAE _))⟩;exact⟨AAq (IL f lo hi) i,_,(r.drop _).take _,IsTup.new _ _⟩
noncomputable def ae(K:PySem.W.Frag):R2:=λx y H Q=>∃a b d c,x=.ref a/\y=.ref b/\SqT K H a d/\SqT K H b c/\d≠[]/\d.length+c.length<=sizeLine /\
 (c=[]->Q (.ref a) H)/\(c≠[]->∀p,H p=none->Q (.ref p) (upd H p (.tup (d++c))))
theorem Vals.nil_iff(r:Vals xs a):a=[]↔xs=[]:=by
 cases r with
 |nil=>simp
 |cons _ _=>simp
theorem WV:OpR X (binaryOp .Add) (ae X.K):=by
 intro r s O H x y v u Q I g i h;obtain⟨a,b,t,A,rfl,rfl,j,k,l,m,n,o⟩:=h;cases g;cases i;obtain⟨p,d,q,_⟩:=I.tuple j;obtain⟨f,c,p2,_⟩:=I.tuple k;refine HT.W3 q p2 (λz=>l (d.nil_iff.mp z)) (λz=>⟨.ref a,H,I,rfl,n (c.nil_iff.mp z)⟩) (λz=>⟨.ref s.heap.objs.size,_,I.laid (λb B=>AAC _) (AAE _) ?_,rfl,o (λw=>z (c.nil_iff.mpr w)) _ (I.hok.fresh (AAE _))⟩) (by rw[←d.length,←c.length];exact m);exact⟨by simp_all,_,d.append c,IsTup.new _ _⟩
theorem Ng:B7 X (.type "tuple") (λxs H Q=>∃a ys,xs=[.ref a]/\SqT X.K H a ys/\Q (.ref a) H):=by
 intro g s O H xs i Q I r h;obtain⟨a,ys,rfl,b,q⟩:=h;obtain⟨u,rfl,c⟩:=Ea r;cases c;obtain⟨d,_,f,_⟩:=I.tuple b;exact call_tuple_same f ⟨.ref a,H,I,rfl,q⟩
end
noncomputable def ixN(n:Nat)(i:Int):Option Nat:=if 0<=i then (if i<n then some i.toNat else none) else if -(n:Int)<=i then some (i+n).toNat else none
noncomputable def atI{α:Type}(xs:List α)(i:Int):Option α:=(ixN xs.length i).bind λj=>xs[j]?
theorem P7(h:ixN n i=some j):seqIndex? i n=some j/\j<n/\-(n:Int)<=i/\i<n:=by
 unfold ixN at h;by_cases b:0<=i
 ·rw[if_pos b] at h;by_cases a:i<n
  ·rw[if_pos a] at h;have e  := Option.some.inj h;exact⟨by rw[seqIndex_of b a,e],by lia,by lia,a⟩
  ·rw[if_neg a] at h;cases h
 ·rw[if_neg b] at h;by_cases a:-n<=i
  ·rw[if_pos a] at h;have e  := Option.some.inj h;exact⟨by rw[seqIndex_neg (by lia) a,e],by lia,a,by lia⟩
  ·rw[if_neg a] at h;cases h
theorem MQ(h:atI xs i=some v):∃j,seqIndex? i xs.length=some j/\xs[j]?=some v/\j<xs.length/\-(xs.length:Int)<=i/\i<xs.length:=by
 unfold atI at h;cases e:ixN xs.length i with
 |none=>simp_all
 |some j=>
  rw[e] at h;obtain⟨a,b,c,d⟩:=P7 e;exact⟨j,a,h,b,c,d⟩
theorem XB{α:Type}{xs:List α}{j:Nat}{v:α}(h:xs[j]?=some v):atI xs (j:Int)=some v:=by
 have a  := (AAT.mp h).1;have e:ixN xs.length j=some j:=by
  unfold ixN
  simp_all
 unfold atI;rw[e];exact h
def Qi(b:Expr):Prop:=∀o i,subscripted b false o i=operate [o,i] (getItem o i)
def IxR(X:Cx)(r:R2):Prop:=
 ∀(b a:Expr) (c:List (Addr×Obj)) (s:Shared) (O:St) (H:Hp) (x y:V) (v u:Value) (Q:VK),Inv X c O H s->RelV x v->RelV y u->r x y H Q->
  subscripted a false v u=operate [v,u] (getItem v u)->wpAny (model X.prog X.w) X.A (subscriptTail b a v u) (EP X c O Q) X.xe s
def MtR(X:Cx)(id:String)(r:V->List V->Hp->VK->Prop):Prop:=
 ∀(a:List (Addr×Obj)) (s:Shared) (O:St) (H:Hp) (x:V) (b:List V) (v:Value) (c:List Value) (Q:VK),Inv X a O H s->RelV x v->Vals b c->r x b H Q->
  wpAny (model X.prog X.w) X.A (call (.builtin id) (v::c)) (EP X a O Q) X.xe s
section
variable{X:Cx}{a b:Expr}{ta tb:TE}{pos:Pos}
theorem IxR.or(h:IxR X r)(j:IxR X k):IxR X (λx y H Q=>r x y H Q∨k x y H Q):=by
 intro c d e s O H x y v u Q I f g q i;rcases q with q|q
 ·exact h c d e s O H x y v u Q I f g q i
 ·exact j c d e s O H x y v u Q I f g q i
theorem av(c:IxR X r)(d:PE X a ta)(e:PE X b tb)(f:Qi b):PE X (.Subscript a b pos) (tOp r ta tb):=by
 intro g s O H Q I h;exact Subscript_ (Zv d e I h λv u i x y j k l m q=>c a b g i O j x y v u Q k l m q (f _ _))
noncomputable def ad(K:PySem.W.Frag):R2:=λx y H Q=>∃p c i v,x=.ref p/\y=.int i/\SqL K H p c/\atI c i=some v/\Q v H
noncomputable def aY(K:PySem.W.Frag):R2:=λx y H Q=>∃p c i v,x=.ref p/\y=.int i/\SqT K H p c/\atI c i=some v/\Q v H
noncomputable def aZ:R2:=λx y H Q=>∃z i c,x=.str z/\y=.int i/\z.length<=sizeLine/\atI z.cps.toList i=some c/\Q (.str ⟨#[c]⟩) H
theorem ix_list:IxR X (ad X.K):=by
 intro e f B s O H x y v u Q I C D h n;obtain⟨p,N,i,z,rfl,rfl,E,F,q⟩:=h;cases C;obtain⟨t,rfl⟩:=D;obtain⟨g,r,k,P⟩:=I.list E;obtain⟨j,d,G,R,J,L⟩:=MQ F;obtain⟨w,o,l⟩:=r.get G;have M:=r.length;have S:=Je;have c:EP X B O Q w s:=⟨z,H,I,l,q⟩;by_cases A:0<=i
 ·have m  := by
   rw[seqIndex_of A L] at d;exact Option.some.inj d
  exact item_listR k.isList A (by lia) (by rw[m];simpa using o) c n
 ·have m:(i+g.toArray.size).toNat=j:=by
   rw[seqIndex_neg (by lia) J] at d;rw[List.size_toArray,←M];exact Option.some.inj d
  exact subscriptTail_builtinR k.isList.typeIs slot_list_getitem.lookup
   (wpAny_getItem_list_neg k.isList (by lia) (by rw[List.size_toArray]<;>lia) (by lia) (by rw[m];simpa using o) ⟨rfl,c⟩) n
theorem ix_tup:IxR X (aY X.K):=by
 intro c d k s O H x y v u Q I l m h n;obtain⟨p,G,i,z,rfl,rfl,o,A,q⟩:=h;cases l;obtain⟨t,rfl⟩:=m;obtain⟨B,r,g,J⟩:=I.tuple o;obtain⟨j,C,D,L,M,N⟩:=MQ A;obtain⟨w,E,e⟩:=r.get D;have F:=r.length;have P:=Je;have f:EP X k O Q w s:=⟨z,H,I,e,q⟩;exact subscriptTail_builtinR g.typeIs slot_tuple_getitem.lookup
  (getItem_tuple g (by lia) (by lia) (by rw[List.size_toArray,←F];exact C) (by simpa using E) ⟨rfl,f⟩) n
theorem ZT:IxR X aZ:=by
 intro d e w s O H x y v u Q I g k h l;obtain⟨z,i,c,rfl,rfl,A,m,q⟩:=h;obtain⟨t,rfl⟩:=g;obtain⟨B,rfl⟩:=k;obtain⟨j,f,n,C,o,p⟩:=MQ m;have r:z.cps.toList.length=z.length:=by simp[Str.length]
 rw[r] at f o p;have D:=Je;exact tail_any (typeIs_str s z t) slot_str_getitem.lookup (getItem_str (by
  grind) (by rw[f];simpa using n) ⟨.str _,H,I.tok _,⟨_,rfl⟩,q⟩) l
noncomputable def rIx(K:PySem.W.Frag):R2:=λx y H Q=>ad K x y H Q∨aY K x y H Q∨aZ x y H Q
theorem Ol:IxR X (rIx X.K):=ix_list.or (ix_tup.or ZT)
theorem OV(c:List Value)(n j:Nat)(u:Value):Obj.mapSeq (·.setIfInBounds j u) { cls:=.type "list",data:=.seq c.toArray n }={ cls:=.type "list",data:=.seq (c.set j u).toArray n }:=by
 simp[Obj.mapSeq]
theorem Inv.lst(I:Inv X d O H s)(h:H p=some (.lst xs)):
  ∃(c:List Value) (n:Nat),Vals xs c/\s.heap.get? p=some { cls:=.type "list",data:=.seq c.toArray n }/\xs.length<=sizeLine:=by
 obtain⟨z,c,n,r,e⟩:=I.hok p _ h;exact⟨c,n,r,e,z⟩
theorem Inv.lstUpd{i:List (Addr×Obj)}{O:St}{H:Hp}{s:Shared}{p:Addr}{xs ys:List V}{d c:List Value}{n g:Nat}{f:Obj->Obj}(I:Inv X i O H s)(h:H p=some (.lst xs))
  (k:s.heap.get? p=some { cls:=.type "list",data:=.seq d.toArray n }) (j:f { cls:=.type "list",data:=.seq d.toArray n }={ cls:=.type "list",data:=.seq c.toArray g }) (r:Vals ys c) (l:ys.length<=sizeLine) (t:Nat) :
  Inv X i O (upd H p (.lst ys)) { s with heap:=s.heap.update p f,toks:=t }:=by
 have e:(s.heap.update p f).get? p=some { cls:=.type "list",data:=.seq c.toArray g }:=by
  rw[Heap.get?_update_self f k (by rw[j]<;>rfl),j]
 refine I.write (by rw[h];trivial) (.inl rfl) (λb u m=>(Heap.get?_update_other _ _ (Ne.symm m)).trans) ⟨_,e⟩ ?_;exact⟨l,c,g,r,e⟩
noncomputable def aX:V->V->V->Hp->(Hp->Prop)->Prop:=λo i v H Q=>∃p c k j,o=.ref p/\i=.int k/\H p=some (.lst c)/\ixN c.length k=some j/\Q (upd H p (.lst (c.set j v)))
theorem Sn:bx X aX:=by
 intro E s O H o i v F G u Q I z A B h;obtain⟨p,J,k,j,rfl,rfl,l,C,q⟩:=h;cases z;obtain⟨t,rfl⟩:=A;obtain⟨c,n,r,e,D⟩:=I.lst l;obtain⟨d,L,m,w⟩:=P7 C;have f:=r.length;have M:=Je;have x  :=
  I.lstUpd l e (OV c n j u) (r.set B j) (by rw[AAu];exact D) s.toks
 by_cases y:0<=k
 ·have g  := by
   rw[seqIndex_of y w] at d;exact Option.some.inj d
  exact PySem.W.ki_setAt e y (by lia) (by rw[List.size_toArray,←f];exact w) (by rw[g];exact⟨_,x,q⟩)
 ·have g:(k+c.toArray.size).toNat=j:=by
   rw[seqIndex_neg (by lia) m] at d;rw[List.size_toArray,←f];exact Option.some.inj d
  exact PySem.W.ki_setBack e (by lia) (by rw[List.size_toArray,←f];exact m) (by lia) (by rw[g];exact⟨_,x,q⟩)
theorem Ll(lo hi:Option Int)(n:Nat):(sliceBounds lo hi none n).1=((HT.sIx n 0 lo:Nat):Int)/\(sliceBounds lo hi none n).2.1=((HT.sIx n n hi:Nat):Int)/\(sliceBounds lo hi none n).2.2=1:=by
 refine⟨?_,?_,rfl⟩
 ·cases lo with
  |none=>simp[sliceBounds,HT.sIx]
  |some i=>
   simp[sliceBounds,HT.sIx];by_cases h:i<0
   ·simp only[h,if_true]<;>lia
   ·simp only[h,if_false]<;>lia
 ·cases hi with
  |none=>simp[sliceBounds,HT.sIx]
  |some i=>
   simp only[sliceBounds,HT.sIx,Option.getD_none,show (1:Int) > 0 by decide,if_true];by_cases h:i<0
   ·simp only[h,if_true]<;>lia
   ·simp only[h,if_false]<;>lia
theorem KP(c:List Value)(lo hi:Option Int):slicePick c.toArray lo hi none=((c.drop (HT.sIx c.length 0 lo)).take (HT.sIx c.length c.length hi-HT.sIx c.length 0 lo)).toArray:=by
 obtain⟨d,e,f⟩:=Ll lo hi _;unfold slicePick;rw[d,e,f];simp only[sliceRange_one,pick_run]<;>rfl
noncomputable def cQ(K:PySem.W.Frag):V->Option Int->Option Int->Hp->VK->Prop:=λx lo d H Q=>∃a c,x=.ref a/\SqL K H a c/\∀p,H p=none->Q (.ref p) (upd H p (.lst (Re c lo d)))
theorem Vz:SlR X (cQ X.K):=by
 intro o s O H x v p t lo e u Q I f g i j h;obtain⟨a,k,rfl,l,q⟩:=h;cases f;obtain⟨m,r,d,n⟩:=I.list l;have c:=r.length;refine⟨"list",_,slot_list_getitem.lookup,d.isList.typeIs,wpAny_getItem_list_slice d.isList g i j .none (by simp) ?_ (by grind)⟩;rw[KP,←c];refine⟨.ref _,_,I.laid (λb w=>AAC _) (AAE _) ?_,rfl,q _ (I.hok.fresh (AAE _))⟩;exact⟨AAq (IL k lo e) n,_,0,(r.drop _).take _,AAD _ rfl⟩
noncomputable def De:V->Bool
 | .non=>true
 | .bl _=>true
 | .int _=>true
 | .str _=>true
 |_=>false
noncomputable def eqV:V->V->Bool
 | .non,.non=>true
 | .bl a,.bl b=>a==b
 | .bl a,.int b=>(if a then 1 else 0)==b
 | .int a,.bl b=>a==(if b then 1 else 0)
 | .int a,.int b=>a==b
 | .str a,.str b=>a==b
 |_,_=>false
theorem Zm(e:RelV y u)(c:RelV x v)(g:De y=true)(f:De x=true):SeqAt.EqAt A s u v (eqV y x):=by
 cases y with
 |non=>
  cases e;cases x with
  |non=>cases c;exact SeqAt.EqAt.same _
  |bl b=>cases c;exact SeqAt.EqAt.none_bool b
  |int b=>obtain⟨t,rfl⟩:=c;exact SeqAt.EqAt.none_int b t
  |str b=>obtain⟨t,rfl⟩:=c;exact SeqAt.EqAt.none_str b t
  |_=>trivial
 |bl a=>
  cases e;cases x with
  |non=>cases c;exact SeqAt.EqAt.bool_none a
  |bl b=>cases c;exact SeqAt.EqAt.bool_bool a b
  |int b=>obtain⟨t,rfl⟩:=c;exact SeqAt.EqAt.bool_int a b t
  |str b=>obtain⟨t,rfl⟩:=c;exact SeqAt.EqAt.bool_str a b t
  |_=>trivial
 |int a=>
  obtain⟨d,rfl⟩:=e;cases x with
  |non=>cases c;exact SeqAt.EqAt.int_none a d
  |bl b=>cases c;exact SeqAt.EqAt.int_bool a d b
  |int b=>obtain⟨t,rfl⟩:=c;exact SeqAt.EqAt.int_int a d b t
  |str b=>obtain⟨t,rfl⟩:=c;exact SeqAt.EqAt.int_str a d b t
  |_=>exact absurd (show false=true from f) AAf
 |str a=>
  obtain⟨d,rfl⟩:=e;cases x with
  |non=>cases c;exact SeqAt.EqAt.str_none a d
  |bl b=>cases c;exact SeqAt.EqAt.str_bool a d b
  |int b=>obtain⟨t,rfl⟩:=c;exact SeqAt.EqAt.str_int a d b t
  |str b=>obtain⟨t,rfl⟩:=c;exact SeqAt.EqAt.str_str a d b t
  |_=>exact absurd (show false=true from f) AAf
 |_=>exact absurd (show false=true from g) AAf
noncomputable def eqU(x:V)(u:Value):Bool:=match u with
 | .none=>eqV .non x
 | .bool b=>eqV (.bl b) x
 | .int i _=>eqV (.int i) x
 | .str z _=>eqV (.str z) x
 |_=>false
theorem MF(r:RelV y u)(f:De y=true):eqU x u=eqV y x:=by
 cases y with
 |non=>cases r;rfl
 |bl b=>cases r;rfl
 |int i=>obtain⟨t,rfl⟩:=r;rfl
 |str z=>obtain⟨t,rfl⟩:=r;rfl
 |_=>trivial
theorem HM:∀{xs:List V} {c:List Value},Vals xs c->xs.all De=true->c.any (eqU x)=xs.any λy=>eqV y x
 |_,_,.nil,_=>rfl
 |_,_,.cons r t,f=>by
  rw[List.all_cons,Bool.and_eq_true] at f;rw[List.any_cons,List.any_cons,MF r f.1,HM t f.2]
theorem ED(e:RelV x v)(g:De x=true):∀{xs:List V} {d:List Value},Vals xs d->xs.all De=true->∀u∈d,SeqAt.EqAt A s u v (eqU x u)
 |_,_,.nil,_=>λu c=>by cases c
 |y::xs,u::d,.cons r t,f=>λh c=>by
  rw[List.all_cons,Bool.and_eq_true] at f;rcases AAI.mp c with rfl|c
  ·rw[MF r f.1];exact Zm r e f.1 g
  ·exact ED e g t f.2 h c
noncomputable def inV(x:V)(xs:List V):Bool:=xs.any λy=>eqV y x
noncomputable def rIn(K:PySem.W.Frag)(d:Bool):R2:=λx y H Q=>∃p c,y=.ref p/\(SqL K H p c∨SqT K H p c)/\De x=true/\c.all De=true/\Q (.bl (if d then !inV x c else inV x c)) H
theorem Q2:OpR X (compareOp .In) (rIn X.K false):=by
 intro m s O H x y v u Q I i k h;obtain⟨p,n,rfl,d,j,e,q⟩:=h;cases k;rcases d with d|d
 ·obtain⟨c,r,f,l⟩:=I.list d;refine SeqAt.in_listAt (eqU x) f.isList (λw g=>ED i j r e w (by simpa using g)) ⟨.bl _,H,I,rfl,?_⟩;rw[show c.toArray.any (eqU x)=c.any (eqU x) by simp,HM r e];exact q
 ·obtain⟨c,r,f,l⟩:=I.tuple d;refine SeqAt.in_tupleAt (eqU x) f (λw g=>ED i j r e w (by simpa using g)) ⟨.bl _,H,I,rfl,?_⟩;rw[show c.toArray.any (eqU x)=c.any (eqU x) by simp,HM r e];exact q
theorem Lx:OpR X (compareOp .NotIn) (rIn X.K true):=by
 intro m s O H x y v u Q I i k h;obtain⟨p,n,rfl,d,j,e,q⟩:=h;cases k;rcases d with d|d
 ·obtain⟨c,r,f,l⟩:=I.list d;refine SeqAt.notIn_listAt (eqU x) f.isList (λw g=>ED i j r e w (by simpa using g)) ⟨.bl _,H,I,rfl,?_⟩;rw[show c.toArray.any (eqU x)=c.any (eqU x) by simp,HM r e];exact q
 ·obtain⟨c,r,f,l⟩:=I.tuple d;refine SeqAt.notIn_tupleAt (eqU x) f (λw g=>ED i j r e w (by simpa using g)) ⟨.bl _,H,I,rfl,?_⟩;rw[show c.toArray.any (eqU x)=c.any (eqU x) by simp,HM r e];exact q
theorem MH:B7 X (.type "list") (λxs H Q=>∃p ys,xs=[.ref p]/\(SqL X.K H p ys∨SqT X.K H p ys)/\∀l,H l=none->Q (.ref l) (upd H l (.lst ys))):=by
 intro y s O H xs B Q I r h;obtain⟨p,ys,rfl,f,q⟩:=h;obtain⟨u,rfl,z⟩:=Ea r;cases z;have g:∀c,_->_->∀k x,_->
   _->EP X y O Q _ { s with heap:=k }:=λc d i k x A e=>
  ⟨.ref _,_,I.laid A (AAE _) (show ObjOk _ X.w _ k _ (.lst ys) from ⟨i,c,x,d,e⟩),rfl,q _ (I.hok.fresh (AAE _))⟩
 rcases f with f|f
 ·obtain⟨c,d,m,i⟩:=I.list f;have j:=d.length;obtain⟨o,t,v,n,w⟩:=m.isList;exact call_list_seq p (.inl rfl) t v w (g c d i) (by simp<;>lia)
 ·obtain⟨c,d,m,i⟩:=I.tuple f;have j:=d.length;obtain⟨o,t,v,n,w⟩:=m;exact call_list_seq p (.inr rfl) t v w (g c d i) (by simp only[List.size_toArray]<;>lia)
def tyV(K:PySem.W.Frag)(T:String)(x:V)(H:Hp):Prop:=match x with
 | .str _=>T = "str"
 | .int _=>T = "int"
 | .ref p=>(T = "list" /\ ∃d,SqL K H p d)∨(T = "tuple" /\ ∃o,K.lookup p=some o/\o.cls=.type "tuple" /\ o.dict=none) ∨
   (T = "dict" /\ ((∃c,H p=some (.dK c))∨∃c,H p=some (.dT c)))∨(T = "set" /\ ∃S n,H p=some (.set S n))
 |_=>False
theorem SR(I:Inv X y O H s)(r:RelV x v)(g:tyV X.K T x H):
  s.TypeIs v T/\∀a,v=.ref a->∃l,s.heap.get? a=some l/\l.dict=none:=by
 cases x with
 |str z=>
  obtain⟨t,rfl⟩:=r;cases (g);exact⟨typeIs_str s z t,λ_ e=>nomatch e⟩
 |int i=>
  obtain⟨t,rfl⟩:=r;cases (g);exact⟨typeIs_int s i t,λ_ e=>nomatch e⟩
 |ref p=>
  cases r;rcases g with ⟨rfl,A,q⟩|⟨rfl,o,d,u,h⟩|⟨rfl,d⟩|⟨rfl,S,n,d⟩
  ·obtain⟨w,_,m,_⟩:=I.list q;refine⟨m.isList.typeIs,λa e=>?_⟩;cases e;obtain⟨o,n,e,c,h,_⟩:=m;exact⟨o,e,h⟩
  ·refine⟨⟨o,I.kIn p o d,u⟩,λa e=>?_⟩;cases e;exact⟨o,I.kIn _ o d,h⟩
  ·have z:∃o,s.heap.get? p=some o/\o.ExactDict:=by
    rcases d with ⟨j,d⟩|⟨j,d⟩
    ·obtain⟨_,_,_,_,o,_,_,e,ex,_⟩:=I.hok p _ d;exact⟨o,e,ex⟩
    ·obtain⟨_,_,_,_,o,_,_,e,ex,_⟩:=I.hok p _ d;exact⟨o,e,ex⟩
   obtain⟨o,e,ex⟩:=z;refine⟨⟨o,e,ex.1⟩,λa k=>?_⟩;cases k;exact⟨o,e,ex.2.1⟩
  ·obtain⟨o,_,_,_,e,ex,_⟩:=I.hok p _ d;refine⟨⟨o,e,ex.1⟩,λa k=>?_⟩;cases k;exact⟨o,e,ex.2.1⟩
 |_=>exact False.elim g
noncomputable def aO(K:PySem.W.Frag)(T:String)(r:V->List V->Hp->VK->Prop)(d:TE):TE:=λO H Q=>d O H λx c=>tyV K T x c/\r x [] c Q
noncomputable def tBM(K:PySem.W.Frag)(T:String)(r:V->List V->Hp->VK->Prop)(d:TE)(t:TA):TE:=λO H Q=>d O H λx c=>tyV K T x c/\t O c λe f=>r x e f Q
variable{o e:Expr}{es:List Expr}{to:TE}{t:TA}{name:Str}{apos cpos:Pos}{T id:String}{r:V->List V->Hp->VK->Prop}
theorem Y0(l:PlainAttrs T)(f:Slot T name id)(g:typeOf (.builtin id)=pure (.type "method_descriptor"))(m:MtR X id r)(n:PE X o to)
  (c:attributeBase o name X.env (eval o X.env)=eval o X.env:=by rfl) (d:(apos.endLine==cpos.line)=true:=by rfl):PE X (.Call (.Attribute o name apos) [] [] cpos) (aO X.K T r to):=by
 intro i s O H Q I h;refine wpAny_Call_method0_late c d (thn (n i s O H _ I h) λv p ⟨x,q,j,k,u,w⟩=>?_);obtain⟨y,z⟩:=SR j k u;exact⟨T,id,l,f,g,y,z,Calls.callWith_builtin rfl (PySem.evalArgs_none (m i p O q x [] v [] Q j k .nil w))⟩
theorem aw(p:PlainAttrs T)(f:Slot T name id)(j:typeOf (.builtin id)=pure (.type "method_descriptor"))(q:MtR X id r)(u:PE X o to)(w:PA X (e::es) t)
  (c:attributeBase o name X.env (eval o X.env)=eval o X.env:=by rfl)
  (g:((backTo cpos (starEach (e::es) X.env)).all (λx=>!x.1)&&(backToKw cpos (keywordEach [] X.env)).all (λx=>x.1.isSome)
   && decide ((e::es).length+([]:List Keyword).length+(if ([]:List Keyword).isEmpty then 0 else 1)<30))=true:=by rfl)
  (d:(apos.endLine==cpos.line)=true:=by rfl) (y:starEach (e::es) X.env=(false,eval e X.env)::starEach es X.env:=by rfl) (i:(backTo cpos (starEach es X.env)).any (·.1)=false:=by rfl) :
  PE X (.Call (.Attribute o name apos) (e::es) [] cpos) (tBM X.K T r to t):=by
 intro k s O H Q I h;refine wpAny_Call_method_late c g d rfl (thn (u k s O H _ I h) λv z ⟨x,A,l,m,B,C⟩=>?_);obtain⟨D,E⟩:=SR l m B;refine⟨T,id,p,f,j,D,E,?_⟩;have n:=w cpos k z O A _ l C;rw[y] at n ⊢;exact Calls.callWith_builtin (by trivial) (Calls.evalArgs_plain (thn n λF G ⟨J,L,M,N,P⟩=>q k G O L x J v F Q M m N P))
end
def MtM(X:Cx)(id:String)(r:V->List V->Hp->VK->Prop):Prop:=
 ∀(a:List (Addr×Obj)) (s:Shared) (O:St) (H:Hp) (x:V) (b:List V) (v:Value) (c:List Value) (Q:VK),Inv X a O H s->RelV x v->Vals b c->r x b H Q->
  wpAny (model X.prog X.w) X.A (call (.builtin id) (v::c)) (EP X a O Q) X.xe s
theorem Vals.one:∀{x:V} {a:List Value},Vals [x] a->∃u,a=[u]/\RelV x u
 |_,_,.cons r .nil=>⟨_,rfl,r⟩
theorem Vals.two:∀{x y:V} {a:List Value},Vals [x,y] a->∃u v,a=[u,v]/\RelV x u/\RelV y v
 |_,_,_,.cons r (.cons q .nil)=>⟨_,_,rfl,r,q⟩
theorem Vals.zero:∀{a:List Value},Vals [] a->a=[]
 |_,.nil=>rfl
theorem Vals.dropLast(h:Vals xs a):Vals xs.dropLast a.dropLast:=by
 induction h with
 |nil=>exact .nil
 |cons r t b=>
  cases t with
  |nil=>exact .nil
  |cons q c=>exact .cons r b
theorem Vals.eraseIdx:∀{xs:List V} {a:List Value} (i:Nat),Vals xs a->Vals (xs.eraseIdx i) (a.eraseIdx i)
 |_,_,_,.nil=>.nil
 |_,_,0,.cons _ t=>t
 |_,_,i+1,.cons r t=>.cons r (Vals.eraseIdx i t)
theorem Vals.rep(h:Vals xs a):∀k:Nat,Vals (List.replicate k xs).flatten (List.replicate k a).flatten
 |0=>.nil
 |k+1=>Vals.append h (Vals.rep h k)
theorem Ky:∀(l:List α) (i:Nat),(l.eraseIdx i).length<=l.length
 |[],_=>AAE _
 |_::_,0=>Nat.le_succ _
 |_::r,i+1=>Nat.succ_le_succ (Ky r i)
theorem LC(a:List Value):∀(k:Nat) (b:List Value),
  List.foldl (λc d=>c++d) b.toArray (List.replicate k a.toArray)=(b++(List.replicate k a).flatten).toArray
 |0,b=>by simp
 |k+1,b=>by
  have e:b.toArray++a.toArray=(b++a).toArray:=by simp
  have f:b++a++(List.replicate k a).flatten=b++(List.replicate (k+1) a).flatten:=by
   rw[AAj,List.flatten_cons,AAk]
  rw[←f,←LC a k (b++a),←e,AAj,List.foldl_cons]
section
variable{X:Cx}{w4:List (Addr×Obj)}{O:St}{H:Hp}{s:Shared}{l:Addr}{xs ys:List V}
theorem Inv.lset{b a:List Value}{n:Nat}{f:Array Value->Array Value}{t':Nat}(I:Inv X w4 O H s)(c:H l=some (.lst xs))
  (e:s.heap.get? l=some { cls:=.type "list",data:=.seq b.toArray n }) (d:f b.toArray=a.toArray) (g:Vals ys a) (h:ys.length<=sizeLine) :
  Inv X w4 O (upd H l (.lst ys)) { s with heap:=s.heap.update l (Obj.mapSeq f),toks:=t' }:=by
 have q:=PySem.IsL.update e f;rw[d] at q;refine I.write (by rw[c];exact trivial) (.inl rfl) (λj u i=>(Heap.get?_update_other s.heap _ (Ne.symm i)).trans) ⟨_,q⟩ ?_;exact⟨h,a,_,g,q⟩
theorem Inv.lnew(I:Inv X w4 O H s)(b:Vals ys a)(c:ys.length<=sizeLine):
  Inv X w4 O (upd H s.heap.objs.size (.lst ys)) { s with heap:=s.heap.push { cls:=.type "list",data:=.seq a.toArray },toks:=t' }:=
 I.laid (λ_ _=>AAC _) (AAE _) ⟨c,a,0,b,AAD _ rfl⟩
theorem Inv.fresh(I:Inv X w4 O H s):H s.heap.objs.size=none:=I.hok.fresh (AAE _)
theorem Inv.lstM(I:Inv X w4 O H s)(b:H l=some (.lst xs)):xs.length<=sizeLine/\∃(a:List Value) (n:Nat),Vals xs a/\xs.length=a.length/\s.heap.get? l=some { cls:=.type "list",data:=.seq a.toArray n }:=by
 obtain⟨z,a,n,r,e⟩:=I.hok l _ b;exact⟨z,a,n,r,r.length,e⟩
theorem Tq(h:n<=sizeLine):Builtin.List.listTooLong n=false:=AAN (by lia)
end
section
variable{X:Cx}
noncomputable def V9:V->List V->Hp->VK->Prop:=λx b H Q=>∃l a y,x=.ref l/\b=[y]/\H l=some (.lst a)/\a.length<sizeLine/\Q .non (upd H l (.lst (a++[y])))
theorem Q8:MtM X "list.append" V9:=by
 intro g s O H x i v j Q I b c h;obtain⟨l,k,y,rfl,rfl,a,m,q⟩:=h;cases b;obtain⟨u,rfl,d⟩:=c.one;obtain⟨z,f,n,r,o,e⟩:=I.lstM a;refine call_meets F.slot_list_append ⟨_,e,rfl⟩ F.entry_list_append (F.args_list_append_2 _ _) (PySem.list_append l _ n u (by grind)) ⟨e,.non,_,I.lset a e (by simp) (r.append (.cons d .nil)) ?_,rfl,q⟩;rw[AAG,List.length_singleton];lia
noncomputable def cS:V->List V->Hp->VK->Prop:=λx b H Q=>∃l a y,x=.ref l/\b=[]/\H l=some (.lst a)/\a[a.length-1]?=some y/\Q y (upd H l (.lst a.dropLast))
theorem ZH:MtM X "list.pop" cS:=by
 intro o s O H x p v t Q I f g h;obtain⟨l,w,y,rfl,rfl,d,i,q⟩:=h;cases f;have b:=g.zero;subst b;obtain⟨z,a,n,r,j,e⟩:=I.lstM d;obtain⟨u,k,m⟩:=r.get i;have c  := by
  show a.toArray[a.length-1]?=some u;rw[←Array.getElem?_toList,←j];exact k
 refine call_meets F.slot_list_pop ⟨_,e,rfl⟩ F.entry_list_pop (F.args_list_pop_1 _) (MeetsSeq.list_pop_last l _ n u c (by rw[List.size_toArray];lia)) ⟨e,y,_,I.lset d e ?_ r.dropLast ?_,m,q⟩
 ·simp
 ·rw[List.length_dropLast];lia
noncomputable def cV:R2:=λx y H Q=>∃l b a c,x=.ref l/\y=.ref b/\H l=some (.lst a)/\H b=some (.lst c)/\a.length+c.length<=sizeLine/\∀p,H p=none->Q (.ref p) (upd H p (.lst (a++c)))
theorem ZE:OpR X (binaryOp .Add) cV:=by
 intro p s O H x y v u Q I d f h;obtain⟨l,b,t,w,rfl,rfl,g,i,A,q⟩:=h;cases d;cases f;obtain⟨z,c,n,r,B,e⟩:=I.lstM g;obtain⟨C,a,D,j,k,m⟩:=I.lstM i;refine PySem.P.add_list e m ?_ (by rw[List.size_toArray,List.size_toArray];lia);have o:c.toArray++a.toArray=(c++a).toArray:=by simp
 rw[o];exact⟨.ref _,_,I.lnew (r.append j) (by rw[AAG];lia),rfl,q _ I.fresh⟩
noncomputable def cR:R2:=λx y H Q=>∃l k a,x=.ref l/\y=.int k/\H l=some (.lst a)/\-(2 ^ 63)<=k/\k<2 ^ 63/\a.length * k.toNat<=sizeLine /\
 ∀p,H p=none->Q (.ref p) (upd H p (.lst (List.replicate k.toNat a).flatten))
theorem P0(xs:List α)(k:Nat):(List.replicate k xs).flatten.length=k * xs.length:=by
 simp_all
theorem Y7:OpR X (binaryOp .Mult) cR:=by
 intro J s O H x y v u Q I j o h;obtain⟨l,k,L,rfl,rfl,p,w,A,B,q⟩:=h;cases j;obtain⟨t,rfl⟩:=o;obtain⟨z,b,n,r,M,e⟩:=I.lstM p;have d:b.toArray.size * k.toNat<=sizeLine:=by simp_all
 have f:¬b.toArray.size * k.toNat > (2 ^ 63-1) / 8:=by
  have:sizeLine<=(2 ^ 63-1) / 8:=by decide
  lia
 have g:¬(!Builtin.List.listFitsIndex k)=true:=by
  rw[fitsIndex_both w A];exact AAf
 have c:¬Builtin.List.listTooLong (b.toArray.size * k.toNat)=true:=by
  rw[Tq d]
  simp_all
 have i:List.foldl (λC D=>C++D) #[] (List.replicate (if b.toArray.isEmpty=true then 0 else k.toNat) b.toArray)=(List.replicate k.toNat b).flatten.toArray:=by
  have E  := λm=>by
   have:=LC b m [];rw[List.nil_append] at this;exact this
  rw[E];cases b with
  |nil=>simp
  |cons a N=>simp_all
 refine wpAny_binaryOp_repeat_ref (by decide) ⟨_,e,rfl⟩ (λG=>typeIs_int G k t) noFill_list_mul F.fills_int_mul F.slot_int_rmul repeat_list F.slot_int_index.lookup
  (call_meets F.slot_int_rmul (typeIs_int s k t) F.entry_int_rmul (F.args_int_rmul_2 _ _) (int___rmul___int_list k t l _ n)
   ⟨e,rfl,⟨_,e,rfl⟩,call_meets F.slot_list_mul ⟨_,e,rfl⟩ F.entry_list_mul (F.args_list_mul_2 _ _) (AutoListH.list___mul___list_int_3 l _ n k t g f c) ⟨e,?_⟩⟩)
 rw[i];exact⟨.ref _,_,I.lnew (r.rep _) (by rw[P0,Nat.mul_comm];exact B),rfl,q _ I.fresh⟩
end
section
variable{κ:Type}[DecidableEq κ]
noncomputable def FS(a:List (κ×V))(k:κ):Option V:=(a.find? λkv=>decide (kv.1=k)).map (·.2)
noncomputable def Ha(a:List (κ×V))(k:κ)(v:V):List (κ×V):=
 if (a.any λkv=>decide (kv.1=k))=true then a.map (λkv=>if kv.1=k then (kv.1,v) else kv) else a++[(k,v)]
noncomputable def Jx(a:List (κ×V))(k:κ):List (κ×V):=a.filter λkv=>decide (kv.1≠k)
theorem Iy{p:κ×V}{r:List (κ×V)}{k:κ}(e:p.1=k):FS (p::r) k=some p.2:=by simp[FS,e]
theorem Iz{p:κ×V}{r:List (κ×V)}{k:κ}(e:¬p.1=k):FS (p::r) k=FS r k:=by simp[FS,e]
theorem Md(k:κ):∀a:List (κ×V),(a.any λkv=>decide (kv.1=k))=(FS a k).isSome
 |[]=>rfl
 |p::r=>by
  rw[List.any_cons];by_cases e:p.1=k
  ·simp[Iy e,AAO e]
  ·rw[Iz e,AAN e];exact Md k r
theorem IG(a:List (κ×V))(k:κ)(v:V):(Ha a k v).length<=a.length+1:=by
 unfold Ha
 grind
theorem RelO.isSome_eq(r:RelO o u):o.isSome=u.isSome:=by
 cases o with
 |none=>cases u with
  |none=>rfl
  |some _=>exact(r).elim
 |some _=>cases u with
  |none=>exact(r).elim
  |some _=>rfl
theorem KV.val{a:List (κ×V)}{f:List (κ×Value)}(r:KV a f)(k:κ):RelO (FS a k) (valueAt f k):=by
 induction r with
 |nil=>trivial
 |@cons p q l c h t i=>
  obtain⟨g,j⟩:=h;by_cases e:p.1=k
  ·have d  := g.symm.trans e;have b:valueAt (q::c) k=some q.2:=by simp[valueAt,d]
   rw[Iy e,b];exact j
  ·have d:¬q.1=k:=λz=>e (g.trans z);have b:valueAt (q::c) k=valueAt c k:=by simp[valueAt,d]
   rw[Iz e,b];exact i
theorem KV.any(r:KV a b)(k:κ):(a.any λkv=>decide (kv.1=k))=b.any λkv=>decide (kv.1=k):=by
 induction r with
 |nil=>rfl
 |cons h t d=>simp_all
theorem KV.repl(r:KV b d)(k:κ)(f:RelV y u):
  KV (b.map λkv=>if kv.1=k then (kv.1,y) else kv) (d.map λkv=>if kv.1=k then (kv.1,u) else kv):=by
 induction r with
 |nil=>exact .nil
 |@cons p q j l h t g=>
  rw[AAW,AAW];refine .cons ?_ g;obtain⟨a,i⟩:=h;by_cases e:p.1=k
  ·rw[if_pos e,if_pos (a.symm.trans e)];exact⟨a,f⟩
  ·rw[if_neg e,if_neg (λz=>e (a.trans z))];exact⟨a,i⟩
theorem KV.put(r:KV a b)(k:κ)(c:RelV y u):KV (Ha a k y) (stored b k u):=by
 unfold Ha stored;rw[r.any k];by_cases e:(b.any λkv=>decide (kv.1=k))=true
 ·rw[if_pos e,if_pos e];exact r.repl k c
 ·rw[if_neg e,if_neg e];exact Paired.snoc r ⟨rfl,c⟩
theorem KV.drop(r:KV c g)(k:κ):KV (Jx c k) (without g k):=by
 unfold Jx without
 induction r with
 |nil=>exact .nil
 |@cons p q l m h t d=>
  obtain⟨f,i⟩:=h;rw[List.filter_cons,List.filter_cons];by_cases e:p.1=k
  ·have a:¬decide (p.1≠k)=true:=by simp[e]
   have b:¬decide (q.1≠k)=true:=by simp_all
   rw[if_neg a,if_neg b];exact d
  ·have j:¬q.1=k:=λz=>e (f.trans z);have a:decide (p.1≠k)=true:=by simp[e]
   have b:decide (q.1≠k)=true:=by simp[j]
   rw[if_pos a,if_pos b];exact .cons ⟨f,i⟩ d
theorem KV.length(r:KV a b):a.length=b.length:=Paired.length r
theorem Ua(a:List (κ×V))(k:κ):(Jx a k).length<=a.length:=List.length_filter_le _ _
end
theorem NN(r:RelV (kV k) u):(CZ P w).is k u=true:=by
 cases k with
 |inl i=>obtain⟨t,e⟩:=r;subst e;exact NG P w i t
 |inr x=>obtain⟨t,e⟩:=(r);subst e;exact NF P w x t
theorem K8:∀{ks:List Key} {a:List Value},Vals (ks.map kV) a->ItemsAre (CZ P w) ks a
 |[],_,r=>by cases r;exact .nil
 |k::ks,_,r=>by
  cases r with
  |cons h t=>exact .cons (NN h) (K8 t)
noncomputable abbrev KT(H:Hp):List (List Key×V)->List (List Key×Addr×Value)->Prop:=Paired λp q=>p.1=q.1/\H q.2.1=some (.tup (p.1.map kV))/\RelV p.2 q.2.2
theorem KT.val{H:Hp}{a:List (List Key×V)}{xs:List (List Key×Addr×Value)}(r:KT H a xs)(k:List Key):RelO (FS a k) ((atKey xs k).map (·.2)):=by
 induction r with
 |nil=>exact True.intro
 |@cons p q j c h t g=>
  obtain⟨f,_,i⟩:=h;by_cases e:p.1=k
  ·have d  := f.symm.trans e;have b:atKey (q::c) k=some q.2:=by simp[atKey,d]
   rw[Iy e,b];exact i
  ·have d:¬q.1=k:=λz=>e (f.trans z);have b:atKey (q::c) k=atKey c k:=by simp[atKey,d]
   rw[Iz e,b];exact g
theorem KT.repl(r:KT H b xs)(k:List Key)(d:RelV y u):
  KT H (b.map λkv=>if kv.1=k then (kv.1,y) else kv) (xs.map (putAt k u)):=by
 induction r with
 |nil=>exact .nil
 |@cons p q j l h t g=>
  rw[AAW];refine .cons ?_ g;obtain⟨a,c,i⟩:=h;unfold putAt;by_cases e:p.1=k
  ·rw[if_pos e,if_pos (a.symm.trans e)];exact⟨a,c,d⟩
  ·rw[if_neg e,if_neg (λz=>e (a.trans z))];exact⟨a,c,i⟩
theorem KT.put(r:KT H a xs)(k:List Key)(d:H b=some (.tup (k.map kV)))(c:RelV y u):
  KT H (Ha a k y) (storedH xs k b u):=by
 have e:(a.any λkv=>decide (kv.1=k))=(atKey xs k).isSome:=by
  rw[Md,(r.val k).isSome_eq,Option.isSome_map]
 unfold Ha storedH;rw[e];by_cases q:(atKey xs k).isSome=true
 ·rw[if_pos q,if_pos q];exact r.repl k c
 ·rw[if_neg q,if_neg q];exact Paired.snoc r ⟨rfl,d,c⟩
theorem KT.keeps(r:KT H a xs)(c:∀b ys,H b=some (.tup ys)->H' b=some (.tup ys)):KT H' a xs:=
 Paired.mapP r λ_ _ z=>⟨z.1,c _ _ z.2.1,z.2.2⟩
section
variable{P:Program}{w:World}{H:Hp}{h:Heap}{a:Addr}
theorem XW(b:HOk P w H h)(e:Rd H a u):ObjOk P w H h a u:=e.ok b
theorem NY(d:HOk P w H h)(e:Rd H a (.dK b)):b.length<=sizeLine/\(a==sysModules)=false/\∃c,KV b c/\h.DictOf (CZ P w) a c:=
 XW d e
theorem Xx(d:HOk P w H h)(e:H a=some (.dK b)):b.length<=sizeLine/\(a==sysModules)=false/\∃c,KV b c/\h.DictOf (CZ P w) a c:=NY d (.inl e)
theorem L8(c:HOk P w H h)(e:H a=some (.tup (ks.map kV))):(tupleKind (CZ P w)).is h ks a:=by
 obtain⟨_,b,r,o,d,f,n,g⟩:=c a _ e;exact⟨o,b.toArray,n,d,f,g,by simpa using K8 r⟩
theorem NX(f:HOk P w H h)(e:Rd H a (.dT b)):b.length<=sizeLine/\(a==sysModules)=false /\
  ∃xs,KT H b xs/\h.DictOfH (tupleKind (CZ P w)) a xs:=by
 obtain⟨z,y,xs,r,o,g,i,j,k,n,s,u⟩:=XW f e;refine⟨z,y,xs,r,o,g,i,j,k,n,s,λx c=>?_,u⟩;have d:∀{l:_} {m:_},KT H l m->∀x∈m,(tupleKind (CZ P w)).is h x.1 x.2.1:=by
  intro l m q
  induction q with
  |nil=>simp_all
  |@cons p q A B hq t v=>
   intro x c;rcases AAI.mp c with e|c
   ·subst e;exact L8 f (by rw[←hq.1];exact hq.2.1)
   ·exact v x c
 exact d r x c
theorem bZ(c:HOk P w H h)(e:H a=some (.dT b)):b.length<=sizeLine/\(a==sysModules)=false /\
  ∃xs,KT H b xs/\h.DictOfH (tupleKind (CZ P w)) a xs:=NX c (.inl e)
end
def DGet(H:Hp)(a:Addr)(y:V)(r:Option V):Prop:=
 (∃c k,Rd H a (.dK c)/\y=kV k/\r=FS c k)∨∃c k b,Rd H a (.dT c)/\y=.ref b/\H b=some (.tup (k.map kV))/\r=FS c k
def DPut(H:Hp)(a:Addr)(y v:V)(H':Hp):Prop:=
 (∃c k,H a=some (.dK c)/\y=kV k/\c.length<sizeLine/\H'=upd H a (.dK (Ha c k v))) ∨
 ∃c k b,H a=some (.dT c)/\y=.ref b/\H b=some (.tup (k.map kV))/\c.length<sizeLine/\H'=upd H a (.dT (Ha c k v))
theorem DGet.k{H:Hp}{a:Addr}{b:List (Key×V)}{k:Key}(e:H a=some (.dK b)):DGet H a (kV k) (FS b k):=.inl ⟨b,k,.inl e,rfl,rfl⟩
theorem DPut.k{H:Hp}{a:Addr}{b:List (Key×V)}{k:Key}{v:V}(e:H a=some (.dK b))(c:b.length<sizeLine):DPut H a (kV k) v (upd H a (.dK (Ha b k v))):=.inl ⟨b,k,e,rfl,c,rfl⟩
section
variable{X:Cx}{w4:List (Addr×Obj)}{O:St}{H:Hp}{s:Shared}{a:Addr}{y v:V}{u r:Value}{o:Option V}{A:Around}{E:Value->Shared->Prop}
theorem Inv.big(I:Inv X w4 O H s):sysModules<s.heap.objs.size:=by
 have h  := (I.mod.glob.keeps I.bk).lt;exact Nat.lt_trans (by decide) h
theorem Rc(x:A.units+1<cLine)(I:Inv X w4 O H s)(g:DGet H a y (some v))(t:RelV y u)(h:∀f w,Inv X w4 O H w->RelV v f->Q f w):
  wpAny (model X.prog X.w) A (getItem (.ref a) u) Q E s:=by
 rcases g with ⟨i,k,e,j,l⟩|⟨i,k,b,e,j,B,l⟩
 ·subst j;obtain⟨z,C,F,c,m⟩:=NY I.hok e;obtain⟨f,n,d⟩:=RelO.some_of (by rw[l];exact c.val k);exact wpAny_getItem_of (NN t) m.mapOf n (h f _ (I.tok _) d)
 ·subst j;cases (t);obtain⟨z,C,G,c,m⟩:=NX I.hok e;obtain⟨f,n,d⟩:=RelO.some_of (v:=v) (by rw[l];exact c.val k);obtain⟨p,D,q⟩:=Option.map_eq_some_iff.mp n;refine wpAny_getItem_heap (tupleKind_room_in1 x) (L8 I.hok B) m D ?_;rw[q];exact h f _ (I.tok _) d
theorem cr(p:A.units+1<cLine)(I:Inv X w4 O H s)(g:DGet H a y o)(m:RelV y u)(h:∀n,Inv X w4 O H n->Q (.bool o.isSome) n):
  wpAny (model X.prog X.w) A (compareOp .In u (.ref a)) Q E s:=by
 rcases g with ⟨d,k,e,f,l⟩|⟨d,k,b,e,f,t,l⟩
 ·subst f;obtain⟨z,i,w,c,j⟩:=NY I.hok e;refine wpAny_in_of (NN m) i j.mapOf ?_;rw[←(c.val k).isSome_eq,←l];exact h _ (I.tok _)
 ·subst f;cases m;obtain⟨z,i,x,c,j⟩:=NX I.hok e;refine wpAny_in_heap (tupleKind_room_in1 p) (L8 I.hok t) i j ?_;have q:=(c.val k).isSome_eq;rw[Option.isSome_map] at q;rw[←q,←l];exact h _ (I.tok _)
theorem HG(I:Inv X w4 O H s)(f:Mut (H a))(hs:Heap.SameBut a s.heap c)(g:∃q,c.get? a=some q)(d:ObjOk X.prog X.w (upd H a e) c a e):
  Inv X w4 O (upd H a e) { s with heap:=c,toks:=t' }:=
 I.write f (.inl rfl) (λb q h=>(hs.2 b h).trans) g d
theorem Ub(z:b.length<=sizeLine)(e:(a==sysModules)=false)(c:KV b d)(f:g.DictOf (CZ P w) a d):
  ObjOk P w H' g a (.dK b):=⟨z,e,d,c,f⟩
theorem Rb(L:A.units+1<cLine)(I:Inv X w4 O H s)(g:DPut H a y v H')(B:RelV y u)(C:RelV v r)(h:∀D,Inv X w4 O H' D->Q () D):
  wpAny (model X.prog X.w) A (setItem (.ref a) u r) Q E s:=by
 rcases g with ⟨d,k,e,m,l,n⟩|⟨d,k,b,e,m,F,l,n⟩
 ·subst m n;obtain⟨z,p,M,f,t⟩:=Xx I.hok e;have N:M.length<=sizeLine:=by rw[←f.length];exact z
  have w:(Ha d k v).length<=sizeLine:=by have:=IG d k v;lia
  refine wpAny_setItem_pairs (NN B) t λG i x=>h _ ?_;have P:∃q,G.get? a=some q:=let ⟨q,_,_,j,_⟩:=i;⟨q,j⟩
  exact HG I (by rw[e];exact True.intro) x P (Ub w p (f.put k C) i)
 ·subst m n;cases (B);obtain⟨z,p,R,f,t⟩:=bZ I.hok e;have N:R.length<=sizeLine:=by rw[←Paired.length f];exact z
  have w:(Ha d k v).length<=sizeLine:=by have:=IG d k v;lia
  refine wpAny_setItem_heap (tupleKind_room_in1 L) (L8 I.hok F) t λG i x=>h _ ?_;obtain⟨q,S,T,j,U,W,Y,_,Z⟩:=i;refine HG I (by rw[e];exact True.intro) x ⟨q,j⟩ ⟨w,p,_,(f.put k F C).keeps λc ys J=>?_,q,S,T,j,U,W,Y,Z⟩;rw[upd_ne (bG J e (λz=>nomatch z))];exact J
end
section
variable{X:Cx}{w4:List (Addr×Obj)}{O:St}{H:Hp}{s:Shared}{a:Addr}{kvs:List (Key×V)}{k:Key}{u:Value}{A:Around}{E:Value->Shared->Prop}
theorem bd(I:Inv X w4 O H s)(e:H a=some (.dK kvs))(g:RelV (kV k) u)(l:FS kvs k=some v)(m:b=[]∨∃x,b=[x])
  (h:∀d n,Inv X w4 O (upd H a (.dK (Jx kvs k))) n->RelV v d->Q d n):wpAny (model X.prog X.w) A (call (.builtin "dict.pop") (.ref a::u::b)) Q E s:=by
 obtain⟨z,p,r,c,o⟩:=Xx I.hok e;obtain⟨d,w,j⟩:=RelO.some_of (by rw[←l];exact c.val k);have y:(keyPart u).isSome=true:=by
  cases k with
  |inl i=>obtain⟨t,q⟩:=g;subst q;rfl
  |inr x=>obtain⟨t,q⟩:=(g);subst q;rfl
 have B:argsOk "dict.pop" ⟨.ref a::u::b,[]⟩:=by
  rcases m with q|⟨x,q⟩
  ·subst q;exact PySem.F.args_dict_pop_2 _ _
  ·subst q;exact PySem.F.args_dict_pop_3 _ _ _
 refine call_meetsIn PySem.F.slot_dict_pop o.typeIs PySem.F.entry_dict_pop B (meets_dict_pop_there (_) a (NN g) b m y)
  ⟨r,d,o,by rw[←c.length];exact z,w,λC f D=>h d _ ?_ j⟩
 have F:∃q,C.get? a=some q:=let ⟨q,_,_,G,_⟩:=f;⟨q,G⟩
 exact HG I (by rw[e];exact True.intro) D F (Ub (AAq (Ua kvs k) z) p (c.drop k) f)
end
def XE(i:Expr):Prop:=∀a b,subscripted i false a b=operate [a,b] (getItem a b)
theorem Pc{prog:Program}{w:World}{A:Around}{E:Value->Shared->Prop}{s:Shared}{env:Env}{b a:Expr}{pos:Pos}{T id:String}{Q:Value->Shared->Prop}
  (l:typeLookup (.type T) "__getitem__" = pure (some (.builtin id))) (m:XE a)
  (h:wpAny (model prog w) A (eval b env) (λo e=>wpAny (model prog w) A (eval a env) (λi c=>c.TypeIs o T/\wpAny (model prog w) A (getItem o i) Q E c) E e) E s) :
  wpAny (model prog w) A (eval (.Subscript b a pos) env) Q E s:=by
 refine Subscript_ (AAh h (λo e f=>AAh f (λi c d=>?_) λ_ _ x=>x) λ_ _ x=>x);obtain⟨n,d⟩:=d;refine AAA (AAA (wpAny_specialOf n l ?_));have j:wpAny (model prog w) A (subscripted a false o i) (λr=>wpAny (model prog w) A (letTemporaryGo b o r >>= λ_=>pure r) Q E) E c:=by
  rw[m o i];exact wpAny_operating (AAh d (λr k g=>AAA (wpAny_letTemporaryGo (AAB g))) λ_ _ x=>x)
 first
  |exact AAB (AAA j)
  |grind
  |grind
theorem NZ(I:Inv X f O H s)(g:DGet H a y o):s.TypeIs (.ref a) "dict" := by
 rcases g with ⟨c,k,e,_,_⟩|⟨c,k,b,e,_,_,_⟩
 ·obtain⟨_,_,h,_,d⟩:=NY I.hok e;exact d.typeIs
 ·obtain⟨_,_,i,_,d⟩:=NX I.hok e;exact d.typeIs
noncomputable def aK(c d:TE):TE:=λO H Q=>c O H λx e=>d O e λy b=>∃a v,x=.ref a/\DGet b a y (some v)/\Q v b
noncomputable def aJ(c d:TE):TE:=λO H Q=>c O H λy e=>d O e λx b=>∃a o,x=.ref a/\DGet b a y o/\Q (.bl o.isSome) b
noncomputable def aT(c d e:TE):TS:=λD O H=>e O H λv f=>c O f λx g=>d O g λy h=>∃a b,x=.ref a/\DPut h a y v b/\D.nx O b
section
variable{X:Cx}{o i value:Expr}{pos pos':Pos}{td ty tv:TE}
theorem WL(e:X.A.units+1<cLine)(f:PE X o td)(hi:PE X i ty)(j:XE i):PE X (.Subscript o i pos) (aK td ty):=by
 intro c s O H Q I h;refine Pc PySem.F.slot_dict_getitem.lookup j (thn (f c s O H _ I h) λu k ⟨x,l,m,n,p⟩=>thn (hi c k O l _ m p) λB C q=>?_);obtain⟨y,r,d,t,a,v,w,g,z⟩:=q;subst w;obtain rfl:_:=n;exact⟨NZ d g,Rc e d g t λD E A b=>⟨v,r,A,b,z⟩⟩
theorem Y4(c:X.A.units+1<cLine)(hi:PE X i ty)(d:PE X o td):PC X .In i o (aJ ty td):=by
 intro b s O H Q I h;refine thn (hi b s O H _ I h) λw e ⟨y,f,j,k,l⟩=>thn (d b e O f _ j l) λu z m=>?_;obtain⟨x,n,p,q,a,A,r,g,t⟩:=m;subst r;obtain rfl:_:=q;exact cr c p g k λB v=>⟨.bl _,n,v,rfl,t⟩
theorem WF(c:X.A.units+1<cLine)(d:PE X o td)(hi:PE X i ty)(e:PE X value tv)(f:swapsWith value (some (.Subscript o i pos')) pos.line X.env=pure false):
  PS X (.Assign [.Subscript o i pos'] value pos) (aT td ty tv):=by
 intro b s O H D I h;refine wpAny_Assign_Subscript (thn (e b s O H _ I h) λr j ⟨v,k,l,m,n⟩=>thn (d b j O k _ l n) λu p ⟨x,q,t,w,z⟩=>thn (hi b p O q _ t z) λL M A=>?_) f;obtain⟨y,N,B,C,a,E,F,g,G⟩:=A;subst F;obtain rfl:_:=w;exact Rb c B g C m λP J=>⟨O,E,J,G⟩
end
theorem Ud(h:Heap)(a:sysModules<h.objs.size):ObjOk P w H (h.push { cls:=.type "dict",data:=.dict #[] }) h.objs.size (.dK []):=
 ⟨AAi _,AAd.mpr (Ne.symm (AAc a)),[],.nil,Heap.DictOf.new h⟩
noncomputable def Yc:TE:=λ_ H Q=>∀p,H p=none->Q (.ref p) (upd H p (.dK []))
section
variable{X:Cx}{pos:Pos}
theorem TY:PE X (.Dict [] [] pos) Yc:=λa s O H Q I h=>
 wpAny_Dict_empty ⟨.ref _,_,I.laid (λ_ _=>AAC _) (AAE _) (Ud _ I.big),rfl,h _ (I.hok.fresh (AAE _))⟩
end
structure M1(X:Cx)(o:Expr)(m:Str)(apos:Pos)(e:Expr)(cpos:Pos):Prop where
 base:attributeBase o m X.env (eval o X.env)=eval o X.env
 few:((backTo cpos (starEach [e] X.env)).all (λx=>!x.1)&&(backToKw cpos (keywordEach [] X.env)).all (λx=>x.1.isSome)
  && decide (([e]:List Expr).length+([]:List Keyword).length+(if ([]:List Keyword).isEmpty then 0 else 1)<30))=true
 line:(apos.endLine==cpos.line)=true
 trees:backTo cpos (starEach [e] X.env)=[(false,eval e X.env)]
def IsD(H:Hp)(a:Addr):Prop:=(∃b,Rd H a (.dK b))∨∃b,Rd H a (.dT b)
theorem ZU(I:Inv X k O H s)(d:IsD H a):
  s.TypeIs (.ref a) "dict" /\ (∀b,Value.ref a=.ref b->∃c,s.heap.get? b=some c/\c.dict=none)/\(a==sysModules)=false:=by
 rcases d with ⟨g,e⟩|⟨g,e⟩
 ·obtain⟨_,h,l,_,f⟩:=NY I.hok e;refine⟨f.typeIs,λb q=>?_,h⟩;cases q;obtain⟨c,_,_,i,h2,_⟩:=f;exact⟨c,i,h2.2.1⟩
 ·obtain⟨_,h,m,_,f⟩:=NX I.hok e;refine⟨f.typeIs,λb q=>?_,h⟩;cases q;obtain⟨c,_,_,i,h2,_⟩:=f;exact⟨c,i,h2.2.1⟩
noncomputable def Yb(e f:TE):TE:=λO H Q=>e O H λx c=>∃a,x=.ref a/\IsD c a/\f O c λy d=>∃b k v,d a=some (.dK b)/\y=kV k/\FS b k=some v/\Q v (upd d a (.dK (Jx b k)))
section
variable{X:Cx}{o e:Expr}{apos cpos:Pos}{td ty:TE}
theorem TX(g:PE X o td)(i:PE X e ty)(m:M1 X o "pop" apos e cpos):PE X (.Call (.Attribute o "pop" apos) [e] [] cpos) (Yb td ty):=by
 intro c s O H Q I h;refine wpAny_Call_method m.base m.few m.line PySem.F.plainAttrs_dict PySem.F.slot_dict_pop PySem.F.type_dict_pop (thn (g c s O H _ I h) λu j n=>?_);obtain⟨x,p,f,q,a,r,d,t⟩:=n;subst r;obtain rfl:_:=q;obtain⟨w,z,_⟩:=ZU f d;refine⟨w,z,?_⟩;rw[m.trees];refine Calls.callWith_builtin rfl (Calls.evalArgs_plain (Calls.spliced_cons (thn (i c j O p _ f t) λJ L ⟨y,M,A,B,C,k,v,D,E,l,F⟩=>Calls.spliced_nil ?_)));subst E;exact bd A D B l (.inl rfl) λN P G b=>⟨v,_,G,b,F⟩
end
end L2
namespace Att
open PySem PySem.W PySem.Calls PyProof.Rows
theorem IT:∀(ns:List Int) (c:List Value),WellAll P h c (ns.map WData.int)->IntsAre c ns:=by
 intro ns
 induction ns with
 |nil=>
  intro c w;cases w;exact .nil
 |cons n ns d=>
  intro c w;cases w with
  |cons a b=>
   cases a;exact .cons _ _ (d _ b)
theorem Qu{l:OpenLaw}{n:Nat}(hn:l.most=some n){P:Params}{h:Heap}{b:List WData}{c:List Value}
  (e:l.row.toRowW.claim.pre b=true) (j:WellAll P h c b) :
  ∃a m ns,c=[Value.ref a]/\b=[WData.list (ns.map WData.int)]/\h.get? a=some { cls:=.type "list",data:=.seq m.toArray }/\IntsAre m ns/\ns.length<=n:=by
 have k:WShape.hasAll [] b [_]=true:=(pre_splitW e).1;have o:l.pre.holds [] _=true:=(pre_splitW e).2;obtain⟨d,r,rfl,p,q⟩:=hasAllW_cons k;obtain rfl:=hasAllW_nil q;obtain⟨w,rfl,s⟩:=hasW_list p;obtain⟨ns,rfl⟩:=items_int s;have f:ns.length<=n:=by
  have i  := by
   have i:=(holds_andW o).1;rw[hn] at i;exact i
  have x:=condW_of i (w_not (w_lt w_lit (w_len_list (w_arg rfl))))
  simp_all
 cases j with
 |cons t u=>
  cases u;cases t with
  |list v g=>exact⟨_,_,ns,rfl,rfl,v,IT ns _ g,f⟩
theorem Qx(l:OpenLaw)(a:List WData):l.row.toRowW.claim.post a (.bool true) a=true:=
 postW_of
  (by trivial)
  (w_eq_bool (w_res rfl) w_lit) rfl
theorem Nm{l:OpenLaw}{n:Nat}{q:Program}{c:List Str}{C:(Str->Option Value)->Heap->Prop}{D:World->Heap->Prop}{d:DefRec}
  (hn:l.most=some n) (v:d.params.defaults=[])
  (call:∀(w:World) (e b:Shared) (s x:Str->Option Value) (j:Addr) (o:Obj) (y t g:Value) (a:Addr) (i:List Value) (ns:List Int),
   Ground q c [] C w e s x b.heap->D w b.heap->
   b.heap.get? j=some o->o.data=.func (docDef d.name d.params d.body d.scope y t g)->b.heap.CodeRec t d.name->s d.name=some (.ref j)->
   b.heap.get? a=some { cls:=.type "list",data:=.seq i.toArray }->IntsAre i ns->ns.length<=n->b.gens=#[]->
   codeAny (model l.prog w) callerA (.call (.ref j) ⟨[.ref a],[]⟩) (λr u=>r=.ok (.ret (.bool true))/\OldK b.heap u.heap/\u.os=b.os/\AllBare u.gens) b) :
  WalkO q c C D l.row.toRowW d [] (λf i=>PySem.call f i):=by
 intro w e b s x G J j o y t g V W L M z E A N F H X k I O B P;obtain rfl:_:=Dflts.none E v;obtain rfl:_:=Dflts.noKw E;obtain⟨a,i,ns,rfl,rfl,m,h,p⟩:=Qu hn k B;refine enter_call (codeAny_mono (call w e b s x j o y t g a i ns G J L (fd_plain M) z A m h p N) λr u Q=>?_);obtain⟨rfl,R,S,T⟩:=Q;exact⟨.inl ⟨_,.bool true,[],rfl,λ_=>rfl,.bool true,Qx l _,λ_=>⟨List.Pairwise.nil,λ_ U=>nomatch U⟩⟩,R,S,T⟩
end Att
namespace L2
open PySem PySem.Spec PyProof.Rows
theorem HS:∀{a:List Value} {ns:List Int},IntsAre a ns->Vals (ns.map V.int) a
 |_,_,.nil=>.nil
 |_,_,.cons n t h=>.cons ⟨t,rfl⟩ (HS h)
def XD(H:Hp):Prop:=∀b,H b=none∨∃o a,H b=some (.frz o (.lst a))
theorem T5{P:Program}{w:World}{K:PySem.W.Frag}{t J:Str->Option Value}{W:CXT}{k:Nat}{L a:Addr}{X:FuncData}{x:Str}{Y:Sp}{c:Shared}{I:List Value}{ns:List Int}
  (Z:K.In c.heap) (y:c.heap.Ns mainGlobals t) (g:c.heap.Ns builtinsNs J) (M:∀x:Str,x ≠ "__name__" -> J x=bootBuiltins x) (A:c.heap.NoLimit) (hg:c.gens=#[])
  (N:c.heap.get? a=some { cls:=.type "list",data:=.seq I.toArray }) (hi:IntsAre I ns) (hl:ns.length<=sizeLine) (hr:Room k callerA)
  (F:∀i:Heap,K.In i->i.Ns mainGlobals t->FnOk P w K t i W k L X [x] Y) (p:∀(s:Shared) (u:Value),BindsTo s X ⟨[u],[]⟩ [(x,u)])
  (O:∀H:Hp,XD H->SqL K H a (ns.map V.int)->Y [.ref a] H (λv _=>v=.bl true) λ_ _ _=>False)
  (Q:∀H e j,W [] H c (λ_ _ _=>False) e j->False) :
  codeAny (model P w) callerA (.call (.ref L) ⟨[.ref a],[]⟩) (λr j=>r=.ok (.ret (.bool true))/\OldK c.heap j.heap/\j.os=c.os/\AllBare j.gens) c:=by
 have rv:=HS hi;have lenV:=hi.length;have n:∀H ,XD H->SqL K H a (ns.map V.int)->HOk P w H c.heap->(∀b,H b≠none->b=a)->(H a≠none->K.lookup a=none)->
   codeAny (model P w) callerA (.call (.ref L) ⟨[.ref a],[]⟩) (λr j=>r=.ok (.ret (.bool true))/\OldK c.heap j.heap/\j.os=c.os/\AllBare j.gens) c:=by
  intro H hO hS B hA hK;have f:∀{b:Addr} {o:Obj},c.heap.get? b=some o->H b=none->_:=UL;have R:∀{b:Addr} {o:Obj} {S:_} {T:Nat},c.heap.get? b=some o->o.data=.dict S T->H b=none:=(by grind);have l:∀{b:Addr} {m:_},c.heap.Ns b m->(UM _ H).Ns b m:=λ{b m} ⟨o,S,T,e,d,r⟩=>⟨o,S,T,f e (R e d),d,r⟩;have C  := λb o e=>f (Z b o e) (by grind);have hM:Mod K t _:=⟨C,l y,⟨J,l g,M⟩,let ⟨mc,h1,h2⟩:=A;⟨mc,l h1,h2⟩⟩;have e0:XF P w K t (_) callerA [] c H:=⟨rfl,hM,λb o=>WX,Nat.le_of_eq (RN _ _),trivial,λb g=>absurd (show b∈[] from g) (by simp),B,.of_eq hg⟩;refine codeAny_mono ((F _ C (l y)).run callerA [] c H _ [.ref a] [.ref a] _ _ hr e0 (p c (.ref a)) (.cons rfl .nil) (O H hO hS)) λr j h=>?_;cases r with
  |error e=>exact(Q H e j h).elim
  |ok fl=>
   cases fl with
   |next=>exact False.elim h
   |brk=>exact False.elim h
   |cont=>exact False.elim h
   |ret u=>
    obtain⟨v,H',os,D,un,E,r',q⟩:=h;have q'  := q;subst q';obtain rfl:_:=r';refine⟨rfl,OldK.of_keep λb o e=>?_,os,D⟩;cases q:H b with
    |none=>exact un.keep b o e q (by intro z;exact absurd (show b∈[] from z) (by simp)) (by simp)
    |some u=>
     rcases hO b with z|⟨ob,xs,z⟩
     ·rw[q] at z;cases z
     ·have z2:=un.frzs b ob _ z;obtain⟨e1,_⟩:=B b _ z;obtain⟨e2,_⟩:=E b _ z2;rw[e] at e1;cases e1;exact e2
 cases U:K.lookup a with
 |some o=>
  have e:=Z a o U;rw[N] at e;cases e;refine n _ (λ_=>.inl rfl) (.inr ⟨_,_,_,U,rfl,rfl,rfl,by simp_all,by simpa using rv⟩) (λb u z=>by have G  := z;cases G) (λb=>absurd rfl) (absurd rfl)
 |none=>
  refine n (λb=>if b=a then some (_) else none) (λb=>?_) (.inl (.inr ⟨{ cls:=.type "list",data:=.seq I.toArray },if_pos rfl⟩)) (λb u z=>?_) (λb z=>?_) λ_=>U
  ·by_cases g:b=a
   ·exact .inr ⟨_,_,if_pos g⟩
   ·exact .inl (if_neg g)
  ·by_cases g:b=a
   ·have G:=(if_pos g).symm.trans z;cases G;subst g;exact⟨N,by simp_all,I,_,rv,N⟩
   ·have G:=(if_neg g).symm.trans z;cases G
  ·by_cases g:b=a
   ·exact g
   ·exact absurd (if_neg g) z
theorem Vo{l:PySem.W.OpenLaw}{n k:Nat}{q:Program}{g:List Str}{N:(Str->Option Value)->Heap->Prop}{D:World->Heap->Prop}{d:DefRec}{K:Params->PySem.W.Frag}{E:World->CXT}{I:World->Sp}{x:Str}
  (hn:l.most=some n) (t:n<=sizeLine) (y:d.params.defaults=[]) (O:Room k callerA)
  (P:∀(w:World) (h:Heap),D w h->(K w.params).In h)
  (F:∀(w:World) (j:Str->Option Value) (r:Addr) (h:Heap),(K w.params).In h->h.Ns mainGlobals j->j d.name=some (.ref r)->
   ∃z:FuncData,(∀(s:Shared) (u:Value),BindsTo s z ⟨[u],[]⟩ [(x,u)]) /\
    ∀b:Heap,(K w.params).In b->b.Ns mainGlobals j->FnOk l.prog w (K w.params) j b (E w) k r z [x] (I w))
  (A:∀(w:World) (H:Hp) (a:Addr) (ns:List Int),ns.length<=n->XD H->SqL (K w.params) H a (ns.map V.int)->I w [.ref a] H (λv _=>v=.bl true) λ_ _ _=>False)
  (B:∀(w:World) (H:Hp) (s:Shared) (e:Value) (Q:Shared),E w [] H s (λ_ _ _=>False) e Q->False) :
  PySem.W.WalkO q g N D l.row.toRowW d [] (λf J=>PySem.call f J):=by
 refine Att.Nm hn y λw L m j Y r o Z cd R a J ns G S ho hd T C p i c U=>?_;have M:=P w _ S;obtain⟨z,W,X⟩:=F w j r _ M G.T.g C;exact T5 M G.T.g G.T.b G.T.builtins G.T.nolimit U p i (AAq c t) O X W (λH=>A w H a ns c) λH=>B w H m
noncomputable def HF(s:Stmt):Arguments:=match s with
 | .FunctionDef _ a _ _ _ _ _ _ _ _=>a
 |_=>{ posonlyargs:=[],args:=[],vararg:=none,kwonlyargs:=[],kw_defaults:=[],kwarg:=none,defaults:=[] }
noncomputable def Cb(s:Stmt):List Stmt:=match s with
 | .FunctionDef _ _ b _ _ _ _ _ _ _=>b
 |_=>[]
noncomputable def AQ(s:Stmt):Scope:=match s with
 | .FunctionDef _ _ _ _ _ _ a _ _ _=>a
 |_=>{ kind:=.function,names:=[],isGenerator:=false,isCoroutine:=false }
noncomputable abbrev CX0:CXT:=λ_ _ _ _ _ _=>False
noncomputable abbrev E0:XK:=λ_ _ _=>False
theorem az:O7 CX0 X E0:=λ_ _ _ _ _ _ _ h=>h.elim
structure Fun(K:PySem.W.Frag)(x qual:Str)(st:Stmt)(f:Addr)(fd:FuncData):Prop where
 ex:∃(oc:Value) (od:Option Addr) (kV doc pm:Value) (an:Option Addr) (cdv ct:Value) (osl:Array (Option Value)),
  fd=PySem.W.fnOf x qual (HF st) (Cb st) (AQ st) .none kV doc pm an cdv ct/\K.lookup f=some ⟨oc,od,.func fd,osl⟩/\PySem.W.codeIn K cdv qual=true
 kp:PySem.W.keepIn K (.ref f)=true
section
variable{P:Program}{w:World}{K:PySem.W.Frag}{mg:Str->Option Value}{base:Heap}
theorem Fun.ok{x b:Str}{st:Stmt}{f:Addr}{n:FuncData}{N g:List Str}{k:Nat}{i:Sp}(F:Fun K x b st f n)(S:Ab N g (AQ st))(j:∀d H Q E,i d H Q E->d.length=g.length)
  (e:∀(c:Value) (A:Around) (a:List Env) (s:Shared) (H:Hp) (d:List V) (Q:VK) (E:XK),Room k (A.deeper (envOfC b (AQ st) s.heap.objs.size f c))->i d H Q E->
   ∃t,PSs (HH CX0 P w K mg base N b (AQ st) f c A a s H E).nox (Cb st) t/\t { nx:=λ_ H'=>Q .non H',rt:=Q } (start N d) H):FnOk P w K mg base CX0 (k+1) f n g i:=by
 obtain⟨v,y,kV,o,z,B,c,C,p,rfl,r,l⟩:=F.ex;refine bX r l S j λA a s H d Q E u m=>?_;obtain⟨t,h,q⟩:=e c A a s H d Q E u m;exact⟨t,h.nox,q⟩
theorem Fun.binds{x a:Str}{st:Stmt}{f:Addr}{k:FuncData}{d:List Str}(F:Fun K x a st f k)
  (h:∀(kV b e:Value) (g:Option Addr) (c i:Value) (j:List Value),j.length=d.length->bindArgs (PySem.W.fnOf x a (HF st) (Cb st) (AQ st) .none kV b e g c i) ⟨j,[]⟩=pure (d.zip j)):Binds K k d []:=by
 obtain⟨n,o,kV,b,e,g,c,i,l,rfl,p,m⟩:=F.ex;exact .all (h kV b e g c i)
theorem Ze{x a:Str}{st:Stmt}{f:Addr}{j:Value}{m g:Option Addr}{e:Array (Option Value)}{kV d h b i:Value}(l:K.lookup f=some ⟨j,m,.func (PySem.W.fnOf x a (HF st) (Cb st) (AQ st) .none kV d h g b i),e⟩)
  (c:PySem.W.codeIn K b a=true) (k:PySem.W.keepIn K (.ref f)=true):Fun K x a st f (PySem.W.fnOf x a (HF st) (Cb st) (AQ st) .none kV d h g b i):=⟨⟨j,m,kV,d,h,g,b,i,e,rfl,l,c⟩,k⟩
end
theorem UI(a:Room k A):A.units+1<cLine:=Nat.lt_of_le_of_lt (Nat.add_le_add_left (by decide) _) a.units
noncomputable def Hu(env:Env):List (Str×NameKind)->List (Str×Addr)->List (Str×Addr)
 |[],a=>a
 |(n,k)::r,a=>Hu env r (if k==.free then (match env.cells.lookup n with|some c=>(n,c)::a|none=>a) else a)
theorem Dm:∀(l:List (Str×NameKind)) (cs:List (Str×Addr)),(∀x∈l,x.2=.free->∃c,env.cells.lookup x.1=some c)->
  (forIn l cs λ(x:Str×NameKind) (r:List (Str×Addr))=>(if (x.2==NameKind.free)=true then (do let a ←cellOf env x.1;pure (ForInStep.yield ((x.1,a)::r))) else pure (ForInStep.yield r):Sem (ForInStep (List (Str×Addr)))))=pure (Hu env l cs)
 |[],cs,_=>rfl
 |(n,k)::r,cs,h=>by
  have b  := λx i=>h x (AAQ _ i);rw[List.forIn_cons];by_cases d:k=.free
  ·subst d;obtain⟨c,f⟩:=h _ AAP rfl;have e:cellOf env n=pure c:=by unfold cellOf;rw[f]
   dsimp only;rw[if_pos (by decide),e,pure_bind,pure_bind];dsimp;rw[Dm r _ b];show _=pure (Hu env r _);rw[if_pos (by decide),f]
  ·have g:¬(k==NameKind.free)=true:=by simpa using d
   rw[if_neg g,pure_bind];dsimp only;rw[Dm r _ b];show _=pure (Hu env r _);rw[if_neg g]
theorem Ep(h:∀x∈a.names,x.2=.free->∃c,env.cells.lookup x.1=some c):closureFor a env=pure (Hu env a.names []):=by
 have e:=Dm _ [] h;unfold closureFor;rw[←bind_pure (pure _),←e]
theorem Fx:∀(l:List (Str×NameKind)) (cs:List (Str×Addr)),(∀x c,cs.lookup x=some c->env.cells.lookup x=some c)->∀x c,(Hu env l cs).lookup x=some c->env.cells.lookup x=some c
 |[],cs,h=>h
 |(n,k)::r,cs,h=>by
  refine Fx r _ ?_;intro x c;by_cases a:(k==NameKind.free)=true
  ·rw[if_pos a];cases f:env.cells.lookup n with
   |none=>exact h x c
   |some d=>
    intro q;by_cases b:x=n
    ·simp_all
    ·have e  := AAd.mpr b;simp[List.lookup_cons,e] at q;exact h x c q
  ·rw[if_neg a];exact h x c
theorem Jz:∀(l:List (Str×NameKind)) (cs:List (Str×Addr)) (x:Str),(cs.lookup x).isSome=true->((Hu env l cs).lookup x).isSome=true
 |[],cs,x,h=>h
 |(n,k)::r,cs,x,h=>by
  refine Jz r _ x ?_;by_cases a:(k==NameKind.free)=true
  ·rw[if_pos a];cases b:env.cells.lookup n with
   |none=>exact h
   |some d=>
    simp_all
  ·rw[if_neg a];exact h
theorem Nc:∀(l:List (Str×NameKind)) (cs:List (Str×Addr)) (x:Str) (c:Addr),(x,NameKind.free)∈l->env.cells.lookup x=some c->((Hu env l cs).lookup x).isSome=true
 |[],cs,x,c,h,_=>by simp at h
 |(n,k)::r,cs,x,c,h,a=>by
  rcases AAI.mp h with e|e
  ·obtain⟨rfl,rfl⟩:=Prod.mk.inj e;refine Jz r _ _ ?_
   simp_all
  ·exact Nc r _ x c e a
theorem LK(h:(x,NameKind.free)∈l)(a:env.cells.lookup x=some c):(Hu env l []).lookup x=some c:=by
 obtain⟨d,b⟩:=Option.isSome_iff_exists.mp (Nc l [] x c h a);have:=Fx l [] (λ_ _ z=>by simp at z) x d b
 simp_all
noncomputable def EG:List (Str×NameKind)->List Str
 |[]=>[]
 |(n,.free)::r=>n::EG r
 |_::r=>EG r
theorem GZ:∀{l:List (Str×NameKind)},x∈EG l->(x,NameKind.free)∈l
 |[],h=>by simp[EG] at h
 |(n,k)::r,h=>by
  cases k<;>first
   |(rcases AAI.mp (h) with e|e;{subst e;exact AAP};{exact AAQ _ (GZ e)})
   |exact AAQ _ (GZ (h))
theorem LB:∀{l:List (Str×NameKind)},(x,NameKind.free)∈l->x∈EG l
 |[],h=>by simp at h
 |(n,k)::r,h=>by
  rcases AAI.mp h with e|e
  ·cases e;exact AAP
  ·have a:=LB e;cases k<;>first
    |exact AAQ _ a
    |exact a
theorem Fq(f:Str×NameKind->Str×NameKind)(b:∀p,f p=p∨p.2=.free/\f p=(p.1,.cell)):∀(l:List (Str×NameKind)) (k:NameKind),(l.map f).lookup x=some k->l.lookup x=some k∨l.lookup x=some .free/\k=.cell
 |[],_,h=>nomatch h
 |(y,j)::l,k,h=>by
  have a:=Fq (x:=x) f b l k;rw[AAW] at h;rcases b (y,j) with e|⟨d,e⟩<;>rw[e] at h<;>cases c:x==y<;>simp[List.lookup_cons,c] at h ⊢
  ·exact a h
  ·exact .inl h
  ·exact a h
  simp_all
theorem D8(h:(relabel a env).names.lookup x=some k):a.names.lookup x=some k∨a.names.lookup x=some .free/\k=.cell:=by
 refine Fq _ (λp=>?_) _ _ h;dsimp;split
 ·simp_all
 ·exact .inl rfl
noncomputable def Ku(ix:List Nat)(O:St):St:=ix.map λj=>(O[j]?).getD none
noncomputable def cxB(X:Cx)(a:Scope)(tgs:List Str)(fp:List Addr)(C:Addr)(s:Shared)(H:Hp):Cx:=
 { X with N:=tgs++EG a.names,s₀:=s,H₀:=H,env:=compEnvC a (Hu X.env a.names []) C X.env,outer:=X.stack,ex:=fp,fn:=λ_=>false,pn:=[],xe:=λ_ _=>False }
noncomputable def Z2{α:Type}(P:α->Prop):List α->Prop
 |[]=>True
 |x::r=>P x/\Z2 P r
theorem KD:∀{l:List α},Z2 P l->∀x∈l,P x
 |[],_,_,h=>by simp at h
 |_::_,h,x,a=>by
  rcases AAI.mp a with e|e
  ·subst e;exact h.1
  ·exact KD h.2 x e
structure BScope(X:Cx)(scope:Scope)(tgs:List Str)(ix:List Nat):Prop where
 kind:scope.kind=.function
 nocell:∀y∈scope.names,y.2≠.cell
 loc:∀y∈scope.names,y.2=.local->scope.names.lookup y.1=some .local
 fre:Z2 (λx=>X.env.kindOf x=some .cell∨X.env.kindOf x=some .free) (EG scope.names)
 ixs:(EG scope.names).map some=ix.map λj=>X.N[j]?
 ndl:∀x∈EG scope.names,scope.names.lookup x=some .free
section
variable{X:Cx}{scope:Scope}{tgs:List Str}{ix:List Nat}
theorem BScope.cells(S:BScope X scope tgs ix)(a:X.Ok):∀x∈scope.names,x.2=.free->∃c,X.env.cells.lookup x.1=some c:=λx b d=>by
 obtain⟨n,k⟩:=x;subst d;exact a.has n (KD S.fre n (LB b))
theorem Inv.cellLt(I:Inv X a O H s)(e:X.env.cells.lookup x=some c):c<s.heap.objs.size:=by
 obtain⟨v,q⟩:=I.cell x c e;exact q.lt
theorem Inv.track(I:Inv X g O H s)(f:HN X g H D)(h:ObjOk X.prog X.w (upd H D o) s.heap D o):Inv X g O (upd H D o) s:=by
 obtain⟨i,j,w,k,l,p⟩:=f;have d:∀b u,H b=some u->b≠D:=λb u e z=>by rw[z,i] at e;cases e
 have:=I.step (H':=upd H D o) (t':=s.toks) (d':=s.drawn) (ch:=[D]) (λb a=>?_) (λb u _ _ _ e _=>e) (λb u _ _ _ e _=>⟨u.slots,e⟩) (λb u a e n=>?_) (λb u _ e=>⟨u,e⟩)
  (λb r e=>?_) (λb u v e=>?_) (λb x e=>?_) (λm t=>t) (λb u e=>?_) I.bare
 ·exact this
 ·have e  := by simpa using a
  subst e;exact⟨k,j,l,p⟩
 ·rw[upd_ne (λz=>a (by simp[z]))];exact n
 ·rw[upd_ne (d b _ e)];exact e
 ·rw[upd_ne (d b _ e)];exact e
 ·exact⟨#[],by rw[upd_ne (d b _ e),e];simp⟩
 ·by_cases a:b=D
  ·subst a;rw[Br] at e;simp_all
  ·rw[upd_ne a] at e;exact(I.hok b u e).stay (λ_ _ _ q=>q) (λc q=>by rw[upd_ne (d c _ q)];exact q) λc r q=>by rw[upd_ne (d c _ q)];exact q
theorem Ui(S:BScope X scope tgs ix)(I:Inv X p O H s)(f:∀b∈fp,HN X p H b)(g:∀b∈fp,b<s.heap.objs.size)(j:s.heap.objs.size<=C):
  (cxB X scope tgs fp C s H).Ok:=by
 have a:∀x c,_->X.env.cells.lookup x=some c:=Fx scope.names [] λ_ _ z=>by simp at z
 refine⟨I.ok.mod,S.kind,I.ok.glob,I.ok.blt,j,λx y c r t=>I.ok.inj x y c (a x c r) (a y c t),λx u=>?_,λx c h=>absurd h (by simp[cxB]),I.ok.hd,I.ok.frames,.inl rfl,λb d=>⟨?_,λx c e=>?_⟩,I.bs,
  AAq I.ok.bsz I.sz,λb o e d=>?_,λb d v=>?_,I.stack,I.stkFree⟩
 ·have i  := u;have k:(x,NameKind.free)∈scope.names:=by
   rcases i with h|h
   ·rcases D8 h with q|q
    ·exact absurd rfl (S.nocell _ (PySem.mem_of_lookup q))
    ·exact PySem.mem_of_lookup q.1
   ·rcases D8 h with q|q
    ·exact PySem.mem_of_lookup q
    simp_all
  obtain⟨c,w⟩:=S.cells I.ok _ k rfl;exact⟨c,LK k w⟩
 ·exact λz=>absurd (g b d) (by rw[z];exact Nat.not_lt.mpr j)
 ·exact(f b d).2.2.2.2.1 x c (a x c e)
 ·obtain⟨A,l,m,n,B,D⟩:=f b d;rcases n with z|z
  ·exact I.ok.noex b o e z
  ·exact absurd (Heap.lt_size (I.ok.bs b o e).1) (Nat.not_lt.mpr z)
 ·obtain⟨A,l,m,n,B,D⟩:=f b d;rcases AAI.mp (I.stkSub b v) with z|z
  ·exact l z
  ·exact m z
end
section
variable{X:Cx}{scope:Scope}{tgs:List Str}{ix:List Nat}
noncomputable abbrev DQ(tgs:List Str)(ix:List Nat)(O:St):St:=List.replicate tgs.length none++Ku ix O
theorem JH(h:(DQ tgs ix O)[k]?=some (some v)):tgs.length<=k/\∃j,ix[k-tgs.length]?=some j/\O[j]?=some (some v):=by
 have b:tgs.length<=k:=by
  rcases Nat.lt_or_ge k tgs.length with z|z
  ·rw[AAS (by simpa using z),List.getElem?_replicate,if_pos z] at h;cases h
  ·exact z
 refine⟨b,?_⟩;rw[AAR (by simpa using b),AAl] at h;unfold Ku at h;rw[AAV] at h;cases e:ix[k-tgs.length]? with
 |none=>rw[e] at h;cases h
 |some j=>
  rw[e] at h;refine⟨j,rfl,?_⟩;have a:O[j]?.getD none=some v:=Option.some.inj h;cases q:O[j]? with
  |none=>rw[q] at a;cases a
  |some o=>
   rw[q] at a
   simp_all
theorem Oo(S:BScope X scope tgs ix)(I:Inv X U O H s)(W:∀b∈fp,HN X U H b)(t:∀b∈fp,b<s.heap.objs.size)
  (R:s.heap.objs.size<=C) (A:s.heap.objs.size<=D) (B:D≠C) {m:Str->Option Value} (hn:f.heap.Ns C m) (n:∀b u,s.heap.get? b=some u->f.heap.get? b=some u) (E:f.os=s.os) (Y:f.gens=s.gens)
  (F:f.heap.get? D=some o) (a:∀v,o.data≠.cell v):Inv (cxB X scope tgs fp C s H) [(D,o)] (DQ tgs ix O) H f:=by
 have Z:=Ui S I W t R;have g:∀x c,_->X.env.cells.lookup x=some c:=Fx scope.names [] λ_ _ z=>by simp at z
 refine⟨Z,E,by rw[Y];exact I.bare,Un.kept n,⟨m,hn,λk x v h1 h2 h3=>?_⟩,λx c e=>?_,I.hok.fresh R,λx c e=>I.freeC x c (g x c e),λp hp=>?_,I.hok.kept n,?_⟩
 ·obtain⟨G,j,hj,J⟩:=JH h2;have h  := by
   have:(tgs++EG scope.names)[k]?=some x:=h1
   rwa [AAR G] at this
  have L  := AAU h;have M  := by
   have e:=congrArg (λl=>l[k-tgs.length]?) S.ixs;simp only[AAV,h,hj] at e;exact(Option.some.inj e).symm
  have T:=KD S.fre x L;obtain⟨m0,hn0,hl⟩:=I.loc;obtain⟨u,r,l⟩:=hl j x v M J (by rcases T with z|z;exact .inr (.inl z);exact .inr (.inr z));refine⟨u,r,?_⟩;rcases l with ⟨z,_⟩|⟨_,c,hc,q⟩
  ·rcases T with y|y<;>rw[z] at y<;>cases y
  ·refine .inr ⟨?_,c,LK (GZ L) hc,?_⟩
   ·have N  := h3;rcases N with z|z|z
    ·exfalso;rcases D8 z with w|w
     ·have lk  := w;have:=S.ndl x L;rw[lk] at this;cases this
     ·exact absurd w.2 (by decide)
    ·exact .inl z
    ·exact .inr z
   ·obtain⟨i,d,P⟩:=q;exact⟨i,n c i d,P⟩
 ·obtain⟨v,i,d,P⟩:=I.cell x c (g x c e);exact⟨v,i,n c i d,P⟩
 ·have e  := by simpa[cxB] using hp
  subst e;refine⟨F,I.hok.fresh A,B,λhz=>?_,a⟩;have Q  := hz;rcases AAI.mp (I.stkSub D Q) with z|z
  ·exact absurd I.lt (by rw[←z];exact Nat.not_lt.mpr A)
  ·exact I.nofs A z
 ·show (List.replicate tgs.length none++Ku ix O).length=(tgs++EG scope.names).length;have e:=congrArg List.length S.ixs;simp at e;rw[AAG,AAG,AAl,e];unfold Ku;rw[AAF]
def GK(n:Nat)(g:TG):Prop:=∀x O H Q,g x O H Q->g x O H λa b=>Q a b/\a.length=O.length/\a.drop n=O.drop n
theorem Wq(h:i<n):GK n (IK i):=λx O H Q q=>⟨q,by simp,by rw[List.drop_set_of_lt h]⟩
def b6(tgs:List Str)(ix:List Nat)(g:TG)(j:TT)(te:TE)(O:St)(Q:VK)(J:It)(k:Hp):Prop:=∃W:Nat->Nat->List V->Hp->Prop,(∃m,W 0 m [] k)/\∀i m a H,W i m a H->
 (J.stop i H/\a.length<=sizeLine/\∀p,H p=none->Q (.ref p) (upd H p (.lst a))) ∨
 (J.go i H/\a.length<sizeLine/\∃N:List V->Hp->Prop,(∀c d,N c d->∃e,e<m/\W (i+1) e c d)/\∀x d,J.yld i H x d->g x (DQ tgs ix O) d λf l=>j f l λb h=>
  if b=true then te f h λv n=>N (a++[v]) n else N a h)
noncomputable def Sd(tgs:List Str)(ix:List Nat)(a:TI)(g:TG)(b:TT)(te:TE):TE:=λO H Q=>a O H λJ c=>b6 tgs ix g b te O Q J c
theorem Oy(h:wpAny M A t Q (λ_ _=>False) s)(b:∀a s,Q a s->c a s):wpAny M A t c E s:=AAh h b λ_ _ x=>x.elim
end
section
variable{X:Cx}{scope:Scope}{tgs:List Str}{ix:List Nat}
noncomputable abbrev OZ(a:List Value)(k:Nat):Obj:={ cls:=.type "list",data:=.seq a.toArray k }
theorem XJ(I:Inv (cxB X scope tgs fp C b c) d a H s)(f:a.length=(DQ tgs ix O).length)
  (g:a.drop tgs.length=(DQ tgs ix O).drop tgs.length):Inv (cxB X scope tgs fp C b c) d (DQ tgs ix O) H s:=by
 refine I.weak f.symm λk v e=>?_;obtain⟨j,_⟩:=JH e;have h:a[k]?=(a.drop tgs.length)[k-tgs.length]?:=by rw[List.getElem?_drop];congr 1;lia
 have i:(DQ tgs ix O)[k]?=((DQ tgs ix O).drop tgs.length)[k-tgs.length]?:=by rw[List.getElem?_drop];congr 1;lia
 rw[h,g,←i];exact e
end
section
variable{X:Cx}
theorem Ni:B7 X (.builtin "isinstance") (λxs H Q=>∃x T t b,xs=[x,.ty T]/\H9 X.K H x t/\PySem.W.kitOne X.K t (.type T)=some b/\Q (.bl b) H):=by
 intro g s O H xs i Q I r h;obtain⟨x,T,t,b,rfl,a,e,q⟩:=h;obtain⟨u,j,rfl,c,d⟩:=XL r;cases d;exact RJ I c a e λf=>⟨.bl b,H,I.tok f,rfl,q⟩
end
theorem OH(d:α)(bs:List α):(List.range bs.length).map (λi=>bs.getD i d)=bs:=by
 apply List.ext_getElem
 ·simp
 ·intro i b a;simp[List.getD,a]
theorem Qw(bs:List Bool):((List.range bs.length).all λi=>bs.getD i true)=bs.all id:=by
 conv=>rhs;rw[←OH true bs]
 rw[List.all_map];rfl
section
variable{X:Cx}
theorem Mm{P:Program}{w:World}{bs:List Bool}{a:List Value}(r:Vals (bs.map V.bl) a):TruthOf P w A (λi v=>a.toArray[i]?=some v) (λi=>bs.getD i true):=by
 intro i v s Q E d e;have b  := by simpa using d
 have f  := (AAT.mp b).1;have g:=r.length;rw[AAF] at g;have h:(bs.map V.bl)[i]?=some (V.bl (bs.getD i true)):=by simp_all
 obtain⟨u,c,j⟩:=r.get h;rw[b] at c;cases c;cases j;exact wpAny_truthy_bool e
theorem O3(v:X.calm=true){g:List (Addr×Obj)}{s:Shared}{O:St}{H:Hp}{a:Addr}{bs:List Bool}{Q:VK}{c:Bool}{f:(Nat->Bool)->List Nat->Bool}(I:Inv X g O H s)(w:SqL X.K H a (bs.map V.bl))(x:f (λi=>bs.getD i true) (List.range bs.length)=c)(q:Q (.bl c) H):
  wpAny (model X.prog X.w) X.A.in1 (pyIter (.ref a)) (λy d=>∃I fp l n P St m,y=.ref I/\Walks X.prog X.w X.A.in1 I fp l n P St/\St 0 d.heap/\TruthOf X.prog X.w X.A.in1 P m /\
   ∀h t,(∀b o,b∉l->d.heap.get? b=some o->h.get? b=some o)->EP X g O Q (.bool (f m (List.range n))) { d with heap:=h,toks:=t }) X.xe s:=by
 obtain⟨j,r,p,L⟩:=I.list w;refine wpAny_pyIter_list p.isList ?_;have k:a<s.heap.objs.size:=by
  obtain⟨o,n,e,_⟩:=p;exact Heap.lt_size e
 have z:Inv X g O H { s with heap:=s.heap.push { cls:=.type "list_iterator",data:=.fields #[.ref a,.int 0 0] } }:=I.kept λb o=>AAC _;obtain⟨B,C,M,D,E,F⟩:=I.fpOk (AAE _) (I.hok.fresh (AAE _));refine⟨s.heap.objs.size,_,_,_,_,_,_,rfl,Walks.list (A:=X.A.in1) (I.ok.hd v) s.heap.objs.size a (AAc k) j.toArray,⟨⟨_,AAD _ rfl,rfl,rfl⟩,p.isList.push _⟩,Mm r,λh t G=>?_⟩;have u:=r.length;rw[AAF] at u;rw[List.size_toArray,←u,x];exact⟨.bl c,H,z.turned (λb o J=>G b o (by simpa using J)) B C D E F,rfl,q⟩
theorem Rl(b:X.calm=true):B7 X (.builtin "all") (λxs H Q=>∃(a:Addr) (bs:List Bool),xs=[.ref a]/\SqL X.K H a (bs.map V.bl)/\Q (.bl (bs.all id)) H):=by
 intro g s O H xs i Q I r h;obtain⟨a,bs,rfl,c,q⟩:=h;obtain⟨u,rfl,d⟩:=Ea r;cases d;exact call_all_walk (O3 (f:=λe l=>l.all e) b I c (Qw bs) q)
end
mutual
inductive DatV (K:PySem.W.Frag) (H:Hp):V->PyData->Prop
 |non:DatV K H .non .none
 |bl (b:Bool):DatV K H (.bl b) (.bool b)
 |int (i:Int):DatV K H (.int i) (.int i)
 |str (x:Str):DatV K H (.str x) (.str x)
 |tup {a:Addr} {xs:List V} {ds:List PyData}:SqT K H a xs->DatVs K H xs ds->DatV K H (.ref a) (.tuple ds)
 |lst {a:Addr} {xs:List V} {ds:List PyData}:SqL K H a xs->DatVs K H xs ds->DatV K H (.ref a) (.list ds)
inductive DatVs (K:PySem.W.Frag) (H:Hp):List V->List PyData->Prop
 |nil:DatVs K H [] []
 |cons {v:V} {d:PyData} {vs:List V} {ds:List PyData}:DatV K H v d->DatVs K H vs ds->DatVs K H (v::vs) (d::ds)
end
section
variable{X:Cx}{w4:List (Addr×Obj)}{O:St}{H:Hp}{s:Shared}
mutual
theorem DatV.reads(I:Inv X w4 O H s):∀{v:V} {d:PyData},DatV X.K H v d->∀{u:Value},RelV v u->∃f,Reads s.heap u d f
 |_,_,.non,_,r=>by cases r;exact⟨[],.none⟩
 |_,_,.bl b,_,r=>by cases r;exact⟨[],.bool b⟩
 |_,_,.int i,_,r=>by obtain⟨t,rfl⟩:=r;exact⟨[],.int i t⟩
 |_,_,.str x,_,r=>by obtain⟨t,rfl⟩:=r;exact⟨[],.str x t⟩
 |_,_,.tup j k,_,r=>by
  cases r;obtain⟨l,m,⟨o,e,c,n,d⟩,_⟩:=I.tuple j;obtain⟨f,g⟩:=DatVs.reads I k m;exact⟨_,.tuple e c d (by simpa using g)⟩
 |_,_,.lst j k,_,r=>by
  cases r;obtain⟨l,m,⟨o,n,e,c,_,d⟩,_⟩:=I.list j;obtain⟨f,g⟩:=DatVs.reads I k m;exact⟨_,.list e c d (by simpa using g)⟩
theorem DatVs.reads(I:Inv X w4 O H s):∀{p:List V} {q:List PyData},DatVs X.K H p q->∀{w:List Value},Vals p w->∃f,ReadsAll s.heap w q f
 |_,_,.nil,_,.nil=>⟨[],.nil⟩
 |_,_,.cons h t,_,.cons r y=>by
  obtain⟨a,g⟩:=DatV.reads I h r;obtain⟨b,z⟩:=DatVs.reads I t y;exact⟨_,.cons g z⟩
end
end
section
variable{X:Cx}
theorem ZD(a:X.A.units+64<cLine):OpR X (compareOp .Eq) (λx y H Q=>∃d d',DatV X.K H x d/\DatV X.K H y d'/\SeqAt.shaped d=true/\SeqAt.shaped d'=true/\Q (.bl (PyData.eqv d d')) H):=by
 intro l s O H x y v u Q I b c h;obtain⟨d,d',e,f,g,i,q⟩:=h;obtain⟨m,j⟩:=e.reads I b;obtain⟨n,k⟩:=f.reads I c;exact SeqAt.compareEq_shaped j k g i a ⟨.bl _,H,I,rfl,q⟩
theorem Y9(a:X.A.units+64<cLine):OpR X (compareOp .NotEq) (λx y H Q=>∃d d',DatV X.K H x d/\DatV X.K H y d'/\SeqAt.shaped d=true/\SeqAt.shaped d'=true/\Q (.bl (!PyData.eqv d d')) H):=by
 intro l s O H x y v u Q I b c h;obtain⟨d,d',e,f,g,i,q⟩:=h;obtain⟨m,j⟩:=e.reads I b;obtain⟨n,k⟩:=f.reads I c;exact SeqAt.compareNe_shaped j k g i a ⟨.bl _,H,I,rfl,q⟩
theorem Su(a:Room k A):A.units+64<cLine:=a.units
end
theorem Inv.turnedL{X:Cx}{h:List (Addr×Obj)}{O:St}{H:Hp}{t':Nat}{ch:List Addr}(I:Inv X h O H s)(k:∀b o,b∉ch->s.heap.get? b=some o->i.get? b=some o)(d:∀b∈ch,HN X h H b):Inv X h O H { s with heap:=i,toks:=t' }:=by
 have f:∀b u,H b=some u->b∉ch:=λb u e z=>by rw[(d b z).1] at e;cases e
 refine I.step (λb g=>⟨(d b g).2.2.2.1,(d b g).2.1,(d b g).2.2.2.2.1,(d b g).2.2.2.2.2⟩) (λb o _ _ a e _=>k b o a e) (λb o _ _ a e _=>⟨_,k b o a e⟩) (λ_ _ _ _ n=>n)
  (λb o a e=>⟨o,k b o a e⟩) (λ_ _ e=>e) (λ_ _ _ e=>e) (λb w e=>⟨#[],by rw[e];simp⟩) (λm j=>?_) (λb u e=>?_) I.bare
 ·obtain⟨o,l,p,t,r⟩:=j;exact⟨o,l,p,k _ o (λz=>(d _ z).2.1 rfl) t,r⟩
 ·refine(I.hok b u e).stay (λc v a=>k c v ?_) (λ_ q=>q) λ_ _ q=>q;rcases a with z|z
  ·rw[z];exact f b u e
  ·exact f c _ z
noncomputable def ItP(K:PySem.W.Frag)(n:Nat)(b:Nat->List V)(a:PySem.W.Frag->Hp->Prop):It:=
 ⟨λi H=>i<n/\a K H,λi H v c=>∃T,H T=none/\v=.ref T/\c=upd H T (.tup (b i)),λi H=>i=n/\a K H⟩
theorem JB{P:Program}{w:World}{K:PySem.W.Frag}{es:List Expr}{k0:Nat}{pos:Pos}{l:Addr}{Y:Type}{fp m:List Addr}{n:Nat}{d:Nat->List V}{good:Y->Prop}{Pt:Y->Nat->Array Value->Prop}{Sw:Y->Nat->Heap->Prop}{Mid:Y->Nat->Addr->Heap->Prop}{j:Nat->Heap->Prop}{f:PySem.W.Frag->Hp->Prop}
  (W:∀A:Around,A.handled=none->∀z,good z->WalksT P w A l fp m n (Pt z) (Sw z) (Mid z)) (p:l∈m) (F:∀z i a,good z->Pt z i a->Vals (d i) a.toList) (q:∀i,(d i).length<=sizeLine)
  (G:∀i h,j i h->∀b∈m,∃o,h.get? b=some o/\∀v,o.data≠.cell v)
  (t:∀i h u,j i h->(∀b∈m,∀o,h.get? b=some o->u.get? b=some o)->j i u)
  (g:∀(X:Cx) (k:List (Addr×Obj)) (O:St) (H:Hp) (s:Shared) (i:Nat),X.prog=P->X.w=w->X.K=K->Inv X k O H s->f K H->j i s.heap->∃z,good z/\Sw z i s.heap) (J:∀z i h,Sw z i h->j i h)
  (x:∀(A:Around) (i:Nat) (s:Shared) (Q:Value->Shared->Prop) (E:Value->Shared->Prop),j i s.heap->Q (.ref l) s->wpAny (model P w) A (pyIter (.ref l)) Q E s) :
  MU P w K (.Tuple es k0 pos) (ItP K n d f) m l j where
 mem:=p
 obj:=G
 keep:=t
 item:=by
  intro X L M N R i k s O H E I y st S;obtain⟨U,c⟩:=S;obtain⟨z,C,Z⟩:=g X k O H s i L M N I c st;have D:=W X.A (I.ok.hd R) z C;refine D.item i s _ _ U Z λT a u tk hp hT ht hm kk=>⟨_,rfl,?_⟩;have I1:Inv X k O H { s with heap:=u,toks:=tk }:=I.turnedL kk y;refine D.go es k0 pos i T _ _ _ hm λh2 st2 B=>?_;have I2  := I1.turnedL (t':=tk) B y;have hn  := I.hok.fresh hT;have ht2:IsTup h2 T a:=by
   obtain⟨o,e,r⟩:=ht;exact⟨o,B T o (D.apart i T _ hm) e,r⟩
  refine⟨.ref T,upd H T (.tup (d i)),I2.track (I.fpOk hT hn) ⟨q i,a.toList,F z i a C hp,by simpa using ht2⟩,rfl,⟨T,hn,rfl,rfl⟩,J z _ _ st2,λb hb=>?_⟩;have hbT:b≠T:=λz=>D.apart i T _ hm (by rw[←z];exact hb);rw[upd_ne hbT];exact(y b hb).1
 done:=by
  intro X L M N R i k s O H E I y st S;obtain⟨U,c⟩:=S;subst U;obtain⟨z,C,Z⟩:=g X k O H s i L M N I c st;exact(W X.A (I.ok.hd R) z C).done s _ _ Z λu tk kk=>⟨rfl,I.turnedL kk y⟩
 self:=x
noncomputable def HC(xs:List V)(i:Nat):List V:=[.int i,xs.getD i .non]
theorem Jw(r:Vals xs c)(h:∃t x,c.toArray[i]?=some x/\a=#[.int i t,x]):Vals (HC xs i) a.toList:=by
 obtain⟨t,x,e,rfl⟩:=h;have b  := by simpa using e
 have f  := (AAT.mp b).1;have k:=r.length;have g:xs[i]?=some (xs.getD i .non):=by simp_all
 obtain⟨u,d,j⟩:=r.get g;rw[b] at d;cases d;exact .cons ⟨t,rfl⟩ (.cons j .nil)
theorem QN{P:Program}{w:World}{f:Nat->Heap->Prop}(A:Around)(i:Nat)(s:Shared)(Q:Value->Shared->Prop)(E:Value->Shared->Prop)(st:(∃a,IsEnum s.heap e c i a)/\f i s.heap)(h:Q (.ref e) s):wpAny (model P w) A (pyIter (.ref e)) Q E s:=by
 obtain⟨⟨a,b⟩,_⟩:=st;exact wpAny_pyIter_enum b h
theorem UY(c:∃a,IsEnum h e d i a)(f:h.get? d=some o)(k:∃g,o.data=.fields g):∀b∈[e,d],∃o,h.get? b=some o/\∀v,o.data≠.cell v:=λb j=>by
 rcases AAI.mp j with z|z
 ·subst z;obtain⟨a,c⟩:=c;exact⟨_,c,λv q=>by cases q⟩
 ·rw[AAK.mp z];exact⟨o,f,λv q=>by simp_all⟩
theorem N4{P:Program}{w:World}{K:PySem.W.Frag}{es:List Expr}{n:Nat}{pos:Pos}(a e c:Addr)(xs:List V)(g:e≠c)(j:e≠a)(l:a≠c):
  MU P w K (.Tuple es n pos) (ItP K xs.length (HC xs) λK H=>SqL K H a xs) [e,c] e (λi h=>(∃d,IsEnum h e c i d)/\h.IsListIter c a i):=
 JB (Y:=List Value) (Sw:=λb i h=>(_)/\h.IsListIter c a i/\h.IsList a b.toArray)
  (λA t b r=>by
   have u  := r.length;rw[u];exact WalksT.enumerateD (Draws.list (show A.in1.handled=none from t) c a l b.toArray) e g (by simp[g,j]) (by simp))
  (by simp) (λb i m r h=>Jw r h) (λi=>(by show 2<=sizeLine;decide))
  (λi h st=>by obtain⟨o,v,_,x⟩:=st.2;exact UY st.1 v ⟨_,x⟩)
  (λi h C st k=>⟨by obtain⟨d,q⟩:=st.1;exact⟨d,k e (by simp) _ q⟩,st.2.at (k c (by simp))⟩)
  (λX D O H s i F G y I B st=>by
   subst y;obtain⟨b,r,p,_⟩:=I.list B;exact⟨b,r,st.1,st.2,p.isList⟩)
  (λz i h st=>⟨st.1,st.2.1⟩) (λA i s Q E st h=>QN (f:=λi h=>_) A i s Q E st h)
end L2
namespace L2
open PySem PySem.Spec PyProof.Rows
open AutoSeq1 (wpAny_loadPart')
section
variable{X:Cx}{es:List Expr}{k0:Nat}{tpos:Pos}
noncomputable def ZY(K:PySem.W.Frag)(d:TA):TI:=λO H R=>d O H λe c=>∃a b,e=[.ref a]/\SqL K c a b/\R (ItP K b.length (HC b) λK H=>SqL K H a b) c
theorem LM:bootBuiltins "enumerate" = some (.type "enumerate"):=by decide +kernel
theorem SS(I:Inv X c O H s):∀b∈[s.heap.objs.size+1,s.heap.objs.size],HN X c H b:=λb d=>by
 have a  := by simpa using d
 rcases a with e|e<;>subst e
 ·exact I.fpOk (Nat.le_succ _) (I.hok.fresh (Nat.le_succ _))
 ·exact I.fpOk (AAE _) (I.hok.fresh (AAE _))
theorem TR(i:Gl X "enumerate")(j:X.mg "enumerate" = none)(k:PA X [a] m)(r:starEach [a] X.env=[(false,eval a X.env)]:=by rfl):PI X (.Tuple es k0 tpos) (.Call (.Name "enumerate" p) [a] [] pos) (ZY X.K m):=by
 intro t s O H R I h;refine Call_ (Hf I i j LM (PyProof.Rows.callWith_type1 (thn (k pos t s O H _ I h) λF v ⟨G,w,c,x,y⟩=>?_) r rfl));obtain⟨l,z,e,A,q⟩:=y;subst e;obtain⟨u,rfl,B⟩:=Ea x;cases B;obtain⟨C,J,f,L⟩:=c.list A;have b:l<v.heap.objs.size:=by obtain⟨o,n,e,_⟩:=f;exact Heap.lt_size e
 exact call_enumerate_list f.isList λM g d D E=>wpAny_pyIter_enum g ⟨_,_,_,_,w,rfl,c.kept E,N4 l _ _ z (Nat.succ_ne_self _) (Nat.ne_of_gt (AAg b)) (AAc b),⟨⟨_,g⟩,d⟩,SS c,q⟩
end
end L2
namespace Nk
open PySem PySem.Spec PyProof.Rows
inductive NK where
 |int (i:Int)|tup (ks:List NK)
noncomputable instance:DecidableEq NK:=λ_ _=>Classical.propDecidable _
mutual
def NK.deep:NK->Nat
 | .int _=>0
 | .tup ks=>NK.deeps ks+1
def NK.deeps:List NK->Nat
 |[]=>0
 |k::ks=>max (NK.deep k) (NK.deeps ks)
end
mutual
def NK.hash:NK->Int
 | .int i=>hashInt i
 | .tup ks=>reduceHash (Builtin.Tuple.tupleHashOf (NK.hashes ks))
def NK.hashes:List NK->List Int
 |[]=>[]
 |k::ks=>NK.hash k::NK.hashes ks
end
mutual
def NK.draws:NK->Nat
 | .int _=>1
 | .tup ks=>NK.drawsL ks+1
def NK.drawsL:List NK->Nat
 |[]=>0
 |k::ks=>NK.draws k+NK.drawsL ks
end
mutual
def At(h:Heap):NK->Value->Prop
 | .int i,v=>∃t,v=.int i t
 | .tup ks,v=>∃a o items n,v=.ref a/\h.get? a=some o/\o.cls=.type "tuple" /\ o.data=.seq items n/\Ats h ks items.toList
def Ats(h:Heap):List NK->List Value->Prop
 |[],vs=>vs=[]
 |k::ks,vs=>∃v vs',vs=v::vs'/\At h k v/\Ats h ks vs'
end
mutual
theorem At.inj:∀{k j:NK} {v:Value},At h k v->At h j v->k=j
 | .int i,.int j,v,a,b=>by
  obtain⟨t,rfl⟩:=a;obtain⟨u,e⟩:=b
  simp_all
 | .int i,.tup c,v,a,b=>by
  obtain⟨t,rfl⟩:=a;obtain⟨_,_,_,_,e,_⟩:=b;cases e
 | .tup d,.int j,v,a,b=>by
  unfold At at a b;obtain⟨t,rfl⟩:=b
  simp_all
 | .tup d,.tup c,v,a,b=>by
  unfold At at a b;obtain⟨x,o,p,n,rfl,s,_,w,y⟩:=a;obtain⟨E,F,m,G,e,f,_,g,q⟩:=b;cases e;rw[s] at f;cases f;rw[w] at g;cases g;rw[Ats.inj y q]
theorem Ats.inj:∀{d c:List NK} {l:List Value},Ats h d l->Ats h c l->d=c
 |[],[],_,_,_=>rfl
 |[],_::_,l,a,b=>by
  subst a;obtain⟨_,_,e,_⟩:=b;cases e
 |_::_,[],l,a,b=>by
  subst b;obtain⟨_,_,e,_⟩:=a;cases e
 |k::d,j::c,l,a,b=>by
  obtain⟨v,z,rfl,A,B⟩:=a;obtain⟨H,r,e,C,D⟩:=b;cases e;rw[At.inj A C,Ats.inj B D]
end
mutual
theorem At.kept:∀{k:NK} {v:Value},At h k v->(∀a o b n,h.get? a=some o->o.cls=.type "tuple" -> o.data=.seq b n->f.get? a=some o)->At f k v
 | .int i,v,a,_=>a
 | .tup d,v,a,c=>by
  obtain⟨x,o,b,n,rfl,m,j,l,p⟩:=a;exact⟨x,o,b,n,rfl,c x o b n m j l,j,l,Ats.kept p c⟩
theorem Ats.kept:∀{d:List NK} {e:List Value},Ats h d e->(∀a o b n,h.get? a=some o->o.cls=.type "tuple" -> o.data=.seq b n->f.get? a=some o)->Ats f d e
 |[],e,a,_=>a
 |k::d,e,a,c=>by
  obtain⟨v,g,rfl,q,r⟩:=a;exact⟨v,g,rfl,At.kept q c,Ats.kept r c⟩
end
section
variable{prog:Program}{w:World}{A:Around}{E:Value->Shared->Prop}{s:Shared}
theorem UN(h:A.units<cLine)(g:s.heap.get? a=some o)(i:o.cls=.type "tuple")(j:o.data=.seq b n)
  (c:∀(P:Array Int->Shared->Prop),P k.toArray { s with toks:=s.toks+d }->wpAny (model prog w) A.in1 (forIn b.toList (#[]:Array Int) λx r=>do let y ←pyHash x;pure (ForInStep.yield (r.push y))) P E s)
  (q:Q (reduceHash (Builtin.Tuple.tupleHashOf k)) { s with toks:=s.toks+(d+1) }):wpAny (model prog w) A (pyHash (.ref a)) Q E s:=by
 have e:s.TypeIs (.ref a) "tuple" := ⟨o,g,i⟩;refine AAA (wpAny_cRoomFor_or (.inr h) (AAA (wpAny_specialOf e PySem.F.slot_tuple_hash.lookup (AAA (wpAny_specialOf e PySem.F.slot_tuple_hash.lookup (AAA (wpAny_callSpecialIfBoundUnlessNone?_slot e PySem.F.slot_tuple_hash (AAb PySem.F.slot_tuple_hash e PySem.F.entry_tuple_hash ?_ (PySem.F.args_tuple_hash_1 _)))))))));show wpAny _ _ (Builtin.Tuple.tupleItemsOf (.ref a) >>= _) _ _ s;refine AAA (wpAny_tupleItemsOf g j (AAA ?_));rw[←Array.forIn_toList];refine c _ (wpAny_ret_mkInt ?_);show wpAny _ _ (pyHashByItsType.reduced _) Q E _;unfold pyHashByItsType.reduced;unfold reduceHash at q;split
 ·rename_i f;rw[if_pos f] at q;exact AAB q
 ·rename_i f;rw[if_neg f] at q;exact AAA (wpAny_rule (AAB q))
mutual
theorem At.hash:∀{k:NK} {v:Value} {A:Around} {E:Value->Shared->Prop} {s:Shared} {Q:Int->Shared->Prop},A.units+k.deep<cLine->At s.heap k v->Q k.hash { s with toks:=s.toks+k.draws }->wpAny (model prog w) A (pyHash v) Q E s
 | .int i,v,A,E,s,Q,e,b,q=>by
  obtain⟨t,rfl⟩:=b;exact(intKind prog w).pyHash (by simp[intKind,Value.isInt]) q
 | .tup c,v,A,E,s,Q,e,b,q=>by
  unfold At at b;obtain⟨a,o,g,n,rfl,j,l,m,u⟩:=b;have h:A.units+(NK.deeps c+1)<cLine:=e;exact UN (by lia) j l m (λP p=>Ats.hash (by show A.units+1+NK.deeps c<cLine;lia) u (by simpa using p)) q
theorem Ats.hash:∀{c:List NK} {f:List Value} {A:Around} {E:Value->Shared->Prop} {s:Shared} {d:Array Int} {P:Array Int->Shared->Prop},A.units+NK.deeps c<cLine->Ats s.heap c f->P (d++(NK.hashes c).toArray) { s with toks:=s.toks+NK.drawsL c }->
  wpAny (model prog w) A (forIn f d λx r=>do let y ←pyHash x;pure (ForInStep.yield (r.push y))) P E s
 |[],f,A,E,s,d,P,e,b,q=>by
  subst b;exact AAB (by simpa[NK.hashes,NK.drawsL] using q)
 |k::c,f,A,E,s,d,P,e,b,q=>by
  unfold Ats at b;obtain⟨v,z,rfl,B,C⟩:=b;rw[List.forIn_cons];have h:A.units+max (NK.deep k) (NK.deeps c)<cLine:=e;refine AAA (AAA (At.hash (by lia) B (AAB (Ats.hash (by lia) C ?_))));simpa[NK.hashes,NK.drawsL,Nat.add_assoc] using q
end
end
end Nk
namespace Nk
open PySem PySem.Spec PyProof.Rows PySem.MeetsSeq PySem.SeqAt
theorem Ats.len:∀{ks:List NK} {b:List Value},Ats h ks b->b.length=ks.length
 |[],_,a=>by subst a;rfl
 |k::ks,_,a=>by
  obtain⟨v,c,rfl,_,d⟩:=a;simp[Ats.len d]
noncomputable def Jf(ks js:List NK)(j:Nat):Bool:=decide (ks[j]?=js[j]?)
theorem RD:((List.range (min ks.length js.length)).all (Jf ks js)&&ks.length==js.length)=decide (NK.tup ks=NK.tup js):=by
 by_cases e:ks=js
 ·subst e;rw[AAO rfl,beq_self_eq_true,Bool.and_true,List.all_eq_true];intro j _;exact AAO rfl
 ·rw[AAN λz=>e (NK.tup.inj z)];by_cases a:ks.length=js.length
  ·rw[beq_iff_eq.mpr a,Bool.and_true,←Bool.not_eq_true];intro z;rw[List.all_eq_true] at z;refine e (List.ext_getElem? λj=>?_);by_cases b:j<ks.length
   ·exact of_decide_eq_true (z j (by grind))
   grind
  ·rw[AAd.mpr a,Bool.and_false]
mutual
theorem At.eq:∀{k j:NK} {u v:Value} {A:Around} {s:Shared},A.units+k.deep<cLine->At s.heap k u->At s.heap j v->EqAt A s u v (decide (k=j))
 | .int i,.int j,u,v,A,s,h,a,b=>by
  unfold At at a b;obtain⟨t,rfl⟩:=a;obtain⟨J,rfl⟩:=b;have:decide (NK.int i=NK.int j)=(i==j):=by
   by_cases e:i=j
   ·subst e;simp
   ·rw[AAN (λz=>e (NK.int.inj z)),AAd.mpr e]
  rw[this];exact EqAt.int_int i t j J
 | .int i,.tup m,u,v,A,s,h,a,b=>by
  unfold At at a b;obtain⟨t,rfl⟩:=a;obtain⟨x,o,d,n,rfl,f,g,r,_⟩:=b;rw[AAN (by intro z;cases z)];exact EqAt.int_tuple i t ⟨o,f,g,n,r⟩ (Nat.lt_of_le_of_lt (Nat.le_add_right _ _) h)
 | .tup c,.int j,u,v,A,s,h,a,b=>by
  unfold At at a b;obtain⟨t,rfl⟩:=b;obtain⟨x,o,d,n,rfl,f,g,r,_⟩:=a;rw[AAN (by intro z;cases z)];exact EqAt.tuple_int j t ⟨o,f,g,n,r⟩ (Nat.lt_of_le_of_lt (Nat.le_add_right _ _) h)
 | .tup c,.tup m,u,v,A,s,h,a,b=>by
  have L:=a;have M:=b;unfold At at a b;obtain⟨x,o,d,n,rfl,f,g,r,G⟩:=a;obtain⟨y,N,B,O,rfl,C,D,E,w⟩:=b;have F:A.units+(NK.deeps c+1)<cLine:=h;by_cases e:x=y
  ·subst e;rw[At.inj L M,AAO rfl];exact EqAt.same _
  ·rw[←RD];have H:=G.len;have I:=w.len;rw[Array.length_toList] at H I;rw[←H,←I];refine EqAt.of_refs e (RcAt.tuples ⟨o,f,g,n,r⟩ ⟨N,C,D,O,E⟩ (by lia) λj P Q=>?_);have:=Ats.eqs (A:=A.in1) (by show A.units+1+NK.deeps c<cLine;lia) G w j (by simpa using P) (by simpa using Q);simpa using this
theorem Ats.eqs:∀{c m:List NK} {p q:List Value} {A:Around} {s:Shared},A.units+NK.deeps c<cLine->Ats s.heap c p->Ats s.heap m q->∀(j:Nat) (f:j<p.length) (g:j<q.length),EqAt A s p[j] q[j] (Jf c m j)
 |[],m,p,q,A,s,h,a,b,j,f,g=>by unfold Ats at a;subst a;simp at f
 |k::c,[],p,q,A,s,h,a,b,j,f,g=>by unfold Ats at b;subst b;simp at g
 |k::c,l::m,p,q,A,s,h,a,b,j,f,g=>by
  unfold Ats at a b;obtain⟨u,R,rfl,S,T⟩:=a;obtain⟨v,U,rfl,V,W⟩:=b;have F:A.units+max (NK.deep k) (NK.deeps c)<cLine:=h;cases j with
  |zero=>
   have:=At.eq (k:=k) (j:=l) (A:=A) (by lia) S V;have e:Jf (k::c) (l::m) 0=decide (k=l):=by unfold Jf;simp
   rw[e];exact this
  |succ j=>
   have:=Ats.eqs (A:=A) (by lia) T W j (by simpa using f) (by simpa using g);have e:Jf (k::c) (l::m) (j+1)=Jf c m j:=by unfold Jf;simp
   rw[e];simpa using this
end
section
variable{prog:Program}{w:World}
theorem At.quiet:∀(d:Nat) {k:NK} {v:Value} {A:Around} {E:Value->Shared->Prop} {s:Shared} {Q:Bool->Shared->Prop},k.deep<=d->At s.heap k v->Q true s->wpAny (model prog w) A (eqIsQuiet d v) Q E s
 |d,.int i,v,A,E,s,Q,g,a,q=>by
  obtain⟨t,rfl⟩:=a;unfold eqIsQuiet;exact AAB q
 |0,.tup h,v,A,E,s,Q,g,a,q=>by
  have l:NK.deeps h+1<=0:=g;lia
 |j+1,.tup h,v,A,E,s,Q,g,a,q=>by
  have l:NK.deeps h+1<=j+1:=g;obtain⟨x,o,m,n,rfl,u,C,D,F⟩:=a;have z:s.TypeIs (.ref x) "tuple" := ⟨o,u,C⟩;unfold eqIsQuiet;refine AAA (wpAny_specialOf z PySem.F.slot_tuple_eq.lookup (AAA (wpAny_isInstance z isSubtype_tuple_tuple (AAA (wpAny_seqItems u D (AAA ?_))))));rw[←Array.forIn_toList];refine wpAny_forIn_list _ (λc r p=>r.1=none/\p=s/\∃b,NK.deeps b<=j/\Ats s.heap b c) _ ?_ ?_ _ _ ⟨rfl,rfl,h,by lia,F⟩
  ·rintro y c r p ⟨B,rfl,b,G,f⟩;cases b with
   |nil=>cases f
   |cons H b=>
    obtain⟨_,_,e,I,J⟩:=f;cases e;have L:max (NK.deep H) (NK.deeps b)<=j:=G;exact AAA (At.quiet j (by lia) I (AAB ⟨rfl,rfl,b,by lia,J⟩))
  ·rintro⟨M,N⟩ p ⟨B,rfl,_⟩;subst B;exact AAB q
noncomputable def kind(prog:Program)(w:World):HeapKind prog w NK where
 is:=λh k a=>At h k (.ref a)/\k.deep<=8
 hash:=NK.hash
 draws:=NK.draws
 room:=λA=>A.units+8<cLine
 inj:=λhx hy=>hx.1.inj hy.1
 keeps:=λ{h h' k a d o t u} x l m hs=>⟨x.1.kept λb o' c n e _ g=>by
  have f:b≠d:=by
   intro z;subst z;rw[l] at e;cases e;rw[m] at g;cases g
  exact(hs.2 b f).trans e,x.2⟩
 pyHash:=λp hk h=>At.hash (by have:=hk.2;lia) hk.1 h
 eqBool:=λ{A E s x y a b Q} p hx hy h=>At.eq (by have:=hx.2;lia) hx.1 hy.1 _ _ E Q h
 quiet:=λhk h=>At.quiet 8 hk.2 hk.1 h
end
noncomputable abbrev Cs:=Int×Int×List Int
noncomputable def csK(c:Cs):NK:=.tup [.int c.1,.int c.2.1,.tup (c.2.2.map NK.int)]
open L2 in
noncomputable def Ca(p:Addr)(l:List (Cs×Addr×V)):HO:=.ext λh=>∃(a:List Value) (o:Obj) (b:Array DictEntry) (c:Nat),Vals (l.map (·.2.2)) a/\h.get? p=some o/\o.ExactDict/\o.data=.dict b c /\
 b.toList=(l.zip a).map (λx=>{ key:=.ref x.1.2.1,hash:=(csK x.1.1).hash,val:=x.2 })/\(l.map (·.1)).Nodup/\l.length<=sizeLine/\(p==sysModules)=false/\c=l.length
end Nk
namespace Mi
open PySem L2 Nk
inductive D where
 |non|bl (b:Bool)|int (i:Int)|str (x:Str)|ty (n:String)|scr (ns:List Int)|tup (xs:List D)|lst (xs:List D)|ref (n:Nat)
mutual
def MP:D->D->Bool
 | .non,.non=>true
 | .bl a,.bl b=>a==b
 | .int a,.int b=>a==b
 | .str a,.str b=>a==b
 | .ty a,.ty b=>a==b
 | .scr a,.scr b=>a==b
 | .tup a,.tup b=>O5 a b
 | .lst a,.lst b=>O5 a b
 | .ref a,.ref b=>a==b
 |_,_=>false
def O5:List D->List D->Bool
 |[],[]=>true
 |a::as,b::bs=>MP a b&&O5 as bs
 |_,_=>false
end
mutual
theorem Qf:∀{a b:D},MP a b=true->a=b
 | .tup a,.tup b,h=>by rw[MN h]
 | .lst a,.lst b,h=>by rw[MN h]
 | .non,b,h=>by cases b<;>first|rfl|cases h
 | .bl a,b,h=>by cases b<;>first|(rw[eq_of_beq h])|cases h
 | .int a,b,h=>by cases b<;>first|(unfold MP at h;rw[eq_of_beq h])|cases h
 | .str a,b,h=>by cases b<;>first|(unfold MP at h;rw[eq_of_beq h])|cases h
 | .ty a,b,h=>by cases b<;>first|(unfold MP at h;rw[eq_of_beq h])|cases h
 | .scr a,b,h=>by cases b<;>first|(unfold MP at h;rw[eq_of_beq h])|cases h
 | .ref a,b,h=>by cases b<;>first|(unfold MP at h;rw[eq_of_beq h])|cases h
theorem MN:∀{a b:List D},O5 a b=true->a=b
 |[],[],_=>rfl
 |a::c,b::d,h=>by
  unfold O5 at h;rw[Bool.and_eq_true] at h;rw[Qf h.1,MN h.2]
end
mutual
theorem LR:∀a:D,MP a a=true
 | .tup a=>Hy a
 | .lst a=>Hy a
 | .non=>rfl
 | .bl a=>beq_self_eq_true a
 | .int a=>beq_self_eq_true a
 | .str a=>beq_self_eq_true a
 | .ty a=>beq_self_eq_true a
 | .scr a=>beq_self_eq_true a
 | .ref a=>beq_self_eq_true a
theorem Hy:∀a ,O5 a a=true
 |[]=>rfl
 |a::b=>by unfold O5;rw[LR a,Hy b];rfl
end
instance:DecidableEq D:=λa b=>if h:MP a b=true then .isTrue (Qf h) else .isFalse λe=>h (by rw[e];exact LR b)
inductive MO where
 |lst (xs:List D)|dK (kvs:List (Key×D))|dC (kvs:List (Cs×D))|ins (c:Str) (fs:List (Str×D))|dP (kvs:List (D×D))|exc (c:Str) (n:Option Nat)
abbrev Mh:=List MO
set_option genInjectivity false in
structure KW where
 fr:PySem.W.Frag
 w:World
instance:CoeOut KW PySem.W.Frag:=⟨KW.fr⟩
abbrev _root_.L2.Cx.kw(X:Cx):KW:=⟨X.K,X.w⟩
noncomputable abbrev M(α:Type):=Mh->Option (α×Mh)
noncomputable abbrev Sl:=List (Option D)
noncomputable def ret{α:Type}(a:α):M α:=λZ=>some (a,Z)
noncomputable def bnd{α b:Type}(m:M α)(f:α->M b):M b:=λZ=>match m Z with
 |some (a,c)=>f a c
 |none=>none
noncomputable def Bj{α:Type}:M α:=λ_=>none
theorem AI(h:bnd m f Z=some r):∃a w5,m Z=some (a,w5)/\f a w5=some r:=by
 unfold bnd at h;cases e:m Z with
 |none=>simp_all
 |some p=>obtain⟨a,w5⟩:=p;rw[e] at h;exact⟨a,w5,rfl,h⟩
@[simp] theorem b7(a:α)(f:α->M b):bnd (ret a) f=f a:=rfl
theorem AM(h:m Z=some (a,w5)):bnd m f Z=f a w5:=by unfold bnd;rw[h]
def ScrAt(K:PySem.W.Frag)(H:Hp)(a:Addr)(xs:List V):Prop:=
 (∃o,H a=some (.frz o (.lst xs)))∨∃(o:Obj) (b:Array Value) (n:Nat),K.lookup a=some o/\o.cls=.type "list" /\ o.dict=none/\o.data=.seq b n/\b.size<=sizeLine/\Vals xs b.toList
theorem ScrAt.sq(h:ScrAt K H a xs):SqL K H a xs:=h.elim (λz=>.inl (.inr z)) .inr
mutual
def Is(K:KW)(Y:Nat->Addr)(k:Nat)(H:Hp):D->V->Prop
 | .non,v=>v=.non
 | .bl b,v=>v=.bl b
 | .int i,v=>v=.int i
 | .str x,v=>v=.str x
 | .ty n,v=>v=.ty n
 | .scr ns,v=>∃p,v=.ref p/\ScrAt K H p (ns.map V.int)
 | .tup ds,v=>∃p vs,v=.ref p/\SqT K H p vs/\IsL K Y k H ds vs
 | .lst ds,v=>∃p vs,v=.ref p/\H p=some (.lst vs)/\(∀n,n<k->Y n≠p)/\IsL K Y k H ds vs
 | .ref n,v=>n<k/\v=.ref (Y n)
def IsL(K:KW)(Y:Nat->Addr)(k:Nat)(H:Hp):List D->List V->Prop
 |[],vs=>vs=[]
 |d::ds,vs=>∃v vs',vs=v::vs'/\Is K Y k H d v/\IsL K Y k H ds vs'
end
section
variable{K:KW}{Y Y' w9:Nat->Addr}{k k' k2:Nat}{H H' H2:Hp}
theorem IsL.length:∀{ds:List D} {a:List V},IsL K Y k H ds a->a.length=ds.length
 |[],_,h=>by subst h;rfl
 |_::_,_,h=>by
  obtain⟨v,b,rfl,_,h⟩:=h;simp only[AAH,IsL.length h]
theorem IsL.get:∀{ds:List D} {b:List V} {i:Nat} {d:D},IsL K Y k H ds b->ds[i]?=some d->∃v,b[i]?=some v/\Is K Y k H d v
 |[],_,_,_,_,e=>by simp at e
 |_::_,_,0,_,h,e=>by
  obtain⟨v,a,rfl,c,_⟩:=h;simp at e;subst e;exact⟨v,rfl,c⟩
 |_::_,_,i+1,d,h,e=>by
  obtain⟨v,a,rfl,_,h⟩:=h;obtain⟨u,g,f⟩:=IsL.get h (by trivial);exact⟨u,by trivial,f⟩
theorem IsL.append:∀{ds es:List D} {a b:List V},IsL K Y k H ds a->IsL K Y k H es b->IsL K Y k H (ds++es) (a++b)
 |[],_,_,_,h,q=>by subst h;exact q
 |_::_,_,_,_,h,q=>by
  obtain⟨v,c,rfl,d,h⟩:=h;exact⟨v,_,rfl,d,IsL.append h q⟩
theorem IsL.take:∀(n:Nat) {ds:List D} {a:List V},IsL K Y k H ds a->IsL K Y k H (ds.take n) (a.take n)
 |0,ds,a,_=>by trivial
 |n+1,[],_,h=>by subst h;rfl
 |n+1,_::_,_,h=>by
  obtain⟨v,b,rfl,c,h⟩:=h;exact⟨v,_,rfl,c,IsL.take n h⟩
theorem IsL.drop:∀(n:Nat) {ds:List D} {a:List V},IsL K Y k H ds a->IsL K Y k H (ds.drop n) (a.drop n)
 |0,_,_,h=>h
 |n+1,[],_,h=>by subst h;rfl
 |n+1,_::_,_,h=>by
  obtain⟨v,b,rfl,c,h⟩:=h;exact IsL.drop n h
theorem IsL.cons(h:Is K Y k H d v)(t:IsL K Y k H ds a):IsL K Y k H (d::ds) (v::a):=⟨v,a,rfl,h,t⟩
theorem IsL.nil:IsL K Y k H [] []:=by unfold IsL;rfl
theorem IsL.one(h:Is K Y k H d v):IsL K Y k H [d] [v]:=.cons h .nil
theorem IsL.set(b:Is K Y k H d v):∀{ds:List D} {c:List V} (i:Nat),IsL K Y k H ds c->IsL K Y k H (ds.set i d) (c.set i v)
 |[],_,_,h=>by subst h;exact .nil
 |_::_,_,0,h=>by
  obtain⟨v,a,rfl,_,h⟩:=h;exact .cons b h
 |_::_,_,i+1,h=>by
  obtain⟨v,a,rfl,e,h⟩:=h;exact .cons e (IsL.set b i h)
theorem IsL.ints:∀{ns:List Int} {a:List V},IsL K Y k H (ns.map D.int) a->a=ns.map V.int
 |[],_,h=>h
 |_::_,_,h=>by
  obtain⟨v,b,rfl,c,h⟩:=h;rw[c,IsL.ints h];rfl
theorem IsL.ofInts:∀(ns:List Int),IsL K Y k H (ns.map D.int) (ns.map V.int)
 |[]=>.nil
 |n::r=>.cons (by trivial) (IsL.ofInts r)
noncomputable def UF:HO->Bool
 | .lst _=>true
 | .dK _=>true
 | .ext _=>true
 | .ins _ _ _=>true
 |_=>false
def Muts(Y:Nat->Addr)(k:Nat)(H:Hp):Prop:=∀n,n<k->∃o,H (Y n)=some o/\UF o=true
structure Ext(Y:Nat->Addr)(k:Nat)(H:Hp)(Y':Nat->Addr)(k':Nat)(H':Hp):Prop where
 le:k<=k'
 agree:∀n,n<k->Y' n=Y n
 fresh:∀n,k<=n->n<k'->H (Y' n)=none
 keep:∀p o,H p=some o->(∀n,n<k->Y n≠p)->H' p=some o
 was:Muts Y k H
 there:Muts Y k H'
theorem Ext.refl(h:Muts Y k H):Ext Y k H Y k H:=⟨AAE _,λ_ _=>rfl,λn a b=>absurd a (by lia),λ_ _ e _=>e,h,h⟩
theorem Ext.trans(a:Ext Y k H Y' k' H')(b:Ext Y' k' H' w9 k2 H2):Ext Y k H w9 k2 H2 where
 le:=AAq a.le b.le
 agree:=λn h=>(b.agree n (AAM h a.le)).trans (a.agree n h)
 fresh:=λn l r=>by
  rcases Nat.lt_or_ge n k' with z|z
  ·rw[b.agree n z];exact a.fresh n l z
  ·have q:=b.fresh n z r;cases e:H (w9 n) with
   |none=>rfl
   |some o=>
    by_cases g:∃m,m<k/\Y m=w9 n
    ·obtain⟨m,d,c⟩:=g;obtain⟨s,i,_⟩:=a.there m d;rw[c,q] at i;cases i
    ·have:=a.keep _ o e λm d c=>g ⟨m,d,c⟩;rw[q] at this;cases this
 keep:=λp o e j=>b.keep p o (a.keep p o e j) λn f c=>by
  rcases Nat.lt_or_ge n k with z|z
  ·rw[a.agree n z] at c;exact j n z c
  ·have:=a.fresh n z f;rw[c,e] at this;cases this
 was:=a.was
 there:=λn h=>by
  have:=b.there n (AAM h a.le);rw[a.agree n h] at this;exact this
theorem Ext.out(a:Ext Y k H Y' k' H')(e:H p=some o)(hn:∀n,n<k->Y n≠p):∀n,n<k'->Y' n≠p:=λn h b=>by
 rcases Nat.lt_or_ge n k with z|z
 ·rw[a.agree n z] at b;exact hn n z b
 ·have:=a.fresh n z h
  simp_all
theorem Muts.ne(a:Muts Y k H)(e:H p=some o)(c:UF o=false):∀n,n<k->Y n≠p:=λn b d=>by
 obtain⟨f,q,h⟩:=a n b
 grind
theorem Lj(a:Ext Y k H Y' k' H')(h:SqT K H p b):SqT K H' p b:=by
 rcases h with h|h
 ·rcases h with h|⟨o,h⟩
  ·exact .inl (.inl (a.keep p _ h (a.was.ne h rfl)))
  ·exact .inl (.inr ⟨o,a.keep p _ h (a.was.ne h rfl)⟩)
 ·exact .inr h
theorem Ln(a:Ext Y k H Y' k' H')(h:ScrAt K H p b):ScrAt K H' p b:=by
 rcases h with ⟨o,h⟩|h
 ·exact .inl ⟨o,a.keep p _ h (a.was.ne h rfl)⟩
 ·exact .inr h
mutual
theorem Is.ext(a:Ext Y k H Y' k' H'):∀{d:D} {v:V},Is K Y k H d v->Is K Y' k' H' d v
 | .non,_,h=>h
 | .bl _,_,h=>h
 | .int _,_,h=>h
 | .str _,_,h=>h
 | .ty _,_,h=>h
 | .scr j,_,h=>by
  obtain⟨p,rfl,h⟩:=h;exact⟨p,rfl,Ln a h⟩
 | .tup f,_,h=>by
  obtain⟨p,b,rfl,c,e⟩:=h;exact⟨p,b,rfl,Lj a c,IsL.ext a e⟩
 | .lst f,_,h=>by
  obtain⟨p,b,rfl,c,i,e⟩:=h;exact⟨p,b,rfl,a.keep p _ c i,a.out c i,IsL.ext a e⟩
 | .ref n,_,h=>by
  obtain⟨h,rfl⟩:=h;exact⟨AAM h a.le,by rw[a.agree n h]⟩
theorem IsL.ext(a:Ext Y k H Y' k' H'):∀{f:List D} {b:List V},IsL K Y k H f b->IsL K Y' k' H' f b
 |[],_,h=>h
 |_::_,_,h=>by
  obtain⟨v,g,rfl,c,e⟩:=h;exact⟨v,g,rfl,Is.ext a c,IsL.ext a e⟩
end
noncomputable def KVs(K:KW)(Y:Nat->Addr)(k:Nat)(H:Hp):List (Key×D)->List (Key×V)->Prop
 |[],r=>r=[]
 |(y,d)::l,r=>∃v a,r=(y,v)::a/\Is K Y k H d v/\KVs K Y k H l a
theorem KVs.ext(a:Ext Y k H Y' k' H'):∀{l:List (Key×D)} {r:List (Key×V)},KVs K Y k H l r->KVs K Y' k' H' l r
 |[],_,h=>h
 |(_,_)::_,_,h=>by
  obtain⟨v,b,rfl,c,d⟩:=h;exact⟨v,b,rfl,c.ext a,d.ext a⟩
noncomputable def csD(c:Cs):D:=.tup [.int c.1,.int c.2.1,.tup (c.2.2.map D.int)]
noncomputable def CVs(K:KW)(Y:Nat->Addr)(k:Nat)(H:Hp):List (Cs×D)->List (Cs×Addr×V)->Prop
 |[],r=>r=[]
 |(y,d)::l,r=>∃a v b,r=(y,a,v)::b/\Is K Y k H (csD y) (.ref a)/\Is K Y k H d v/\CVs K Y k H l b
theorem CVs.ext(a:Ext Y k H Y' k' H'):∀{l:List (Cs×D)} {r:List (Cs×Addr×V)},CVs K Y k H l r->CVs K Y' k' H' l r
 |[],_,h=>h
 |(_,_)::_,_,h=>by
  obtain⟨b,v,c,rfl,d,e,f⟩:=h;exact⟨b,v,c,rfl,d.ext a,e.ext a,f.ext a⟩
noncomputable def FVs(K:KW)(Y:Nat->Addr)(k:Nat)(H:Hp):List (Str×D)->List (Str×V)->Prop
 |[],r=>r=[]
 |(y,d)::l,r=>∃v a,r=(y,v)::a/\Is K Y k H d v/\FVs K Y k H l a
theorem FVs.ext(a:Ext Y k H Y' k' H'):∀{l:List (Str×D)} {r:List (Str×V)},FVs K Y k H l r->FVs K Y' k' H' l r
 |[],_,h=>h
 |(_,_)::_,_,h=>by
  obtain⟨v,b,rfl,c,d⟩:=h;exact⟨v,b,rfl,c.ext a,d.ext a⟩
mutual
def hD(w:World):D->Int
 | .int i=>hashInt i
 | .str x=>hashStr w x
 | .tup ks=>reduceHash (Builtin.Tuple.tupleHashOf (hDs w ks))
 |_=>0xFCA86420
def hDs(w:World):List D->List Int
 |[]=>[]
 |k::ks=>hD w k::hDs w ks
end
noncomputable def ba(w:World)(p:Addr)(l:List (D×Addr×V)):HO:=.ext λh=>∃(a:List Value) (o:Obj) (b:Array DictEntry) (c:Nat),Vals (l.map (·.2.2)) a/\h.get? p=some o/\o.ExactDict/\o.data=.dict b c /\
 b.toList=(l.zip a).map (λx=>{ key:=.ref x.1.2.1,hash:=hD w x.1.1,val:=x.2 })/\(l.map (·.1)).Nodup/\l.length<=sizeLine/\(p==sysModules)=false
mutual
def Kz:D->Bool
 | .non=>true
 | .int _=>true
 | .str _=>true
 | .tup ds=>KzL ds
 |_=>false
def KzL:List D->Bool
 |[]=>true
 |d::ds=>Kz d&&KzL ds
end
mutual
def deep:D->Nat
 | .tup ks=>deeps ks+1
 |_=>0
def deeps:List D->Nat
 |[]=>0
 |k::ks=>max (deep k) (deeps ks)
end
noncomputable def PVs(K:KW)(Y:Nat->Addr)(k:Nat)(H:Hp):List (D×D)->List (D×Addr×V)->Prop
 |[],r=>r=[]
 |(y,d)::l,r=>∃a v b,r=(y,a,v)::b/\(Kz y=true/\deep y<=8/\Is K Y k H y (.ref a))/\Is K Y k H d v/\PVs K Y k H l b
theorem PVs.ext(a:Ext Y k H Y' k' H'):∀{l:List (D×D)} {r:List (D×Addr×V)},PVs K Y k H l r->PVs K Y' k' H' l r
 |[],_,h=>h
 |(_,_)::_,_,h=>by
  obtain⟨b,v,c,rfl,h1,d,e⟩:=h;exact⟨b,v,c,rfl,⟨h1.1,h1.2.1,h1.2.2.ext a⟩,d.ext a,e.ext a⟩
def X4(K:PySem.W.Frag)(c:Str)(C:Addr):Prop:=PySem.W.nsIn K mainGlobals c=some (some (.ref C))
noncomputable def cn(p C:Addr)(b:Option Addr):HO:=.ext λh=>∃a c,h.get? p=some a/\a.cls=.ref C/\a.dict=b/\a.data=.fields c
def dD(H:Hp)(n:Option Nat)(a:Option Addr):Prop:=match n with
 |none=>a=none
 |some i=>∃d,a=some d/\H d=some (.xd [("at",.int (i:Int))])
noncomputable def ObjIs(K:KW)(Y:Nat->Addr)(k:Nat)(H:Hp)(p:Addr):MO->HO->Prop
 | .lst d,o=>∃b,o=.lst b/\IsL K Y k H d b
 | .dK l,o=>∃r,o=.dK r/\KVs K Y k H l r
 | .dC l,o=>∃r,o=Ca p r/\CVs K Y k H l r
 | .ins c l,o=>∃C a r,o=.ins C a r/\X4 K c C/\H a=some (.own p)/\FVs K Y k H l r
 | .dP l,o=>∃r,o=ba K.w p r/\PVs K Y k H l r
 | .exc c n,o=>∃C a,o=cn p C a/\X4 K c C/\dD H n a
structure RelH(K:KW)(Y:Nat->Addr)(Z:Mh)(H:Hp):Prop where
 inj:∀i j,i<Z.length->j<Z.length->Y i=Y j->i=j
 obj:∀n o,Z[n]?=some o->∃u,H (Y n)=some u/\ObjIs K Y Z.length H (Y n) o u
theorem ObjIs.mut(h:ObjIs K Y k H p o u):UF u=true:=by
 cases o with
 |lst b=>obtain⟨d,rfl,_⟩:=h;rfl
 |dK l=>obtain⟨r,rfl,_⟩:=h;rfl
 |dC l=>obtain⟨r,rfl,_⟩:=h;rfl
 |ins c l=>obtain⟨C,a,r,rfl,_⟩:=h;rfl
 |dP l=>obtain⟨r,rfl,_⟩:=h;rfl
 |exc c n=>obtain⟨C,a,rfl,_⟩:=h;rfl
theorem ObjIs.ext(a:Ext Y k H Y' k' H')(h:ObjIs K Y k H p o u):ObjIs K Y' k' H' p o u:=by
 cases o with
 |lst m=>obtain⟨j,rfl,h⟩:=h;exact⟨j,rfl,h.ext a⟩
 |dK l=>obtain⟨r,rfl,h⟩:=h;exact⟨r,rfl,h.ext a⟩
 |dC l=>obtain⟨r,rfl,h⟩:=h;exact⟨r,rfl,h.ext a⟩
 |ins c l=>obtain⟨C,f,r,rfl,g,b,h⟩:=h;exact⟨C,f,r,rfl,g,a.keep f _ b (a.was.ne b rfl),h.ext a⟩
 |dP l=>obtain⟨r,rfl,h⟩:=h;exact⟨r,rfl,h.ext a⟩
 |exc c n=>
  obtain⟨C,f,rfl,g,b⟩:=h;refine⟨C,f,rfl,g,?_⟩;cases n with
  |none=>exact b
  |some i=>
   obtain⟨d,e,q⟩:=b;exact⟨d,e,a.keep d _ q (a.was.ne q rfl)⟩
theorem RelH.muts(r:RelH K Y Z H):Muts Y Z.length H:=λn a=>by
 obtain⟨u,e,h⟩:=r.obj n Z[n] (by simp[a]);exact⟨u,e,h.mut⟩
theorem RelH.ext0(r:RelH K Y Z H):Ext Y Z.length H Y Z.length H:=Ext.refl r.muts
theorem RelH.laid(r:RelH K Y Z H)(o:HO)(c:H p=none):Ext Y Z.length H Y Z.length (upd H p o)/\RelH K Y Z (upd H p o):=by
 have b:∀q u,H q=some u->upd H p o q=some u:=λq u e=>by rw[upd_ne (C5 e c)];exact e
 have a:Ext Y Z.length H Y Z.length (upd H p o):=⟨AAE _,λ_ _=>rfl,λn d j=>absurd d (by lia),λq u e _=>b q u e,r.muts,λn f=>by
  obtain⟨u,e,h⟩:=r.muts n f;exact⟨u,b _ _ e,h⟩⟩
 refine⟨a,r.inj,λn g e=>?_⟩;obtain⟨u,i,h⟩:=r.obj n g e;exact⟨u,b _ _ i,h.ext a⟩
theorem RelH.grown(r:RelH K Y Z H)(v:H p=none)(h:ObjIs K Y Z.length H p m o):
  ∃Y',Ext Y Z.length H Y' (Z++[m]).length (upd H p o)/\RelH K Y' (Z++[m]) (upd H p o)/\Y' Z.length=p:=by
 have s:∀q u,H q=some u->upd H p o q=some u:=λq u e=>by rw[upd_ne (C5 e v)];exact e
 let Y'  := λn=>if n=Z.length then p else Y n
 have b:Y' Z.length=p:=if_pos rfl;have c:∀n,n<Z.length->Y' n=Y n:=λn f=>if_neg (by lia);have a:Ext Y Z.length H Y' (Z++[m]).length (upd H p o):=⟨by simp,c,λn A B=>by grind,λq u e _=>s q u e,r.muts,λn f=>by
  obtain⟨u,e,h⟩:=r.muts n f;exact⟨u,s _ _ e,h⟩⟩
 refine⟨Y',a,⟨λi j t w e=>?_,λn x e=>?_⟩,b⟩
 ·simp at t w;have d:∀i,i<Z.length->Y' i≠p:=λi t e=>by
   obtain⟨u,q,_⟩:=r.muts i t
   simp_all
  rcases Nat.lt_or_ge i Z.length with g|g<;>rcases Nat.lt_or_ge j Z.length with l|l
  ·rw[c i g,c j l] at e;exact r.inj i j g l e
  ·have:j=Z.length:=by lia
   subst this;rw[b] at e;exact absurd e (d i g)
  ·have:i=Z.length:=by lia
   subst this;rw[b] at e;exact absurd e.symm (d j l)
  ·lia
 ·rcases Nat.lt_or_ge n Z.length with z|z
  ·rw[AAS z] at e;obtain⟨u,q,y⟩:=r.obj n x e;exact⟨u,by rw[c n z];exact s _ _ q,by rw[c n z];exact y.ext a⟩
  ·have f:n=Z.length:=by
    have:=(AAT.mp e).1;simp at this;lia
   subst f;rw[AAR (AAE _)] at e;simp at e;subst e;exact⟨o,by rw[b,Br],by rw[b];exact h.ext a⟩
theorem RelH.changed(r:RelH K Y Z H)(hn:n<Z.length)(h:ObjIs K Y Z.length H (Y n) m o):
  Ext Y Z.length H Y (Z.set n m).length (upd H (Y n) o)/\RelH K Y (Z.set n m) (upd H (Y n) o):=by
 have f:∀i,i<Z.length->i≠n->Y i≠Y n:=λi b c e=>c (r.inj i n b hn e);have a:Ext Y Z.length H Y (Z.set n m).length (upd H (Y n) o):=⟨by simp,λ_ _=>rfl,λi t g=>by simp at g;lia,λq u e d=>by rw[upd_ne λz=>d n hn z.symm];exact e,r.muts,λi b=>by
  by_cases z:i=n
  ·subst z;exact⟨o,Br,h.mut⟩
  ·obtain⟨u,e,l⟩:=r.muts i b;exact⟨u,by rw[upd_ne (f i b z)];exact e,l⟩⟩
 refine⟨a,λi j b p=>r.inj i j (by simpa using b) (by simpa using p),λi s e=>?_⟩;by_cases z:i=n
 ·subst z;rw[List.getElem?_set_self hn] at e;cases e;exact⟨o,Br,h.ext a⟩
 ·rw[AAm (Ne.symm z)] at e;have b  := (AAT.mp e).1;obtain⟨u,q,d⟩:=r.obj i s e;exact⟨u,by rw[upd_ne (f i b z)];exact q,d.ext a⟩
structure RelS(K:KW)(Y:Nat->Addr)(k:Nat)(H:Hp)(B:Sl)(O:St):Prop where
 len:O.length=B.length
 get:∀(i:Nat) (d:D),B[i]?=some (some d)->∃v,O[i]?=some (some v)/\Is K Y k H d v
theorem RelS.ext(a:Ext Y k H Y' k' H')(r:RelS K Y k H B O):RelS K Y' k' H' B O:=⟨r.len,λi d e=>by
 obtain⟨v,b,h⟩:=r.get i d e;exact⟨v,b,h.ext a⟩⟩
theorem RelS.set(r:RelS K Y k H B O)(i:Nat)(h:Is K Y k H d v):RelS K Y k H (B.set i (some d)) (O.set i (some v)):=⟨by simp[r.len],λj e q=>by
 by_cases z:i=j
 ·subst z;have a  := by
   have:=(AAT.mp q).1;simpa using this
  rw[List.getElem?_set_self a] at q;cases q;exact⟨v,List.getElem?_set_self (by rw[r.len];exact a),h⟩
 ·rw[AAm z] at q;obtain⟨u,b,c⟩:=r.get j e q;exact⟨u,by rw[AAm z];exact b,c⟩⟩
end
end Mi
namespace Mi
open PySem L2
noncomputable abbrev Exn:=Str×Option Nat
inductive Fl where
 |next|brk|cont|rt (d:D)|xc (x:Exn)
abbrev Aft(K:KW)(Y:Nat->Addr)(Z:Mh)(H:Hp)(Z':Mh)(φ:(Nat->Addr)->Hp->Prop):Prop:=
 ∀a b,Ext Y Z.length H a Z'.length b->RelH K a Z' b->φ a b
noncomputable def tE(K:KW)(m:Sl->M D):TE:=λO H Q=>∃Y Z B d a,RelH K Y Z H/\RelS K Y Z.length H B O/\m B Z=some (d,a) /\
 Aft K Y Z H a λc b=>∀v,Is K c a.length b d v->Q v b
noncomputable def tT(K:KW)(m:Sl->M Bool):TT:=λO H Q=>∃Y Z B b a,RelH K Y Z H/\RelS K Y Z.length H B O/\m B Z=some (b,a) /\
 Aft K Y Z H a λ_ c=>Q b c
noncomputable def tL(K:KW)(m:Sl->M (List D)):TA:=λO H Q=>∃Y Z B b a,RelH K Y Z H/\RelS K Y Z.length H B O/\m B Z=some (b,a) /\
 Aft K Y Z H a λe c=>∀d,IsL K e a.length c b d->Q d c
noncomputable def FlP(K:KW)(a:U8)(c:Nat->Addr)(k:Nat)(H':Hp)(e:Sl)(b:St):Fl->Prop
 | .next=>a.nx b H'
 | .brk=>a.bk b H'
 | .cont=>a.ct b H'
 | .rt d=>∀v,Is K c k H' d v->a.rt v H'
 | .xc _=>False
noncomputable def tSt(K:KW)(m:Sl->M (Fl×Sl)):TS:=λg O H=>∃Y Z B f b a,RelH K Y Z H/\RelS K Y Z.length H B O/\m B Z=some ((f,b),a) /\
 Aft K Y Z H a λc d=>∀e,RelS K c a.length d b e->FlP K g c a.length d b e f
structure RE(X:Cx)(e:Expr)(m:Sl->M D):Prop where
 pe:PE X e (tE X.kw m)
structure RT(X:Cx)(e:Expr)(m:Sl->M Bool):Prop where
 pe:PT X e (tT X.kw m)
structure RW(X:Cx)(e:Expr)(m:Sl->M Bool):Prop where
 pe:PW X e (tT X.kw m)
structure RA(X:Cx)(es:List Expr)(m:Sl->M (List D)):Prop where
 pe:PA X es (tL X.kw m)
structure RS(X:Cx)(st:Stmt)(m:Sl->M (Fl×Sl)):Prop where
 pe:PS X st (tSt X.kw m)
structure RSs(X:Cx)(st:List Stmt)(m:Sl->M (Fl×Sl)):Prop where
 pe:PSs X st (tSt X.kw m)
section
variable{X:Cx}{e a b c:Expr}{es:List Expr}{pos:Pos}
theorem PE.wk{t t':TE}(h:PE X e t)(w:∀O H Q,t' O H Q->t O H Q):PE X e t':=λd s O H Q I q=>h d s O H Q I (w O H Q q)
theorem RE.wk{m:Sl->M D}{t:TE}(h:PE X e t)(w:∀O H Q,tE X.kw m O H Q->t O H Q):RE X e m:=⟨PE.wk h w⟩
theorem PT.wk{t t':TT}(h:PT X e t)(w:∀O H Q,t' O H Q->t O H Q):PT X e t':=λd s O H Q I q=>h d s O H Q I (w O H Q q)
theorem RT.wk{m:Sl->M Bool}{t:TT}(h:PT X e t)(w:∀O H Q,tT X.kw m O H Q->t O H Q):RT X e m:=⟨PT.wk h w⟩
theorem PW.wk{t t':TT}(h:PW X e t)(w:∀O H Q,t' O H Q->t O H Q):PW X e t':=λd f s O H Q I q=>h d f s O H Q I (w O H Q q)
theorem RW.wk{m:Sl->M Bool}{t:TT}(h:PW X e t)(w:∀O H Q,tT X.kw m O H Q->t O H Q):RW X e m:=⟨PW.wk h w⟩
theorem PA.wk{t t':TA}(h:PA X es t)(w:∀O H Q,t' O H Q->t O H Q):PA X es t':=λp d s O H Q I q=>h p d s O H Q I (w O H Q q)
theorem RA.wk{m:Sl->M (List D)}{t:TA}(h:PA X es t)(w:∀O H Q,tL X.kw m O H Q->t O H Q):RA X es m:=⟨PA.wk h w⟩
theorem PS.wk{d:Stmt}{t t':TS}(h:PS X d t)(w:∀D O H,t' D O H->t D O H):PS X d t':=λf s O H D I q=>h f s O H D I (w D O H q)
theorem RS.wk{m:Sl->M (Fl×Sl)}{d:Stmt}{t:TS}(h:PS X d t)(w:∀D O H,tSt X.kw m D O H->t D O H):RS X d m:=⟨PS.wk h w⟩
theorem PSs.wk{d:List Stmt}{t t':TS}(h:PSs X d t)(w:∀D O H,t' D O H->t D O H):PSs X d t':=λf s O H D I q=>h f s O H D I (w D O H q)
theorem RSs.wk{m:Sl->M (Fl×Sl)}{d:List Stmt}{t:TS}(h:PSs X d t)(w:∀D O H,tSt X.kw m D O H->t D O H):RSs X d m:=⟨PSs.wk h w⟩
theorem OpR.wk{f:Value->Value->Sem Value}{r d:R2}(h:OpR X f r)(w:∀x y H Q,d x y H Q->r x y H Q):OpR X f d:=λg s O H x y v u Q I i j q=>h g s O H x y v u Q I i j (w x y H Q q)
noncomputable def Jk:Expr->Bool
 | .Starred _ _=>true
 |_=>false
theorem BI{e:Expr}{es:List Expr}{env:Env}(h:Jk e=false):starEach (e::es) env=(false,eval e env)::starEach es env:=by
 cases e<;>first|rfl|cases h
theorem DR{pos:Pos}{env:Env}:∀{es:List Expr},(es.all λe=>!Jk e)=true->(backTo pos (starEach es env)).any (·.1)=false
 |[],_=>rfl
 |e::es,h=>by
  rw[List.all_cons,Bool.and_eq_true] at h;have d  := by simpa using h.1
  have f:=DR (pos:=pos) (env:=env) h.2;rw[BI d];assumption
noncomputable def AA(i:Nat):Sl->M D:=λB Z=>match B[i]? with
 |some (some d)=>some (d,Z)
 |_=>none
noncomputable def mC(d:D):Sl->M D:=λ_=>ret d
theorem AB(i:Nat){x:Str}(g:X.N[i]?=some x:=by rfl)(j:Vis X.env.scope x:=by first|exact Or.inl rfl|exact Or.inr (Or.inl rfl)|exact Or.inr (Or.inr rfl))(k:(x==("__debug__" : Str))=false:=by decide)
  (f:(x==("__classdict__" : Str))=false:=by decide):RE X (.Name x pos) (AA i):=RE.wk (Ys g j k f) λO H Q h=>by
 obtain⟨Y,Z,B,d,o,R,S,e,q⟩:=h;unfold AA at e;split at e
 ·rename_i p l;cases e;obtain⟨v,m,n⟩:=S.get i _ l;exact⟨v,m,q Y H R.ext0 R v n⟩
 ·cases e
theorem Qv{t:TE}{d:D}{v:V}(h:PE X e (tC v))(f:∀Y k H,Is X.kw Y k H d v):RE X e (mC d):=RE.wk h λO H Q h=>by
 obtain⟨Y,Z,B,d,g,R,S,e,q⟩:=h;cases e;exact q Y H R.ext0 R v (f _ _ _)
theorem AF{i j}:RE X (.Constant (.int i) j pos) (mC (.int i)):=Qv (t:=λ_ _ _=>True) Yy λ_ _ _=>rfl
theorem DN{i j}:RE X (.Constant (.bool i) j pos) (mC (.bl i)):=Qv (t:=λ_ _ _=>True) ax λ_ _ _=>rfl
theorem Bd{j}:RE X (.Constant .none j pos) (mC .non):=Qv (t:=λ_ _ _=>True) Yx λ_ _ _=>rfl
theorem A1{i j}:RE X (.Constant (.str i) j pos) (mC (.str i)):=Qv (t:=λ_ _ _=>True) Yu λ_ _ _=>rfl
theorem V6{x:Str}{v:V}{u:Value}{d:D}(g:X.mg x=some u)(r:RelV v u)(h:∀Y k H,Is X.kw Y k H d v)(i:Gl X x:=by rfl)(f:(x==("__debug__" : Str))=false:=by decide):RE X (.Name x pos) (mC d):=
 Qv (t:=λ_ _ _=>True) (WK i g r f) h
noncomputable def mOp(g:D->D->M D)(d f:Sl->M D):Sl->M D:=λB=>bnd (d B) λx=>bnd (f B) λy=>g x y
noncomputable def mUn(g:D->M D)(d:Sl->M D):Sl->M D:=λB=>bnd (d B) g
noncomputable def rM(K:KW)(g:D->D->M D):R2:=λx y H Q=>∃Y Z a b d f,RelH K Y Z H/\Is K Y Z.length H a x/\Is K Y Z.length H b y/\g a b Z=some (d,f) /\
 Aft K Y Z H f λi h=>∀v,Is K i f.length h d v->Q v h
noncomputable def rM1(K:KW)(g:D->M D):V->Hp->VK->Prop:=λx H Q=>∃Y Z a d f,RelH K Y Z H/\Is K Y Z.length H a x/\g a Z=some (d,f) /\
 Aft K Y Z H f λi h=>∀v,Is K i f.length h d v->Q v h
noncomputable def rMA(K:KW)(g:List D->M D):List V->Hp->VK->Prop:=λj H Q=>∃Y Z h d f,RelH K Y Z H/\IsL K Y Z.length H h j/\g h Z=some (d,f) /\
 Aft K Y Z H f λk i=>∀v,Is K k f.length i d v->Q v i
theorem Pb{K:KW}{g:D->D->M D}{f i:Sl->M D}{O:St}{H:Hp}{Q:VK}(h:tE K (mOp g f i) O H Q):tOp (rM K g) (tE K f) (tE K i) O H Q:=by
 obtain⟨Y,Z,B,d,n,R,S,e,q⟩:=h;obtain⟨x,j,o,e⟩:=AI e;obtain⟨y,k,p,r⟩:=AI e;exact⟨Y,Z,B,x,j,R,S,o,λs E l t F u=>⟨s,j,B,y,k,t,S.ext l,p,λv G m R2 I w=>⟨v,k,x,y,d,n,R2,u.ext m,w,r,λz A C=>q z A ((l.trans m).trans C)⟩⟩⟩
theorem aH{K:KW}{g:D->M D}{f:Sl->M D}{O:St}{H:Hp}{Q:VK}(h:tE K (mUn g f) O H Q):tUn (rM1 K g) (tE K f) O H Q:=by
 obtain⟨Y,Z,B,d,j,R,S,e,q⟩:=h;obtain⟨x,i,k,e⟩:=AI e;exact⟨Y,Z,B,x,i,R,S,k,λl t m n u o=>⟨l,i,x,d,j,n,o,e,λp r s=>q p r (m.trans s)⟩⟩
theorem Ah{op:Operator}{g:D->D->M D}{d f:Sl->M D}(h:OpR X (binaryOp op) (rM X.kw g))(i:RE X a d)(j:RE X b f):RE X (.BinOp a op b pos) (mOp g d f):=RE.wk (au h i.pe j.pe) λ_ _ _=>Pb
theorem XV{op:UnaryOp}{g:D->M D}{d:Sl->M D}(f:UnR X (unaryOp op) (rM1 X.kw g))(h:RE X a d):RE X (.UnaryOp op a pos) (mUn g d):=RE.wk (aq f h.pe) λ_ _ _=>aH
theorem C4{op:CmpOp}{g:D->D->M D}{d f:Sl->M D}(h:OpR X (compareOp op) (rM X.kw g))(i:RE X a d)(j:RE X b f)(k:behindInMarks op b=false:=by first|exact Tr _|rfl):RE X (.Compare a [op] [b] pos) (mOp g d f):=
 RE.wk (WM h i.pe j.pe k) λ_ _ _=>Pb
theorem AR{g:D->D->M D}{d f:Sl->M D}(h:IxR X (rM X.kw g))(i:RE X a d)(j:RE X b f)(k:Qi b:=by exact λ_ _=>rfl):RE X (.Subscript a b pos) (mOp g d f):=RE.wk (av h i.pe j.pe k) λ_ _ _=>Pb
noncomputable def asB:D->M Bool
 | .bl b=>ret b
 |_=>Bj
noncomputable def AN(m:Sl->M D):Sl->M Bool:=λB=>bnd (m B) asB
theorem PZ{K:KW}{m:Sl->M D}{O:St}{H:Hp}{Q:Bool->Hp->Prop}(h:tT K (AN m) O H Q):tE K m O H λx H'=>∃k,x=.bl k/\Q k H':=by
 obtain⟨Y,Z,B,b,o,R,S,e,q⟩:=h;obtain⟨x,d,f,e⟩:=AI e;refine⟨Y,Z,B,x,d,R,S,f,λg i j l p n=>?_⟩;cases x with
 |bl k=>
  cases e;exact⟨b,n,q g i j l⟩
 |_=>cases e
theorem AZ{op:CmpOp}{g:D->D->M D}{d f:Sl->M D}(i:OpR X (compareOp op) (rM X.kw g))(j:RE X a d)(k:RE X b f)(l:behindInMarks op b=false:=by first|exact Tr _|rfl):RT X (.Compare a [op] [b] pos) (AN (mOp g d f)):=
 RT.wk (WB i j.pe k.pe l) λO H Q h=>Pb (PZ h)
theorem Di{m:Sl->M D}(h:RE X e m)(f:∀d,isTrue e X.env d=(do let v ←d;standAt e.pos;holding [v] (truthy v)):=by intro _;rfl):RT X e (AN m):=
 RT.wk (Yk h.pe f) λ_ _ _=>PZ
noncomputable def Dj(d f:Sl->M Bool):Sl->M Bool:=λB=>bnd (d B) λx=>if x=true then f B else ret false
noncomputable def mOr(d f:Sl->M Bool):Sl->M Bool:=λB=>bnd (d B) λx=>if x=true then ret true else f B
noncomputable def Dx(d:Sl->M Bool):Sl->M Bool:=λB=>bnd (d B) λx=>ret (!x)
theorem ES{d:Sl->M Bool}(f:RT X a d):RT X (.UnaryOp .Not a pos) (Dx d):=RT.wk (Yl f.pe) λO H Q h=>by
 obtain⟨Y,Z,B,b,i,R,S,e,q⟩:=h;obtain⟨x,j,g,e⟩:=AI e;cases e;exact⟨Y,Z,B,x,_,R,S,g,q⟩
theorem EO{d:Sl->M Bool}(f:RT X a d):RW X (.BoolOp .And [a] pos) d:=⟨WA f.pe⟩
theorem OB{d:Sl->M Bool}(f:RT X a d):RW X (.BoolOp .Or [a] pos) d:=⟨Yi f.pe⟩
theorem E7{d:List Expr}{g i:Sl->M Bool}(m:RT X a g)(n:RW X (.BoolOp .And (b::d) pos) i):RW X (.BoolOp .And (a::b::d) pos) (Dj g i):=RW.wk (Yj m.pe n.pe) λO H Q h=>by
 obtain⟨Y,Z,B,z,o,R,S,e,q⟩:=h;obtain⟨x,j,p,e⟩:=AI e;refine⟨Y,Z,B,x,j,R,S,p,λk r f l=>?_⟩;cases x with
 |true=>exact⟨k,j,B,z,o,l,S.ext f,e,λs t u=>q s t (f.trans u)⟩
 |false=>cases e;exact q k r f l
theorem M3{d:List Expr}{g i:Sl->M Bool}(m:RT X a g)(n:RW X (.BoolOp .Or (b::d) pos) i):RW X (.BoolOp .Or (a::b::d) pos) (mOr g i):=RW.wk (ah m.pe n.pe) λO H Q h=>by
 obtain⟨Y,Z,B,z,o,R,S,e,q⟩:=h;obtain⟨x,j,p,e⟩:=AI e;refine⟨Y,Z,B,x,j,R,S,p,λk r f l=>?_⟩;cases x with
 |true=>cases e;exact q k r f l
 |false=>exact⟨k,j,B,z,o,l,S.ext f,e,λs t u=>q s t (f.trans u)⟩
theorem RW.rt{m:Sl->M Bool}(h:RW X e m):RT X e m:=⟨h.pe.pt⟩
noncomputable def mIf(mc:Sl->M Bool)(d f:Sl->M D):Sl->M D:=λB=>bnd (mc B) λx=>if x=true then d B else f B
theorem JT{mc:Sl->M Bool}{k l:Sl->M D}(p:RT X c mc)(r:RE X a k)(s:RE X b l):RE X (.IfExp c a b pos) (mIf mc k l):=RE.wk (TW p.pe r.pe s.pe) λO H Q h=>by
 obtain⟨Y,Z,B,z,m,R,S,e,q⟩:=h;obtain⟨x,f,t,e⟩:=AI e;refine⟨Y,Z,B,x,f,R,S,t,λn u d o=>?_⟩;cases x with
 |true=>exact⟨n,f,B,z,m,o,S.ext d,e,λg i j R2=>q g i (d.trans j) R2⟩
 |false=>exact⟨n,f,B,z,m,o,S.ext d,e,λg i j R2=>q g i (d.trans j) R2⟩
noncomputable def DP(d f:Sl->M D):Sl->M D:=λB=>bnd (d B) λx=>bnd (asB x) λc=>if c=true then f B else ret (.bl false)
noncomputable def NL(d:Sl->M D):Sl->M D:=λB=>bnd (d B) λx=>bnd (asB x) λc=>ret (.bl (!c))
theorem KC{x:D}{Z w5:Mh}{c:Bool}(h:asB x Z=some (c,w5)):x=.bl c/\w5=Z:=by
 cases x with
 |bl k=>cases h;exact⟨rfl,rfl⟩
 |_=>cases h
theorem HY{op}{m:Sl->M D}(h:RE X a m):RE X (.BoolOp op [a] pos) m:=⟨Yv h.pe⟩
theorem E8{d:List Expr}{g i:Sl->M D}(m:RE X a g)(n:RE X (.BoolOp .And (b::d) pos) i):RE X (.BoolOp .And (a::b::d) pos) (DP g i):=RE.wk (Y1 m.pe n.pe) λO H Q h=>by
 obtain⟨Y,Z,B,z,o,R,S,e,q⟩:=h;obtain⟨x,y,p,e⟩:=AI e;obtain⟨c,j,r,e⟩:=AI e;obtain⟨rfl,rfl⟩:=KC r;refine⟨Y,Z,B,_,j,R,S,p,λk s f l A t=>⟨c,t,?_⟩⟩;cases c with
 |true=>exact⟨k,j,B,z,o,l,S.ext f,e,λu v w=>q u v (f.trans w)⟩
 |false=>cases e;exact q k s f l _ (rfl)
theorem Yh{d:Sl->M D}(f:RE X a d):RE X (.UnaryOp .Not a pos) (NL d):=RE.wk (Yw f.pe) λO H Q h=>by
 obtain⟨Y,Z,B,z,o,R,S,e,q⟩:=h;obtain⟨x,p,g,e⟩:=AI e;obtain⟨c,r,i,e⟩:=AI e;obtain⟨rfl,rfl⟩:=KC i;cases e;exact⟨Y,Z,B,_,_,R,S,g,λj k l m s n=>⟨c,n,q j k l m _ (rfl)⟩⟩
noncomputable def Fp(g d:D->D->M D)(f h mc:Sl->M D):Sl->M D:=λB=>bnd (f B) λx=>bnd (h B) λy=>bnd (g x y) λz=>bnd (asB z) λk=>if k=true then bnd (mc B) λw=>d y w else ret (.bl false)
noncomputable def AK:Sl->M (List D):=λ_=>ret []
noncomputable def AD(m:Sl->M D)(r:Sl->M (List D)):Sl->M (List D):=λB=>bnd (m B) λx=>bnd (r B) λd=>ret (x::d)
theorem AH:RA X [] AK:=RA.wk Hb λO H Q h=>by
 obtain⟨Y,Z,B,z,d,R,S,e,q⟩:=h;cases e;exact q Y H R.ext0 R [] .nil
theorem AC{m:Sl->M D}{r:Sl->M (List D)}(h:RE X e m)(i:RA X es r)(j:starEach (e::es) X.env=(false,eval e X.env)::starEach es X.env:=by exact BI rfl):RA X (e::es) (AD m r):=RA.wk (F5 h.pe i.pe j) λO H Q h=>by
 obtain⟨Y,Z,B,z,w,R,S,e,q⟩:=h;obtain⟨x,d,k,e⟩:=AI e;obtain⟨l,y,n,e⟩:=AI e;cases e;exact⟨Y,Z,B,x,d,R,S,k,λo A f p C s=>⟨o,d,B,l,_,p,S.ext f,n,λt u g R2 E v=>q t u (f.trans g) R2 _ (.cons (s.ext g) v)⟩⟩
noncomputable def lim(n:Nat):M Unit:=λZ=>if n<=sizeLine then some ((),Z) else none
theorem Ei{n:Nat}{Z w5:Mh}{u:Unit}(h:lim n Z=some (u,w5)):n<=sizeLine/\w5=Z:=by
 unfold lim at h
 simp_all
theorem He{n:Nat}(h:n<=sizeLine)(Z:Mh):lim n Z=some ((),Z):=if_pos h
noncomputable def BE(ds:List D):M D:=bnd (lim ds.length) λ_=>ret (.tup ds)
noncomputable def BU(ds:List D):M D:=bnd (lim ds.length) λ_=>ret (.lst ds)
noncomputable def Dv(ds:List D):M D:=bnd (lim ds.length) λ_=>λZ=>some (.ref Z.length,Z++[.lst ds])
noncomputable def AE(f:List D->M D)(m:Sl->M (List D)):Sl->M D:=λB=>bnd (m B) f
theorem Pv{K:KW}{Y:Nat->Addr}{Z Z':Mh}{H:Hp}{ds:List D}{f:List V}{d:D}{Q:VK}(R:RelH K Y Z H)(i:IsL K Y Z.length H ds f)(e:BE ds Z=some (d,Z'))(q:Aft K Y Z H Z' λh H'=>∀v,Is K h Z'.length H' d v->Q v H'):
  f.length<=sizeLine/\∀p,H p=none->Q (.ref p) (upd H p (.tup f)):=by
 obtain⟨u,r,j,k⟩:=AI e;clear e;obtain⟨l,m⟩:=Ei j;cases k;cases m;refine⟨by rw[i.length];exact l,λp n=>?_⟩;obtain⟨g,o⟩:=R.laid (.tup f) n;exact q Y _ g o _ ⟨p,f,rfl,SqT.of Br,i.ext g⟩
theorem Ie{K:KW}{Y:Nat->Addr}{Z Z':Mh}{H:Hp}{ds:List D}{f:List V}{d:D}{Q:VK}(R:RelH K Y Z H)(i:IsL K Y Z.length H ds f)(e:BU ds Z=some (d,Z'))(q:Aft K Y Z H Z' λj H'=>∀v,Is K j Z'.length H' d v->Q v H'):
  f.length<=sizeLine/\∀p,H p=none->Q (.ref p) (upd H p (.lst f)):=by
 obtain⟨u,x,k,l⟩:=AI e;clear e;obtain⟨m,r⟩:=Ei k;cases l;cases r;refine⟨by rw[i.length];exact m,λp g=>?_⟩;obtain⟨h,s⟩:=R.laid (.lst f) g;have t:∀n,n<Z.length->Y n≠p:=λn w z=>by
  obtain⟨o,e,_⟩:=R.muts n w;rw[z,g] at e;cases e
 exact q Y _ h s _ ⟨p,f,rfl,Br,t,i.ext h⟩
theorem WZ{K:KW}{Y:Nat->Addr}{Z Z':Mh}{H:Hp}{ds:List D}{f:List V}{d:D}{Q:VK}(R:RelH K Y Z H)(i:IsL K Y Z.length H ds f)(e:Dv ds Z=some (d,Z'))(q:Aft K Y Z H Z' λg H'=>∀v,Is K g Z'.length H' d v->Q v H'):
  f.length<=sizeLine/\∀p,H p=none->Q (.ref p) (upd H p (.lst f)):=by
 obtain⟨u,t,h,j⟩:=AI e;clear e;obtain⟨k,l⟩:=Ei h;cases j;cases l;refine⟨by rw[i.length];exact k,λp n=>?_⟩;obtain⟨g,o,r,s⟩:=R.grown (m:=.lst ds) n ⟨f,rfl,i⟩;exact q g _ o r _ ⟨by simp,by rw[s]⟩
theorem F3{K:KW}{f:List D->M D}{m:Sl->M (List D)}{O:St}{H:Hp}{Q:VK}{R:List V->Hp->Prop}(h:tE K (AE f m) O H Q)
  (j:∀Y Z Z' H ds g d,RelH K Y Z H->IsL K Y Z.length H ds g->f ds Z=some (d,Z')->(Aft K Y Z H Z' λk H'=>∀v,Is K k Z'.length H' d v->Q v H')->R g H):tL K m O H R:=by
 obtain⟨Y,Z,B,z,Z',l,S,e,q⟩:=h;obtain⟨ds,i,n,e⟩:=AI e;exact⟨Y,Z,B,ds,i,l,S,n,λo p r s g t=>j o i Z' p ds g z s t e λu w x=>q u w (r.trans x)⟩
theorem BC{d}{m:Sl->M (List D)}(h:RA X es m):RE X (.Tuple es d pos) (AE BE m):=RE.wk (Yt h.pe) λ_ _ _ q=>F3 q λ_ _ _ _ _ _ _=>Pv
theorem Cu{m:Sl->M (List D)}(h:RA X es m):RE X (.List es pos) (AE BU m):=RE.wk (TV h.pe) λ_ _ _ q=>F3 q λ_ _ _ _ _ _ _=>Ie
theorem DB{m:Sl->M (List D)}(h:RA X es m):RE X (.List es pos) (AE Dv m):=RE.wk (TV h.pe) λ_ _ _ q=>F3 q λ_ _ _ _ _ _ _=>WZ
theorem Ap{id:String}{x:Str}{g:List D->M D}{m:Sl->M (List D)}{p:Pos}(j:B7 X (.builtin id) (rMA X.kw g))(k:X.mg x=none)(l:bootBuiltins x=some (.builtin id))(n:RA X (e::es) m)(o:Gl X x:=by rfl)(hn:x ≠ "__name__" := by decide)(f:(x==("__debug__" : Str))=false:=by decide)
  (r:starEach (e::es) X.env=(false,eval e X.env)::starEach es X.env:=by exact BI rfl) (h:(backTo pos (starEach es X.env)).any (·.1)=false:=by exact DR rfl):RE X (.Call (.Name x p) (e::es) [] pos) (AE g m):=
 RE.wk (M8 j o k l n.pe hn f r h) λ_ _ _ q=>F3 q λY Z s H t u d R i e q=>⟨Y,Z,t,d,s,R,i,e,q⟩
theorem Ch{T:String}{x:Str}{g:List D->M D}{m:Sl->M (List D)}{p:Pos}(j:B7 X (.type T) (rMA X.kw g))(k:X.mg x=none)(l:bootBuiltins x=some (.type T))(n:RA X (e::es) m)(o:Gl X x:=by rfl)(hn:x ≠ "__name__" := by decide)(f:(x==("__debug__" : Str))=false:=by decide)
  (r:starEach (e::es) X.env=(false,eval e X.env)::starEach es X.env:=by exact BI rfl) (h:(backTo pos (starEach es X.env)).any (·.1)=false:=by exact DR rfl):RE X (.Call (.Name x p) (e::es) [] pos) (AE g m):=
 RE.wk (Eg j o k l n.pe hn f r h) λ_ _ _ q=>F3 q λY Z s H t u d R i e q=>⟨Y,Z,t,d,s,R,i,e,q⟩
noncomputable def spM(K:KW)(n:Nat)(φ:List D->M D):Sp:=λd H Q _=>d.length=n/\rMA K φ d H Q
theorem V8{n k:Nat}{φ:List D->M D}{f:Addr}{l:FuncData}{o:List Str}{x:Str}{m:Sl->M (List D)}{p:Pos}(F:FnOk X.prog X.w X.kw X.mg X.base CX0 k f l o (spM X.kw n φ))(s:Room k X.A)(t:X.mg x=some (.ref f))(u:PySem.W.keepIn X.kw (.ref f)=true)(v:Binds X.kw l o [])
  (g:∀ds Z r,φ ds Z=some r->ds.length=n) (w:RA X (e::es) m) (y:Gl X x:=by rfl) (h:(x==("__debug__" : Str))=false:=by decide) (z:starEach (e::es) X.env=(false,eval e X.env)::starEach es X.env:=by exact BI rfl) (j:(backTo pos (starEach es X.env)).any (·.1)=false:=by exact DR rfl) :
  RE X (.Call (.Name x p) (e::es) [] pos) (AE φ m):=
 RE.wk (WN F s y t u v .nil az w.pe h z j) λ_ _ _ q=>F3 q λY Z A H ds B d R i e q=>by
  rw[AAY];exact⟨by rw[i.length];exact g ds Z _ e,Y,Z,ds,d,A,R,i,e,q⟩
end
section
variable{X:Cx}{e a c tg iter:Expr}{es:List Expr}{pos:Pos}{st:Stmt}{rest body:List Stmt}
noncomputable def A6:Sl->M (Fl×Sl):=λB=>ret (.next,B)
noncomputable def AS(b d:Sl->M (Fl×Sl)):Sl->M (Fl×Sl):=λB=>bnd (b B) λr=>match r.1 with
 | .next=>d r.2
 |f=>ret (f,r.2)
theorem Ag:RSs X [] A6:=RSs.wk WD λb O H h=>by
 obtain⟨Y,Z,B,f,d,g,R,S,e,q⟩:=h;cases e;exact q Y H R.ext0 R O S
theorem AG(p:RS X st r)(s:RSs X rest t):RSs X (st::rest) (AS r t):=RSs.wk (TJ p.pe s.pe) λC O H h=>by
 obtain⟨Y,Z,B,f,u,v,R,S,e,q⟩:=h;obtain⟨⟨m,n⟩,o,w,e⟩:=AI e;refine⟨Y,Z,B,m,n,o,R,S,w,λb k g i l j=>?_⟩;cases m with
 |next=>exact⟨b,o,n,f,u,v,i,j,e,λy z A=>q y z (g.trans A)⟩
 |brk=>cases e;exact q b k g i l j
 |cont=>cases e;exact q b k g i l j
 |rt d=>cases e;exact q b k g i l j
 |xc x=>cases e;exact q b k g i l j
theorem AL(h:RS X st m):RSs X [st] m:=⟨WC h.pe⟩
noncomputable def Bt(m:Sl->M D):Sl->M (Fl×Sl):=λB=>bnd (m B) λ_=>ret (.next,B)
theorem B8(h:RE X e m)(d:swapsWith e none pos.line X.env=pure false:=by rfl):RS X (.Expr e pos) (Bt m):=RS.wk (WE h.pe d) λl O H h=>by
 obtain⟨Y,Z,B,f,n,o,R,S,e,q⟩:=h;obtain⟨x,p,g,e⟩:=AI e;cases e;exact⟨Y,Z,_,x,_,R,S,g,λi j b k v r=>q i j b k O (S.ext b)⟩
noncomputable def As(m:Sl->M D):Sl->M (Fl×Sl):=λB=>bnd (m B) λd=>ret (.rt d,B)
theorem Aa(h:RE X e m):RS X (.Return (some e) pos) (As m):=RS.wk (Yn h.pe) λk O H h=>by
 obtain⟨Y,Z,B,f,l,n,R,S,e,q⟩:=h;obtain⟨x,o,d,e⟩:=AI e;cases e;exact⟨Y,Z,_,x,_,R,S,d,λg i b j=>q g i b j O (S.ext b)⟩
noncomputable def sIf(mc:Sl->M Bool)(b d:Sl->M (Fl×Sl)):Sl->M (Fl×Sl):=λB=>bnd (mc B) λx=>if x=true then b B else d B
theorem A5(o:RT X c mc)(p:RSs X body r)(s:RSs X rest t):RS X (.If c body rest pos) (sIf mc r t):=RS.wk (ao o.pe p.pe s.pe) λv O H h=>by
 obtain⟨Y,Z,B,f,k,l,R,S,e,q⟩:=h;obtain⟨x,d,u,e⟩:=AI e;refine⟨Y,Z,B,x,d,R,S,u,λm w b n=>?_⟩;cases x with
 |true=>exact⟨m,d,B,f,k,l,n,S.ext b,e,λg i j R2=>q g i (b.trans j) R2⟩
 |false=>exact⟨m,d,B,f,k,l,n,S.ext b,e,λg i j R2=>q g i (b.trans j) R2⟩
noncomputable def D6:Sl->M (Fl×Sl):=λ_=>Bj
theorem JR:RS X st D6:=RS.wk TL λb O H h=>by
 obtain⟨Y,Z,B,f,d,g,R,S,e,q⟩:=h;cases e
noncomputable def tG(K:KW)(bf:D->Sl->M Sl):TG:=λv O H Q=>∃Y Z B d f b,RelH K Y Z H/\RelS K Y Z.length H B O/\Is K Y Z.length H d v/\bf d B Z=some (f,b) /\
 Aft K Y Z H b λi g=>∀h,RelS K i b.length g f h->Q h g
structure RG(X:Cx)(tg:Expr)(bf:D->Sl->M Sl):Prop where
 pe:PG X tg (tG X.kw bf)
theorem PG.wk(h:PG X tg t)(w:∀v O H Q,t' v O H Q->t v O H Q):PG X tg t':=λb s O H v u Q I r q=>h b s O H v u Q I r (w v O H Q q)
theorem RG.wk(h:PG X tg t)(w:∀v O H Q,tG X.kw bf v O H Q->t v O H Q):RG X tg bf:=⟨PG.wk h w⟩
noncomputable def AO(i:Nat):D->Sl->M Sl:=λd B=>ret (B.set i (some d))
theorem Lg(h:tG K (AO i) v O H Q):IK i v O H Q:=by
 obtain⟨Y,Z,B,d,f,g,R,S,b,e,q⟩:=h;cases e;exact q Y H R.ext0 R _ (S.set i b)
theorem DX(i:Nat)(b:X.N.Nodup)(hi:X.N[i]?=some x:=by rfl)(d:Loc X.env.scope x:=by first|exact Or.inl rfl|exact Or.inr rfl)(f:X.fn x=true∨X.env.scope.names.lookup x=some .local:=by first|exact .inl rfl|exact .inr rfl|assumption):RG X (.Name x pos) (AO i):=
 RG.wk (Aq b hi d f) λ_ _ _ _=>Lg
noncomputable def Ge:List Nat->List D->Sl->M Sl
 |[],[],B=>ret B
 |i::b,d::f,B=>bnd (AO i d B) λg=>Ge b f g
 |_,_,_=>Bj
noncomputable def Cq(is:List Nat):D->Sl->M Sl
 | .tup b,B=>if b.length=is.length then Ge is b B else Bj
 |_,_=>Bj
noncomputable def Fs:List Nat->TGs
 |[]=>bW
 |i::b=>Xu (IK i) (Fs b)
theorem Hj:∀{is:List Nat} {ds:List D} {f:List V} {B b:Sl} {O:St} {Y:Nat->Addr} {Z Z':Mh} {H:Hp} {Q:St->Hp->Prop},RelH K Y Z H->RelS K Y Z.length H B O->IsL K Y Z.length H ds f->Ge is ds B Z=some (b,Z')->
  (Z'=Z->∀g,RelS K Y Z.length H b g->Q g H)->Fs is f O H Q
 |[],[],_,_,_,_,_,_,_,_,_,R,S,i,e,q=>by
  cases e;subst i;exact⟨rfl,q rfl _ S⟩
 |_::is,_::ds,_,B,b,O,Y,Z,Z',H,Q,R,S,i,e,q=>by
  obtain⟨v,d,rfl,h,j⟩:=i;exact⟨v,d,rfl,Hj R (S.set _ h) j e q⟩
 |[],_::_,_,_,_,_,_,_,_,_,_,_,_,_,e,_=>by cases e
 |_::_,[],_,_,_,_,_,_,_,_,_,_,_,_,e,_=>by cases e
theorem LU:∀{is:List Nat} {ds:List D} {B b:Sl} {Z Z':Mh},Ge is ds B Z=some (b,Z')->Z'=Z
 |[],[],_,_,_,_,e=>by cases e;rfl
 |_::is,_::ds,_,_,_,_,e=>LU (ds:=ds) e
 |[],_::_,_,_,_,_,e=>by cases e
 |_::_,[],_,_,_,_,e=>by cases e
theorem Fi(l:X.calm=true)(h:PGs X es (Fs is))(hn:(assignEach es X.env).length=is.length:=by rfl)(f:(assignEach es X.env).findIdx? (·.1)=none:=by rfl):RG X (.Tuple es k pos) (Cq is):=
 RG.wk (OM l h hn f) λv O H Q h=>by
  obtain⟨Y,Z,B,d,m,n,R,S,o,e,q⟩:=h;cases d with
  |tup g=>
   obtain⟨p,r,rfl,s,j⟩:=o;have b:(if g.length=is.length then Ge is g B else Bj) Z=some (m,n):=e;by_cases i:g.length=is.length
   ·rw[if_pos i] at b;have e:=b;refine⟨p,r,rfl,s,by rw[j.length,i],Hj R S j e λz t u=>?_⟩;subst z;exact q Y H R.ext0 R t u
   ·rw[if_neg i] at b;cases b
  |_=>cases e
noncomputable def AY(m:Sl->M D)(bf:D->Sl->M Sl):Sl->M (Fl×Sl):=λB=>bnd (m B) λd=>bnd (bf d B) λb=>ret (.next,b)
theorem Pa(i:∀v H Q,tG K bf v O H Q->g v O H Q)(h:tSt K (AY m bf) j O H):Vv (tE K m) g j O H:=by
 obtain⟨Y,Z,B,f,u,w,R,S,e,q⟩:=h;obtain⟨x,b,k,e⟩:=AI e;obtain⟨y,z,l,e⟩:=AI e;cases e;exact⟨Y,Z,B,x,b,R,S,k,λn A d o v p=>i _ _ _ ⟨n,b,B,x,_,_,o,S.ext d,p,l,λr s t=>q r s (d.trans t)⟩⟩
theorem AV(i:Nat)(d:X.N.Nodup)(f:RE X e m)(hi:X.N[i]?=some x:=by rfl)(g:Loc X.env.scope x:=by first|exact Or.inl rfl|exact Or.inr rfl)(h:swapsWith e (some (.Name x b)) pos.line X.env=pure false:=by rfl)(j:X.fn x=true∨X.env.scope.names.lookup x=some .local:=by first|exact .inl rfl|exact .inr rfl|assumption):
  RS X (.Assign [.Name x b] e pos) (AY m (AO i)):=RS.wk (Ym d hi g f.pe h j) λ_ _ _=>Pa λ_ _ _=>Lg
theorem Lo(b:RE X e m)(d:RG X tg bf)(f:swapsWithSole [tg] e pos.line X.env=pure false:=by rfl)(g:swappedStores [tg] e X.env=pure none:=by rfl)
  (h:(assignEach [tg] X.env).map (·.2)=[assign tg X.env]:=by rfl):RS X (.Assign [tg] e pos) (AY m bf):=RS.wk (Yp b.pe d.pe f g h) λ_ _ _=>Pa λ_ _ _ q=>q
noncomputable def IQ(mc:Sl->M Bool)(b:Sl->M (Fl×Sl)):Nat->Sl->M (Fl×Sl)
 |0,_=>Bj
 |n+1,B=>bnd (mc B) λx=>if x=true then bnd (b B) λr=>match r.1 with
   | .next=>IQ mc b n r.2
   | .cont=>IQ mc b n r.2
   | .brk=>ret (.next,r.2)
   | .rt d=>ret (.rt d,r.2)
   | .xc x=>ret (.xc x,r.2)
  else ret (.next,B)
noncomputable def GX(n:Nat)(mc:Sl->M Bool)(b:Sl->M (Fl×Sl)):Sl->M (Fl×Sl):=IQ mc b n
theorem JQ(n:Nat)(G:PassesOwn (model X.prog X.w) X.A X.env X.xe)(I:RT X c mc)(J:RSs X body k):RS X (.While c body [] pos) (GX n mc k):=RS.wk (TK G I.pe J.pe) λv O H h=>by
 refine⟨λn=>tSt X.kw (IQ mc k n) v,⟨n,h⟩,?_⟩;intro n O H h;obtain⟨Y,Z,B,f,w,y,R,S,e,q⟩:=h;cases n with
 |zero=>cases e
 |succ n=>
  obtain⟨x,A,K,e⟩:=AI e;refine⟨Y,Z,B,x,A,R,S,K,λC L j E=>?_⟩;cases x with
  |false=>cases e;exact q C L j E O (S.ext j)
  |true=>
   obtain⟨⟨F,l⟩,m,N,e⟩:=AI e;refine⟨tSt X.kw (IQ mc k n) v,λQ T z=>⟨n,Nat.lt_succ_self n,z⟩,C,A,B,F,l,m,E,S.ext j,N,λg o P R2 p i=>?_⟩;have b:=j.trans P;cases F with
   |next=>exact⟨g,m,l,f,w,y,R2,i,e,λr s t u=>q r s (b.trans t) u⟩
   |cont=>exact⟨g,m,l,f,w,y,R2,i,e,λr s t u=>q r s (b.trans t) u⟩
   |brk=>cases e;exact q g o b R2 p i
   |rt d=>cases e;exact q g o b R2 p i
   |xc x=>cases e;exact q g o b R2 p i
def ItM(K:KW)(J:It)(ds:List D)(Y:Nat->Addr)(Z:Mh)(H:Hp):Prop:=∀b (f:Mh) g,Ext Y Z.length H b f.length g->RelH K b f g->
 (∀i,i<ds.length->J.go i g)/\J.stop ds.length g/\∀(i:Nat) x h d,ds[i]?=some d->J.yld i g x h->Ext b f.length g b f.length h/\RelH K b f h/\Is K b f.length h d x
theorem ItM.ext(h:ItM K J ds Y Z H)(E:Ext Y Z.length H b Z'.length H'):ItM K J ds b Z' H':=λd f g i=>h d f g (E.trans i)
noncomputable def tI(K:KW)(m:Sl->M (List D)):TI:=λO H R=>∃Y Z B d b,RelH K Y Z H/\RelS K Y Z.length H B O/\m B Z=some (d,b) /\
 Aft K Y Z H b λg f=>∀J,ItM K J d g b f->R J f
structure RI(X:Cx)(tg iter:Expr)(m:Sl->M (List D)):Prop where
 pe:PI X tg iter (tI X.kw m)
theorem PI.wk(h:PI X tg iter t)(w:∀O H R,t' O H R->t O H R):PI X tg iter t':=λb s O H R I q=>h b s O H R I (w O H R q)
theorem RI.wk(h:PI X tg iter t)(w:∀O H R,tI X.kw m O H R->t O H R):RI X tg iter m:=⟨PI.wk h w⟩
theorem PI.or(h:PI X tg iter t)(d:PI X tg iter t'):PI X tg iter (λO H R=>t O H R∨t' O H R):=λb s O H R I q=>q.elim (h b s O H R I) (d b s O H R I)
noncomputable def Qh:D->M (List D)
 | .lst b=>ret b
 | .tup b=>ret b
 | .scr d=>ret (d.map D.int)
 |_=>Bj
noncomputable def CM(m:Sl->M D):Sl->M (List D):=λB=>bnd (m B) Qh
theorem NO(st:∀f (Z':Mh) H',Ext Y Z.length H f Z'.length H'->RelH K f Z' H'->SqL K H' p b)(i:IsL K Y Z.length H ds b):ItM K (Itl K p) ds Y Z H:=by
 intro f Z' H' E R;have h:=st f Z' H' E R;have m:=i.length;refine⟨λj n=>⟨b,b[j],h,by simp⟩,⟨b,h,by lia⟩,λj x o d g y=>?_⟩;obtain⟨e,y⟩:=y;subst e;obtain⟨v,k,l⟩:=(i.ext E).get g;have:=y b h;rw[k] at this;cases this;exact⟨R.ext0,R,l⟩
theorem Wi{K:KW}{Y:Nat->Addr}{Z:Mh}(h:SqT K H p b)(i:IsL K Y Z.length H ds b):ItM K (Itt K p) ds Y Z H:=by
 intro l m n E R;have h:=Lj E h;have o:=i.length;refine⟨λj q=>⟨b,b[j],h,by simp⟩,⟨b,h,by lia⟩,λj x r d f y=>?_⟩;obtain⟨e,y⟩:=y;subst e;obtain⟨v,g,k⟩:=(i.ext E).get f;have:=y b h;rw[g] at this;cases this;exact⟨R.ext0,R,k⟩
theorem V4(q:tI K (CM m) O H R):Xq K (tE K m) O H R∨bU K (tE K m) O H R:=by
 obtain⟨Y,Z,B,w,o,j,S,e,q⟩:=q;obtain⟨x,y,k,e⟩:=AI e;cases x with
 |lst es=>
  cases e;refine .inl ⟨Y,Z,B,_,_,j,S,k,λf g h i v d=>?_⟩;obtain⟨p,l,rfl,b,r,n⟩:=d;exact⟨p,rfl,⟨l,SqL.of b⟩,q f g h i _ (NO (λs o t E _=>SqL.of (E.keep p _ b r)) n)⟩
 |tup es=>
  cases e;refine .inr ⟨Y,Z,B,_,_,j,S,k,λf g h i v d=>?_⟩;unfold Is at d;obtain⟨p,l,rfl,b,n⟩:=d;exact⟨p,rfl,⟨l,b⟩,q f g h i _ (Wi b n)⟩
 |scr u=>
  cases e;refine .inl ⟨Y,Z,B,_,_,j,S,k,λf g h i v d=>?_⟩;unfold Is at d;obtain⟨p,rfl,b⟩:=d;exact⟨p,rfl,⟨_,b.sq⟩,q f g h i _ (NO (λs o t E _=>(Ln E b).sq) (IsL.ofInts u))⟩
 |non=>cases e
 |bl _=>cases e
 |int _=>cases e
 |str _=>cases e
 |ty _=>cases e
 |ref _=>cases e
theorem B1(h:RE X e m):RI X tg e (CM m):=RI.wk (PI.or (Pn h.pe) (Yq h.pe)) λ_ _ _=>V4
noncomputable def KQ(lo hi:Int):List D:=(List.range (hi-lo).toNat).map λ(j:Nat)=>D.int (lo+(j:Int))
noncomputable def Pi:List D->M (List D)
 |[.int j]=>λZ=>if -(2 ^ 62)<=j/\j<2 ^ 62 then some (KQ 0 j,Z) else none
 |_=>Bj
noncomputable def Kv(m:Sl->M (List D)):Sl->M (List D):=λB=>bnd (m B) Pi
theorem Wj:ItM K (Itr lo (hi-lo).toNat) (KQ lo hi) Y Z H:=by
 intro i k l E R;have f:(KQ lo hi).length=(hi-lo).toNat:=by simp[KQ]
 rw[f];refine⟨λj g=>g,AAE _,λj x m d b y=>?_⟩;obtain⟨e,y⟩:=y;subst e;unfold KQ at b;rw[AAV] at b;cases q:(List.range (hi-lo).toNat)[j]? with
 |none=>rw[q] at b;cases b
 |some z=>
  rw[q] at b;have h  := by
   have:=(AAT.mp q).2;simpa using this.symm
  subst h;cases b;exact⟨R.ext0,R,y⟩
theorem Kr(f:X.mg "range" = none)(g:RA X [a] m)(h:Gl X "range" := by rfl)(i:starEach [a] X.env=[(false,eval a X.env)]:=by rfl):RI X tg (.Call (.Name "range" p) [a] [] pos) (Kv m):=
 RI.wk (Qy h f g.pe i) λO H R q=>by
  obtain⟨Y,Z,B,y,k,l,S,e,q⟩:=q;obtain⟨n,o,r,e⟩:=AI e;refine⟨Y,Z,B,n,o,l,S,r,λb d s t z u=>?_⟩;unfold Pi at e;split at e
  ·rename_i j;split at e
   ·rename_i hb;cases e;obtain⟨v,w,rfl,rfl,x⟩:=u;subst x;refine⟨j,rfl,hb.1,hb.2,q b d s t _ ?_⟩;have:=Wj (K:=X.kw) (Y:=b) (Z:=k) (H:=d) (lo:=0) (hi:=j);rw[Int.sub_zero] at this;exact this
   ·cases e
  ·cases e
noncomputable def B5(bf:D->Sl->M Sl)(b:Sl->M (Fl×Sl)):List D->Sl->M (Fl×Sl)
 |[],B=>ret (.next,B)
 |x::f,B=>bnd (bf x B) λg=>bnd (b g) λr=>match r.1 with
  | .next=>B5 bf b f r.2
  | .cont=>B5 bf b f r.2
  | .brk=>ret (.next,r.2)
  | .rt d=>ret (.rt d,r.2)
  | .xc x=>ret (.xc x,r.2)
noncomputable def D7(b:Sl->M (List D))(bf:D->Sl->M Sl)(d:Sl->M (Fl×Sl)):Sl->M (Fl×Sl):=λB=>bnd (b B) λf=>B5 bf d f B
theorem C3(hp:PassesOwn (model X.prog X.w) X.A X.env X.xe)(hc:X.calm=true)(hi:RI X tg iter v)(hg:RG X tg bf)(hb:RSs X body U)
  (hs:∀x,foldedSetIterable iter X.env x=pure x:=by intro _;rfl):RS X (.For tg iter body [] pos) (D7 v bf U):=RS.wk (OJ hp hc hi.pe hg.pe hb.pe hs) λDn O H h=>by
 obtain⟨Y,Z,B,f,l,k,R,S,e,q⟩:=h;obtain⟨g,n,w,e⟩:=AI e;refine⟨Y,Z,B,g,n,R,S,w,λx4 H1 E1 R1 J o=>?_⟩
 let W  := λi m O H=>m=g.length-i/\i<=g.length/\∃Y Z B f l k,RelH X.kw Y Z H/\RelS X.kw Y Z.length H B O/\ItM X.kw J g Y Z H/\B5 bf U (g.drop i) B Z=some ((f,l),k) /\
  Aft X.kw Y Z H k λY' A=>∀C,RelS X.kw Y' k.length A l C->FlP X.kw Dn Y' k.length A l C f
 refine⟨W,⟨g.length,by simp,AAi _,x4,n,B,f,l,k,R1,S.ext E1,o,e,λw9 E u=>q w9 E (E1.trans u)⟩,?_⟩;rintro i m O H ⟨hm,hil,Y,Z,B,f,l,k,R,S,o,e,q⟩;obtain⟨go,p,yl⟩:=o Y Z H R.ext0 R;by_cases j:i<g.length
 ·refine .inr ⟨go i j,W (i+1) (g.length-(i+1)),λC A z=>⟨_,by lia,z⟩,λx E y=>?_⟩;have hd:g[i]?=some g[i]:=by simp[j]
  obtain⟨u,R2,ix⟩:=yl i x E _ hd y;rw[List.drop_eq_getElem_cons j] at e;obtain⟨x5,n,w,e⟩:=AI e;obtain⟨⟨f2,F⟩,G,e2,e⟩:=AI e;refine⟨Y,Z,B,_,x5,n,R2,S.ext u,ix,w,λx8 H3 E3 R3 u8 S3=>⟨x8,n,x5,f2,F,G,R3,S3,e2,λr I E4 s K t=>?_⟩⟩;have b:=(u.trans E3).trans E4;cases f2 with
  |next=>exact⟨rfl,j,r,G,F,f,l,k,s,t,o.ext b,e,λL N P Q=>q L N (b.trans P) Q⟩
  |cont=>exact⟨rfl,j,r,G,F,f,l,k,s,t,o.ext b,e,λL N P Q=>q L N (b.trans P) Q⟩
  |brk=>cases e;exact q r I b s K t
  |rt d=>cases e;exact q r I b s K t
  |xc x=>cases e;exact q r I b s K t
 ·have T:i=g.length:=by lia
  subst T;rw[List.drop_length] at e;cases e;exact .inl ⟨p,q Y H R.ext0 R O S⟩
end
section
variable{tgs:List Str}{ix:List Nat}
noncomputable def TN(ix:List Nat)(B:Sl):Sl:=ix.map λj=>(B[j]?).getD none
noncomputable def Ey(n:Nat)(ix:List Nat)(B:Sl):Sl:=List.replicate n none++TN ix B
noncomputable def EY(bf:D->Sl->M Sl)(mc:Sl->M Bool)(me:Sl->M D)(u3:Sl):List D->List D->M (List D)
 |[],a=>ret a
 |x::b,a=>bnd (bf x u3) λd=>bnd (mc d) λc=>if c=true then bnd (me d) λy=>EY bf mc me u3 b (a++[y]) else EY bf mc me u3 b a
noncomputable def Bm(n:Nat)(ix:List Nat)(a:Sl->M (List D))(bf:D->Sl->M Sl)(mc:Sl->M Bool)(me:Sl->M D)(b:List D->M D):Sl->M D:=λB=>bnd (a B) λc=>bnd (lim c.length) λ_=>bnd (EY bf mc me (Ey n ix B) c []) b
noncomputable def DO:Sl->M Bool:=λ_=>ret true
theorem RelS.block(S:RelS K Y k H B O):RelS K Y k H (Ey tgs.length ix B) (DQ tgs ix O):=by
 refine⟨by simp[Ey,DQ,TN,Ku],λi d e=>?_⟩;unfold Ey at e;have f:tgs.length<=i:=by
  rcases Nat.lt_or_ge i tgs.length with z|z
  ·rw[AAS (by simpa using z),List.getElem?_replicate,if_pos z] at e;cases e
  ·exact z
 rw[AAR (by simpa using f),AAl] at e;unfold TN at e;rw[AAV] at e;cases q:ix[i-tgs.length]? with
 |none=>rw[q] at e;cases e
 |some j=>
  rw[q] at e;have a:B[j]?.getD none=some d:=Option.some.inj e;cases b:B[j]? with
  |none=>rw[b] at a;cases a
  |some o=>
   rw[b] at a;have c  := a;subst c;obtain⟨v,g,h⟩:=S.get j d b;refine⟨v,?_,h⟩;unfold DQ;rw[AAR (by simpa using f),AAl];unfold Ku;rw[AAV,q,Option.map_some,g];rfl
mutual
def Cl(k:Nat):D->Prop
 | .tup ds=>ClL k ds
 | .lst ds=>ClL k ds
 | .ref n=>n<k
 |_=>True
def ClL(k:Nat):List D->Prop
 |[]=>True
 |d::ds=>Cl k d/\ClL k ds
end
noncomputable def ClO(k:Nat):MO->Prop
 | .lst a=>ClL k a
 | .dK l=>ClL k (l.map (·.2))
 | .dC l=>ClL k (l.map (·.2))
 | .ins _ l=>ClL k (l.map (·.2))
 | .dP l=>ClL k (l.map (·.1))/\ClL k (l.map (·.2))
 | .exc _ _=>True
section
variable{K:KW}{Y:Nat->Addr}{k k':Nat}{H:Hp}
mutual
theorem Is.down(a:k<=k'):∀{d:D} {v:V},Cl k d->Is K Y k' H d v->Is K Y k H d v
 | .non,_,_,h=>h
 | .bl _,_,_,h=>h
 | .int _,_,_,h=>h
 | .str _,_,_,h=>h
 | .ty _,_,_,h=>h
 | .scr _,_,_,h=>h
 | .tup f,_,c,h=>by
  obtain⟨p,b,e,g,i⟩:=h;exact⟨p,b,e,g,IsL.down a (c) i⟩
 | .lst f,_,c,h=>by
  obtain⟨p,b,e,g,l,i⟩:=h;exact⟨p,b,e,g,λn z=>l n (AAM z a),IsL.down a (c) i⟩
 | .ref n,_,c,h=>⟨c,h.2⟩
theorem IsL.down(a:k<=k'):∀{f:List D} {b:List V},ClL k f->IsL K Y k' H f b->IsL K Y k H f b
 |[],_,_,h=>h
 |_::_,_,c,h=>by
  obtain⟨v,j,e,g,i⟩:=h;exact⟨v,j,e,Is.down a c.1 g,IsL.down a c.2 i⟩
end
mutual
theorem Is.cl:∀{d:D} {v:V},Is K Y k H d v->Cl k d
 | .non,_,_=>by trivial
 | .bl _,_,_=>by trivial
 | .int _,_,_=>by trivial
 | .str _,_,_=>by trivial
 | .ty _,_,_=>by trivial
 | .scr _,_,_=>by trivial
 | .tup b,_,h=>by
  obtain⟨p,c,e,f,a⟩:=h;exact IsL.cl a
 | .lst b,_,h=>by
  obtain⟨p,c,e,f,i,a⟩:=h;exact IsL.cl a
 | .ref n,_,h=>h.1
theorem IsL.cl:∀{b:List D} {c:List V},IsL K Y k H b c->ClL k b
 |[],_,_=>by trivial
 |_::_,_,h=>by
  obtain⟨v,g,e,f,a⟩:=h;exact⟨Is.cl f,IsL.cl a⟩
end
theorem KVs.cl:∀{l:List (Key×D)} {r:List (Key×V)},KVs K Y k H l r->ClL k (l.map (·.2))
 |[],_,_=>by trivial
 |(_,_)::_,_,h=>by
  obtain⟨v,c,e,a,b⟩:=h;exact⟨a.cl,KVs.cl b⟩
theorem KVs.down(a:k<=k'):∀{l:List (Key×D)} {r:List (Key×V)},ClL k (l.map (·.2))->KVs K Y k' H l r->KVs K Y k H l r
 |[],_,_,h=>h
 |(_,_)::_,_,c,h=>by
  obtain⟨v,b,e,d,f⟩:=h;exact⟨v,b,e,d.down a c.1,KVs.down a c.2 f⟩
theorem QY:∀l:List Int,ClL k (l.map D.int)
 |[]=>by trivial
 |_::l=>⟨by trivial,QY l⟩
theorem ER(c:Nk.Cs):Cl k (csD c):=⟨by trivial,by trivial,QY _,by trivial⟩
theorem CVs.cl:∀{l:List (Nk.Cs×D)} {r:List (Nk.Cs×Addr×V)},CVs K Y k H l r->ClL k (l.map (·.2))
 |[],_,_=>by trivial
 |(_,_)::_,_,h=>by
  obtain⟨a,v,d,rfl,_,b,c⟩:=h;exact⟨b.cl,CVs.cl c⟩
theorem CVs.down(b:k<=k'):∀{l:List (Nk.Cs×D)} {r:List (Nk.Cs×Addr×V)},ClL k (l.map (·.2))->CVs K Y k' H l r->CVs K Y k H l r
 |[],_,_,h=>h
 |(_,_)::_,_,c,h=>by
  obtain⟨a,v,d,e,f,g,i⟩:=h;exact⟨a,v,d,e,f.down b (ER _),g.down b c.1,CVs.down b c.2 i⟩
theorem FVs.cl:∀{l:List (Str×D)} {r:List (Str×V)},FVs K Y k H l r->ClL k (l.map (·.2))
 |[],_,_=>by trivial
 |(_,_)::_,_,h=>by
  obtain⟨v,c,rfl,a,b⟩:=h;exact⟨a.cl,FVs.cl b⟩
theorem FVs.down(a:k<=k'):∀{l:List (Str×D)} {r:List (Str×V)},ClL k (l.map (·.2))->FVs K Y k' H l r->FVs K Y k H l r
 |[],_,_,h=>h
 |(_,_)::_,_,c,h=>by
  obtain⟨v,b,e,d,f⟩:=h;exact⟨v,b,e,d.down a c.1,FVs.down a c.2 f⟩
theorem PVs.cl:∀{l:List (D×D)} {r:List (D×Addr×V)},PVs K Y k H l r->ClL k (l.map (·.1))/\ClL k (l.map (·.2))
 |[],_,_=>by trivial
 |(_,_)::_,_,h=>by
  obtain⟨a,v,d,_,h1,c,b⟩:=h;exact⟨⟨h1.2.2.cl,(PVs.cl b).1⟩,c.cl,(PVs.cl b).2⟩
theorem PVs.down(d:k<=k'):∀{l:List (D×D)} {r:List (D×Addr×V)},ClL k (l.map (·.1))->ClL k (l.map (·.2))->PVs K Y k' H l r->PVs K Y k H l r
 |[],_,_,_,h=>h
 |(_,_)::_,_,b,c,h=>by
  obtain⟨a,v,f,e,h1,g,i⟩:=h;exact⟨a,v,f,e,⟨h1.1,h1.2.1,h1.2.2.down d b.1⟩,g.down d c.1,PVs.down d b.2 c.2 i⟩
theorem ObjIs.cl(h:ObjIs K Y k H p o u):ClO k o:=by
 cases o with
 |lst a=>obtain⟨b,_,h⟩:=h;exact h.cl
 |dK l=>obtain⟨r,_,h⟩:=h;exact h.cl
 |dC l=>obtain⟨r,_,h⟩:=h;exact h.cl
 |ins c l=>obtain⟨C,d,r,_,_,_,h⟩:=h;exact h.cl
 |dP l=>obtain⟨r,_,h⟩:=h;exact h.cl
 |exc c n=>exact trivial
theorem ObjIs.down(a:k<=k')(c:ClO k o)(h:ObjIs K Y k' H p o u):ObjIs K Y k H p o u:=by
 cases o with
 |lst i=>obtain⟨b,e,h⟩:=h;exact⟨b,e,h.down a c⟩
 |dK l=>obtain⟨r,e,h⟩:=h;exact⟨r,e,h.down a c⟩
 |dC l=>obtain⟨r,e,h⟩:=h;exact⟨r,e,h.down a c⟩
 |ins n l=>obtain⟨C,d,r,e,f,g,h⟩:=h;exact⟨C,d,r,e,f,g,h.down a c⟩
 |dP l=>obtain⟨r,e,h⟩:=h;exact⟨r,e,h.down a c.1 c.2⟩
 |exc c n=>exact h
end
def dG(w6 Z':Mh)(d' d:D):Prop:=(d'=d/\Cl Z'.length d)∨∃n a,d'=.ref n/\w6[n]?=some (.lst a)/\Z'.length<=n/\d=.lst a/\ClL Z'.length a
structure Eu(Z w6 Z':Mh)(d' d:D):Prop where
 grow:∃g,w6=Z'++g
 le:Z.length<=Z'.length
 old:∀(n:Nat) (o:MO),Z'[n]?=some o->Z[n]?=some o∨ClO Z'.length o
 conv:dG w6 Z' d' d
noncomputable def Ef:Fl->D
 | .rt d=>d
 |_=>.non
theorem Gh(R:RelH K Y Z H)(E:Ext Y Z.length H r w6.length w)(R2:RelH K r w6 w)(t:Eu Z w6 Z' d' d):
  Ext Y Z.length H r Z'.length w/\RelH K r Z' w/\∀v,Is K r w6.length w d' v->Is K r Z'.length w d v:=by
 obtain⟨⟨g,F⟩,p,A,x⟩:=t;have b:Z'.length<=w6.length:=by rw[F];simp
 have y:∀n o,Z'[n]?=some o->w6[n]?=some o:=λn o e=>by
  rw[F,AAS (AAT.mp e).1];exact e
 refine⟨⟨p,E.agree,λn J L=>E.fresh n J (AAM L b),E.keep,E.was,E.there⟩,⟨λi j N O=>R2.inj i j (AAM N b) (AAM O b),λn o e=>?_⟩,λv iv=>?_⟩
 ·obtain⟨u,q,Q⟩:=R2.obj n o (y n o e);refine⟨u,q,Q.down b ?_⟩;rcases A n o e with z|z
  ·obtain⟨X,_,S⟩:=R.obj n o z;have c:=S.cl;cases o with
   |lst s=>exact a p c
   |dK l=>exact a p c
   |dC l=>exact a p c
   |ins n l=>exact a p c
   |dP l=>exact⟨a p c.1,a p c.2⟩
   |exc c n=>exact trivial
  ·exact z
 ·rcases x with ⟨rfl,c⟩|⟨n,s,rfl,G,I,rfl,c⟩
  ·exact iv.down b c
  ·obtain⟨u,q,T,rfl,U⟩:=R2.obj n _ G;have B  := (AAT.mp G).1;refine⟨r n,T,iv.2,q,λm W z=>?_,U.down b c⟩;have:=R2.inj m n (AAM W b) B z;lia
where
 f {k C:Nat} h:∀{d:D},Cl k d->Cl C d
  | .non,_=>by trivial
  | .bl _,_=>by trivial
  | .int _,_=>by trivial
  | .str _,_=>by trivial
  | .ty _,_=>by trivial
  | .scr _,_=>by trivial
  | .tup s,c=>a h c
  | .lst s,c=>a h c
  | .ref n,c=>AAM c h
 a {k C:Nat} h:∀{s:List D},ClL k s->ClL C s
  |[],_=>by trivial
  |_::_,c=>⟨f h c.1,a h c.2⟩
noncomputable def Bc(n:Nat)(ds:List D):Sl:=ds.map some++List.replicate (n-ds.length) none
theorem RelS.start(i:IsL K Y k H ds b):RelS K Y k H (Bc N.length ds) (L2.start N b):=by
 have a:=i.length;refine⟨by simp[Bc,L2.start,a],λj d e=>?_⟩;unfold Bc at e;unfold L2.start;rcases Nat.lt_or_ge j ds.length with z|z
 ·rw[AAS (by simpa using z),AAV] at e;rw[AAS (by simpa[a] using z),AAV];cases q:ds[j]? with
  |none=>rw[q] at e;cases e
  |some g=>
   rw[q] at e;cases e;obtain⟨v,c,f⟩:=i.get q;exact⟨v,by rw[c];rfl,f⟩
 ·rw[AAR (by simpa using z),List.getElem?_replicate] at e;split at e<;>cases e
theorem LD(F:Fun K x g o f C)(S:Ab N r (AQ o))(hn:r.length=n:=by rfl)
  (l:∀(b:Value) (A:Around) (a:List Env) (s:Shared) (H:Hp) (E:XK),Room k (A.deeper (PyProof.Rows.envOfC g (AQ o) s.heap.objs.size f b))->RSs (HH CX0 P w K G m N g (AQ o) f b A a s H E).nox (Cb o) I)
  (run:∀ds Z d Z',φ ds Z=some (d,Z')->∃j x3 w6,I (Bc N.length ds) Z=some ((j,x3),w6)/\(j=.next∨∃d,j=.rt d)/\Eu Z w6 Z' (Ef j) d):FnOk P w K G m CX0 (k+1) f C r (spM ⟨K,w⟩ n φ):=by
 refine F.ok S (λJ H Q E h=>by rw[hn];exact h.1) λb A a s H J Q E L h=>⟨_,(l b A a s H E L).pe,?_⟩;obtain⟨W,Y,Z,ds,d,Z',R,i,e,q⟩:=h;obtain⟨j,x3,w6,O,p,t⟩:=run ds Z d Z' e;refine⟨Y,Z,_,j,x3,w6,R,RelS.start i,O,λu y T R2 X S2=>?_⟩;obtain⟨z,B,c⟩:=Gh R T R2 t;rcases p with rfl|⟨d0,rfl⟩
 ·exact q u y z B _ (c _ (by trivial))
 ·exact λv U=>q u y z B v (c v U)
end
noncomputable def EZ:D->M (List D)
 | .lst a=>ret a
 | .scr b=>ret (b.map D.int)
 | .ref n=>λZ=>match Z[n]? with
  |some (.lst a)=>some (a,Z)
  |_=>none
 |_=>Bj
section
variable{K:KW}{Y:Nat->Addr}{Z Z':Mh}{H:Hp}{d:D}{v:V}{ds:List D}
theorem C9(R:RelH K Y Z H)(i:Is K Y Z.length H d v)(e:EZ d Z=some (ds,Z')):Z'=Z/\∃p a,v=.ref p/\SqL K H p a/\IsL K Y Z.length H ds a:=by
 cases d with
 |lst g=>
  cases e;obtain⟨p,a,rfl,b,h,c⟩:=i;exact⟨rfl,p,a,rfl,SqL.of b,c⟩
 |scr j=>
  cases e;obtain⟨p,rfl,b⟩:=i;exact⟨rfl,p,_,rfl,b.sq,IsL.ofInts j⟩
 |ref n=>
  obtain⟨h,rfl⟩:=i;have f:(match Z[n]? with|some (.lst ds)=>_|_=>none)=some (ds,Z'):=e;split at f
  ·rename_i g k;cases f;obtain⟨u,b,a,rfl,c⟩:=R.obj n _ k;exact⟨rfl,_,a,rfl,SqL.of b,c⟩
  ·cases f
 |_=>cases e
theorem CJ(h:Is K Y Z.length H (.int i) v):v=.int i:=by unfold Is at h;exact h
theorem FD(h:Is K Y Z.length H (.str i) v):v=.str i:=by unfold Is at h;exact h
theorem UE(h:Is K Y Z.length H (.bl i) v):v=.bl i:=by unfold Is at h;exact h
theorem Om(h:Is K Y Z.length H .non v):v=.non:=by unfold Is at h;exact h
theorem bR(h:Is K Y Z.length H (.ty n) v):v=.ty n:=by unfold Is at h;exact h
theorem ofI(i:Int):Is K Y k H (.int i) (.int i):=by unfold Is;rfl
theorem ofS(i:Str):Is K Y k H (.str i) (.str i):=by unfold Is;rfl
theorem ofB(i:Bool):Is K Y k H (.bl i) (.bl i):=by unfold Is;rfl
theorem ofN:Is K Y k H .non .non:=by unfold Is;rfl
theorem FE(h:IsL K Y k H [d] a):∃v,a=[v]/\Is K Y k H d v:=by
 obtain⟨v,b,rfl,c,e⟩:=h;subst e;exact⟨v,rfl,c⟩
theorem bT(h:IsL K Y k H [d,d'] b):∃v a,b=[v,a]/\Is K Y k H d v/\Is K Y k H d' a:=by
 obtain⟨v,c,rfl,e,f⟩:=h;obtain⟨a,rfl,g⟩:=FE f;exact⟨v,a,rfl,e,g⟩
theorem Zy(h:IsL K Y k H ds a)(e:atI ds i=some d):∃v,atI a i=some v/\Is K Y k H d v:=by
 unfold atI at e ⊢;rw[h.length];cases q:ixN _ i with
 |none=>rw[q] at e;cases e
 |some j=>
  rw[q] at e;exact h.get e
theorem Uj(h:IsL K Y k H ds a):IsL K Y k H ((ds.drop (HT.sIx ds.length 0 lo)).take (HT.sIx ds.length ds.length hi-HT.sIx ds.length 0 lo)) (Re a lo hi):=by
 unfold Re;rw[h.length];exact(h.drop _).take _
end
noncomputable def MC(C:Int->Int->Prop)[∀i j,Decidable (C i j)](g:Int->Int->D):D->D->M D
 | .int i,.int j=>λZ=>if C i j then some (g i j,Z) else none
 |_,_=>Bj
noncomputable def EA:D->D->M D:=MC (λ_ _=>True) λi j=>.int (i-j)
noncomputable def Cd:D->D->M D:=MC (λ_ j=>0<j/\j<1073741824) λi j=>.int (i / j)
noncomputable def Cv:D->D->M D:=MC (λ_ j=>0<j) λi j=>.int (i % j)
noncomputable def M6:D->D->M D:=MC (λi j=>0<=j/\j<=1000000/\i.natAbs<2 ^ 64) λi j=>.int (i ^ j.toNat)
noncomputable def IS:D->D->M D:=MC (λ_ _=>True) λi j=>.bl (decide (i<j))
noncomputable def HZ:D->D->M D:=MC (λ_ _=>True) λi j=>.bl (decide (i<=j))
noncomputable def OI:D->D->M D:=MC (λ_ _=>True) λi j=>.bl (decide (j<i))
noncomputable def TD:D->D->M D:=MC (λ_ _=>True) λi j=>.bl (decide (j<=i))
section
variable{X:Cx}
theorem Fo[∀i j,Decidable (C i j)](l:∀i j Y k H,Is X.kw Y k H (g i j) (m i j))(n:OpR X f (rI C m)):OpR X f (rM X.kw (MC C g)):=OpR.wk n λx y H Q h=>by
 obtain⟨Y,Z,a,b,d,s,R,o,p,e,q⟩:=h;cases a with
 |int i=>
  cases b with
  |int j=>
   have c:(if C i j then some _ else none)=some _:=e;split at c
   ·rename_i r;cases c;exact⟨i,j,CJ o,CJ p,r,q Y H R.ext0 R _ (l i j _ _ _)⟩
   ·cases c
  |_=>cases e
 |_=>cases e
theorem OpR.ofI0(a:OpR X f (rI0 b)):OpR X f (rI (λ_ _=>True) b):=OpR.wk a λx y H Q h=>by
 obtain⟨i,j,c,d,_,q⟩:=h;exact⟨i,j,c,d,q⟩
theorem Gw:OpR X (binaryOp .Sub) (rM X.kw EA):=Fo (λ_ _ _ _ _=>ofI _) (OpR.ofI0 Y6)
theorem DE:OpR X (binaryOp .FloorDiv) (rM X.kw Cd):=Fo (λ_ _ _ _ _=>ofI _) WU
theorem EC:OpR X (binaryOp .Mod) (rM X.kw Cv):=Fo (λ_ _ _ _ _=>ofI _) ZB
theorem Xa:OpR X (binaryOp .Pow) (rM X.kw M6):=Fo (λ_ _ _ _ _=>ofI _) Y8
theorem WY:OpR X (compareOp .Lt) (rM X.kw IS):=Fo (λ_ _ _ _ _=>ofB _) (OpR.ofI0 a7)
theorem Tl:OpR X (compareOp .LtE) (rM X.kw HZ):=Fo (λ_ _ _ _ _=>ofB _) (OpR.ofI0 a8)
theorem ZG:OpR X (compareOp .Gt) (rM X.kw OI):=Fo (λ_ _ _ _ _=>ofB _) (OpR.ofI0 a9)
theorem cY:OpR X (compareOp .GtE) (rM X.kw TD):=Fo (λ_ _ _ _ _=>ofB _) (OpR.ofI0 bA)
noncomputable def Pm:D->M D
 | .int i=>ret (.int (-i))
 |_=>Bj
theorem Xb:UnR X (unaryOp .USub) (rM1 X.kw Pm):=λb s O H x v Q I r h=>by
 obtain⟨Y,Z,a,d,f,R,c,e,q⟩:=h;cases a with
 |int i=>
  cases e;have z:=CJ c;subst z;exact YQ b s O H _ v Q I r ⟨i,rfl,q Y H R.ext0 R _ (ofI _)⟩
 |_=>cases e
noncomputable def TF:D->D->M D
 | .int i,.int j=>ret (.int (i+j))
 | .str i,.str j=>bnd (lim (i.length+j.length)) λ_=>ret (.str (i++j))
 | .lst a,.lst b=>BU (a++b)
 | .tup [],.tup b=>Bj
 | .tup (a::c),.tup b=>BE (a::c++b)
 |_,_=>Bj
theorem bF:OpR X (binaryOp .Add) (rM X.kw TF):=λk s O H x y v u Q I l m h=>by
 obtain⟨Y,Z,a,b,d,K,R,n,o,e,q⟩:=h;unfold TF at e;split at e
 ·cases e;cases CJ n;cases CJ o;exact ZF k s O H _ _ v u Q I l m ⟨_,_,rfl,rfl,q Y H R.ext0 R _ (ofI _)⟩
 ·obtain⟨_,F,A,B⟩:=AI e;obtain⟨i,rfl⟩:=Ei A;cases B;cases FD n;cases FD o;exact OO k s O H _ _ v u Q I l m ⟨_,_,rfl,rfl,i,q Y H R.ext0 R _ (ofS _)⟩
 ·obtain⟨p,r,rfl,t,L,j⟩:=n;obtain⟨C,f,rfl,g,G,c⟩:=o;obtain⟨i,w⟩:=Ie R (j.append c) e q;exact ZE k s O H _ _ v u Q I l m ⟨p,C,r,f,rfl,rfl,t,g,by rw[←AAG];exact i,w⟩
 ·cases e
 ·rename_i a N E;obtain⟨p,r,rfl,t,j⟩:=n;obtain⟨C,f,rfl,g,c⟩:=o;obtain⟨i,w⟩:=Pv R (j.append c) e q;refine WV k s O H _ _ v u Q I l m ⟨p,C,r,f,rfl,rfl,t,g,λz=>?_,by rw[←AAG];exact i,λz=>?_,λ_=>w⟩
  ·have:=j.length;rw[z] at this;cases this
  ·subst z;have J:E=[]:=by
    have:=c.length;cases E with
    |nil=>rfl
    |cons _ _=>cases this
   subst J;obtain⟨_,F,A,B⟩:=AI e;obtain⟨i,rfl⟩:=Ei A;cases B;exact q Y H R.ext0 R _ (⟨p,r,rfl,t,by rw[AAY];exact j⟩)
 ·cases e
noncomputable def Gv:D->D->M D
 | .int i,.int j=>λZ=>if (-(2 ^ 64)<i/\i<2 ^ 64)∨(-(2 ^ 64)<j/\j<2 ^ 64) then some (.int (i * j),Z) else none
 | .lst a,.int j=>λZ=>if -(2 ^ 63)<=j/\j<2 ^ 63/\a.length * j.toNat<=sizeLine then BU (List.replicate j.toNat a).flatten Z else none
 |_,_=>Bj
theorem IsL.rep(h:IsL K Y k H ds a):∀n:Nat,IsL K Y k H (List.replicate n ds).flatten (List.replicate n a).flatten
 |0=>.nil
 |n+1=>h.append (IsL.rep h n)
theorem NA:OpR X (binaryOp .Mult) (rM X.kw Gv):=λc s O H x y v u Q I f g h=>by
 obtain⟨Y,Z,a,b,d,o,R,i,j,e,q⟩:=h;unfold Gv at e;split at e
 ·split at e
  ·rename_i hc;cases e;cases CJ i;cases CJ j;exact ZA c s O H _ _ v u Q I f g ⟨_,_,rfl,rfl,hc,q Y H R.ext0 R _ (ofI _)⟩
  ·cases e
 ·split at e
  ·rename_i hc;cases CJ j;obtain⟨p,m,rfl,n,r,l⟩:=i;obtain⟨t,w⟩:=Ie R (l.rep _) e q;exact Y7 c s O H _ _ v u Q I f g ⟨p,_,m,rfl,rfl,n,hc.1,hc.2.1,by rw[l.length];exact hc.2.2,w⟩
  ·cases e
 ·cases e
mutual
def toP(Z:Mh):D->Option PyData
 | .non=>some .none
 | .bl b=>some (.bool b)
 | .int i=>some (.int i)
 | .str x=>some (.str x)
 | .ty _=>none
 | .scr ns=>some (.list (ns.map PyData.int))
 | .tup ds=>(GU Z ds).map PyData.tuple
 | .lst ds=>(GU Z ds).map PyData.list
 | .ref _=>none
def GU(Z:Mh):List D->Option (List PyData)
 |[]=>some []
 |d::ds=>(toP Z d).bind λp=>(GU Z ds).map (p::·)
end
noncomputable def KO(Z:Mh):D->Option PyData
 | .ref n=>match Z[n]? with
  |some (.lst a)=>(GU Z a).map PyData.list
  |_=>none
 |d=>toP Z d
section
variable{K:KW}{Y:Nat->Addr}{Z:Mh}{H:Hp}{k:Nat}
theorem QQ:∀(ns:List Int),DatVs K H (ns.map V.int) (ns.map PyData.int)
 |[]=>.nil
 |n::r=>.cons (.int n) (QQ r)
mutual
theorem Is.dat:∀{d:D} {v:V} {p:PyData},Is K Y k H d v->toP Z d=some p->DatV K H v p
 | .non,_,_,h,e=>by cases e;subst h;exact .non
 | .bl b,_,_,h,e=>by cases e;subst h;exact .bl b
 | .int b,_,_,h,e=>by cases e;subst h;exact .int b
 | .str b,_,_,h,e=>by cases e;subst h;exact .str b
 | .ty b,_,_,h,e=>by cases e
 | .scr l,_,_,h,e=>by
  cases e;obtain⟨p,rfl,h⟩:=h;exact .lst h.sq (QQ l)
 | .tup a,_,_,h,e=>by
  unfold Is at h;unfold toP at e;obtain⟨p,i,rfl,c,f⟩:=h;cases q:GU Z a with
  |none=>rw[q] at e;cases e
  |some g=>rw[q] at e;cases e;exact .tup c (IsL.dat f q)
 | .lst a,_,_,h,e=>by
  unfold Is at h;unfold toP at e;obtain⟨p,i,rfl,c,_,f⟩:=h;cases q:GU Z a with
  |none=>rw[q] at e;cases e
  |some g=>rw[q] at e;cases e;exact .lst (SqL.of c) (IsL.dat f q)
 | .ref n,_,_,h,e=>by cases e
theorem IsL.dat:∀{a:List D} {i:List V} {g:List PyData},IsL K Y k H a i->GU Z a=some g->DatVs K H i g
 |[],_,_,h,e=>by cases e;subst h;exact .nil
 |d::a,_,_,h,e=>by
  unfold GU at e;obtain⟨v,m,rfl,c,f⟩:=h;cases q:toP Z d with
  |none=>rw[q] at e;cases e
  |some p=>
   rw[q] at e;cases j:GU Z a with
   |none=>rw[j] at e;cases e
   |some g=>rw[j] at e;cases e;exact .cons (Is.dat c q) (IsL.dat f j)
end
theorem Ww(R:RelH K Y Z H)(h:Is K Y Z.length H d v)(e:KO Z d=some p):DatV K H v p:=by
 cases d with
 |ref n=>
  obtain⟨_,rfl⟩:=h;have a:(match Z[n]? with|some (.lst b)=>_|_=>none)=some p:=e;split at a
  ·rename_i b c;obtain⟨u,f,i,rfl,g⟩:=R.obj n _ c;cases q:GU Z b with
   |none=>rw[q] at a;cases a
   |some j=>rw[q] at a;cases a;exact .lst (SqL.of f) (IsL.dat g q)
  ·cases a
 |_=>exact Is.dat (Z:=Z) h e
end
noncomputable def Fj(c:Bool)(a b:D):M D:=λZ=>match KO Z a,KO Z b with
 |some p,some q=>if SeqAt.shaped p=true/\SeqAt.shaped q=true then some (.bl (if c then !PyData.eqv p q else PyData.eqv p q),Z) else none
 |_,_=>none
noncomputable def Af:D->D->M D:=Fj false
noncomputable def DA:D->D->M D:=Fj true
theorem JW(e:Fj c a b Z=some (d,Z')):∃p q,KO Z a=some p/\KO Z b=some q/\SeqAt.shaped p=true/\SeqAt.shaped q=true/\d=.bl (if c then !PyData.eqv p q else PyData.eqv p q)/\Z'=Z:=by
 unfold Fj at e;split at e
 ·simp_all
 ·cases e
theorem CV(c:Room k X.A):OpR X (compareOp .Eq) (rM X.kw Af):=OpR.wk (ZD (Su c)) λx y H Q h=>by
 obtain⟨Y,Z,a,b,d,o,R,f,g,e,q⟩:=h;obtain⟨p,i,j,l,m,n,rfl,rfl⟩:=JW e;exact⟨p,i,Ww R f j,Ww R g l,m,n,q Y H R.ext0 R _ (ofB _)⟩
theorem KR(c:Room k X.A):OpR X (compareOp .NotEq) (rM X.kw DA):=OpR.wk (Y9 (Su c)) λx y H Q h=>by
 obtain⟨Y,Z,a,b,d,o,R,f,g,e,q⟩:=h;obtain⟨p,i,j,l,m,n,rfl,rfl⟩:=JW e;exact⟨p,i,Ww R f j,Ww R g l,m,n,q Y H R.ext0 R _ (ofB _)⟩
noncomputable def isN:D->Bool
 | .non=>true
 |_=>false
noncomputable def CA(b:Bool):D->D->M D
 |a,.non=>ret (.bl (if b then !isN a else isN a))
 |_,_=>Bj
theorem P8(h:Is K Y k H a x):decide (x=V.non)=isN a:=by
 cases a with
 |non=>subst h;rfl
 |bl b=>subst h;rfl
 |int b=>subst h;rfl
 |str b=>subst h;rfl
 |ty b=>subst h;rfl
 |scr c=>obtain⟨p,rfl,_⟩:=h;rfl
 |tup c=>obtain⟨p,o,rfl,_⟩:=h;rfl
 |lst c=>obtain⟨p,o,rfl,_⟩:=h;rfl
 |ref c=>obtain⟨_,rfl⟩:=h;rfl
theorem Tn:OpR X (compareOp .Is) (rM X.kw (CA false)):=OpR.wk ZC λx y H Q h=>by
 obtain⟨Y,Z,a,b,d,g,R,c,f,e,q⟩:=h;cases b with
 |non=>cases e;exact⟨Om f,by rw[P8 c];exact q Y H R.ext0 R _ (ofB _)⟩
 |_=>cases e
theorem DD:OpR X (compareOp .IsNot) (rM X.kw (CA true)):=OpR.wk WT λx y H Q h=>by
 obtain⟨Y,Z,a,b,d,g,R,c,f,e,q⟩:=h;cases b with
 |non=>cases e;exact⟨Om f,by rw[P8 c];exact q Y H R.ext0 R _ (ofB _)⟩
 |_=>cases e
noncomputable def HA:D->Option V
 | .non=>some .non
 | .bl b=>some (.bl b)
 | .int i=>some (.int i)
 | .str x=>some (.str x)
 |_=>none
noncomputable def DV:List D->Option (List V)
 |[]=>some []
 |d::a=>(HA d).bind λv=>(DV a).map (v::·)
section
variable{K:KW}{Y:Nat->Addr}{H:Hp}{k:Nat}
theorem G9(h:Is K Y k H d x)(e:HA d=some v):x=v/\De v=true:=by
 cases d with
 |non=>cases e;exact⟨h,rfl⟩
 |bl b=>cases e;exact⟨h,rfl⟩
 |int b=>cases e;exact⟨h,rfl⟩
 |str b=>cases e;exact⟨h,rfl⟩
 |_=>cases e
theorem GA:∀{ds:List D} {a xs:List V},IsL K Y k H ds xs->DV ds=some a->xs=a/\a.all De=true
 |[],_,_,h,e=>by cases e;exact⟨h,rfl⟩
 |d::ds,_,_,h,e=>by
  obtain⟨v,c,rfl,f,g⟩:=h;unfold DV at e;cases q:HA d with
  |none=>rw[q] at e;cases e
  |some w=>
   rw[q] at e;cases b:DV ds with
   |none=>rw[b] at e;cases e
   |some l=>
    rw[b] at e;cases e;obtain⟨rfl,i⟩:=G9 f q;obtain⟨rfl,j⟩:=GA g b;exact⟨rfl,by rw[List.all_cons,i,j];rfl⟩
end
noncomputable def Dp:D->M (List D)
 | .tup a=>ret a
 |d=>EZ d
theorem D3(R:RelH K Y Z H)(i:Is K Y Z.length H d v)(e:Dp d Z=some (ds,Z')):Z'=Z/\∃p f,v=.ref p/\(SqL K H p f∨SqT K H p f)/\IsL K Y Z.length H ds f:=by
 cases d with
 |tup g=>
  cases e;obtain⟨p,f,rfl,j,k⟩:=i;exact⟨rfl,p,f,rfl,.inr j,k⟩
 |lst g=>obtain⟨h,p,f,a,b,c⟩:=C9 R i e;exact⟨h,p,f,a,.inl b,c⟩
 |scr g=>obtain⟨h,p,f,a,b,c⟩:=C9 R i e;exact⟨h,p,f,a,.inl b,c⟩
 |ref g=>obtain⟨h,p,f,a,b,c⟩:=C9 R i e;exact⟨h,p,f,a,.inl b,c⟩
 |_=>cases e
noncomputable def G4(c:Bool)(a b:D):M D:=bnd (Dp b) λe=>λZ=>match HA a,DV e with
 |some x,some d=>some (.bl (if c then !inV x d else inV x d),Z)
 |_,_=>none
noncomputable def FA(c:Bool):D->D->M D
 | .str i,.str j=>ret (.bl (if c then !(!(Builtin.Str.occurrences j i 0 j.length 1).isEmpty) else !(Builtin.Str.occurrences j i 0 j.length 1).isEmpty))
 |a,b=>G4 c a b
theorem TB(R:RelH K Y Z H)(g:Is K Y Z.length H a x)(h:Is K Y Z.length H b y)(e:G4 c a b Z=some (d,Z'))(q:Aft K Y Z H Z' λi H'=>∀v,Is K i Z'.length H' d v->Q v H'):rIn K c x y H Q:=by
 obtain⟨t,u,j,f⟩:=AI e;obtain⟨k,p,z,rfl,l,m⟩:=D3 R h j;subst k;split at f
 ·rename_i w A n o;cases f;obtain⟨rfl,r⟩:=G9 g n;obtain⟨rfl,s⟩:=GA m o;exact⟨p,_,rfl,l,r,s,q Y H R.ext0 R _ (ofB _)⟩
 ·cases f
theorem bE:OpR X (compareOp .In) (rM X.kw (FA false)):=λc s O H x y v u Q I f g h=>by
 obtain⟨Y,Z,a,b,d,k,R,i,j,e,q⟩:=h;unfold FA at e;split at e
 ·cases e;cases FD i;cases FD j;exact Q1 c s O H _ _ v u Q I f g ⟨_,_,rfl,rfl,q Y H R.ext0 R _ (ofB _)⟩
 ·exact Q2 c s O H _ _ v u Q I f g (TB R i j e q)
theorem Ic:OpR X (compareOp .NotIn) (rM X.kw (FA true)):=λc s O H x y v u Q I f g h=>by
 obtain⟨Y,Z,a,b,d,k,R,i,j,e,q⟩:=h;unfold FA at e;split at e
 ·cases e;cases FD i;cases FD j;exact Lw c s O H _ _ v u Q I f g ⟨_,_,rfl,rfl,q Y H R.ext0 R _ (ofB _)⟩
 ·exact Lx c s O H _ _ v u Q I f g (TB R i j e q)
noncomputable def ixD(ds:List D)(i:Int):M D:=λZ=>(atI ds i).map λd=>(d,Z)
noncomputable def AJ:D->D->M D
 | .str z,.int i=>λZ=>if z.length<=sizeLine then (atI z.cps.toList i).map λc=>(.str ⟨#[c]⟩,Z) else none
 |a,.int i=>bnd (Dp a) λb=>ixD b i
 |_,_=>Bj
theorem AW:IxR X (rM X.kw AJ):=λl m n s O H x y v u Q I o r h f=>by
 obtain⟨Y,Z,a,b,d,N,R,t,A,e,q⟩:=h;unfold AJ at e;split at e
 ·split at e
  ·rename_i z i F;cases FD t;cases CJ A;cases g:atI z.cps.toList i with
   |none=>rw[g] at e;cases e
   |some c=>
    rw[g] at e;cases e;exact Ol l m n s O H _ _ v u Q I o r (.inr (.inr ⟨z,i,c,rfl,rfl,F,g,q Y H R.ext0 R _ (ofS _)⟩)) f
  ·cases e
 ·cases CJ A;obtain⟨G,P,J,j⟩:=AI e;obtain⟨K,p,B,rfl,k,L⟩:=D3 R t J;subst K;rename_i i _;unfold ixD at j;cases g:atI G i with
  |none=>rw[g] at j;cases j
  |some c=>
   rw[g] at j;cases j;obtain⟨w,C,E⟩:=Zy L g;rcases k with k|k
   ·exact Ol l m n s O H _ _ v u Q I o r (.inl ⟨p,B,i,w,rfl,rfl,k,C,q Y H R.ext0 R _ E⟩) f
   ·exact Ol l m n s O H _ _ v u Q I o r (.inr (.inl ⟨p,B,i,w,rfl,rfl,k,C,q Y H R.ext0 R _ E⟩)) f
 ·cases e
noncomputable def Bp:List D->M D
 |[.str z]=>λZ=>if z.length<=sizeLine then some (.int z.length,Z) else none
 |[.ref n]=>λZ=>match Z[n]? with
  |some (.lst a)=>some (.int a.length,Z)
  |_=>none
 |[d]=>bnd (Dp d) λa=>ret (.int a.length)
 |_=>Bj
theorem DK:B7 X (.builtin "len") (rMA X.kw Bp):=λi s O H j k Q I r h=>by
 obtain⟨Y,Z,y,d,z,R,f,e,q⟩:=h;refine Ur i s O H j k Q I r ?_;unfold Bp at e;split at e
 ·obtain⟨v,rfl,b⟩:=FE f;split at e
  ·rename_i l;cases e;cases FD b;exact⟨_,_,rfl,⟨l,rfl⟩,q Y H R.ext0 R _ (ofI _)⟩
  ·cases e
 ·rename_i n;obtain⟨v,rfl,b⟩:=FE f;obtain⟨_,rfl⟩:=b;split at e
  ·rename_i m o;cases e;obtain⟨u,a,c,rfl,g⟩:=R.obj n _ o;exact⟨_,_,rfl,.inl ⟨c,SqL.of a,rfl⟩,by rw[g.length];exact q Y H R.ext0 R _ (ofI _)⟩
  ·cases e
 ·obtain⟨v,rfl,b⟩:=FE f;obtain⟨m,A,t,w⟩:=AI e;obtain⟨x,p,c,rfl,a,g⟩:=D3 R b t;subst x;cases w;rw[←g.length] at q;rcases a with a|a
  ·exact⟨_,_,rfl,.inl ⟨c,a,rfl⟩,q Y H R.ext0 R _ (ofI _)⟩
  ·exact⟨_,_,rfl,.inr ⟨c,a,rfl⟩,q Y H R.ext0 R _ (ofI _)⟩
 ·cases e
noncomputable def FT(ds:List D)(lo hi:Option Int):List D:=(ds.drop (HT.sIx ds.length 0 lo)).take (HT.sIx ds.length ds.length hi-HT.sIx ds.length 0 lo)
noncomputable def af(lo hi:Option Int):D->M D
 | .tup a=>if HT.sIx a.length 0 lo=0/\HT.sIx a.length a.length hi=a.length then Bj else ret (.tup (FT a lo hi))
 |d=>bnd (EZ d) λa=>ret (.lst (FT a lo hi))
noncomputable def rMS(K:KW):V->Option Int->Option Int->Hp->VK->Prop:=λx e f H Q=>∃Y Z a d b,RelH K Y Z H/\Is K Y Z.length H a x/\af e f a Z=some (d,b) /\
 Aft K Y Z H b λg c=>∀v,Is K g b.length c d v->Q v c
theorem K2{K:KW}{Y:Nat->Addr}{Z:Mh}{a:List V}{Q:VK}(R:RelH K Y Z H)(i:IsL K Y Z.length H ds a)(q:Aft K Y Z H Z λd H'=>∀v,Is K d Z.length H' (.lst ds) v->Q v H')(p:Addr)(b:H p=none):Q (.ref p) (upd H p (.lst a)):=by
 obtain⟨c,f⟩:=R.laid (.lst a) b;have g:∀n,n<Z.length->Y n≠p:=λn h z=>by
  obtain⟨o,e,_⟩:=R.muts n h;rw[z,b] at e;cases e
 exact q Y _ c f _ ⟨p,a,rfl,Br,g,i.ext c⟩
theorem T6{K:KW}{Y:Nat->Addr}{Z:Mh}{a:List V}{Q:VK}(R:RelH K Y Z H)(i:IsL K Y Z.length H ds a)(q:Aft K Y Z H Z λc H'=>∀v,Is K c Z.length H' (.tup ds) v->Q v H')(p:Addr)(d:H p=none):Q (.ref p) (upd H p (.tup a)):=by
 obtain⟨b,e⟩:=R.laid (.tup a) d;exact q Y _ b e _ ⟨p,a,rfl,SqT.of Br,i.ext b⟩
theorem cX:SlR X (rMS X.kw):=λi s O H x v j k l m n Q I o r t u h=>by
 obtain⟨Y,Z,a,d,B,R,g,e,q⟩:=h;refine(SlR.or Vz Yd) i s O H x v j k l m n Q I o r t u ?_;unfold af at e;split at e
 ·obtain⟨p,c,rfl,f,b⟩:=g;split at e
  ·cases e
  ·rename_i w;cases e;exact .inr ⟨p,c,rfl,f,by rw[b.length];exact w,T6 R (Uj b) q⟩
 ·obtain⟨C,E,y,z⟩:=AI e;obtain⟨A,p,c,rfl,f,b⟩:=C9 R g y;subst A;cases z;exact .inl ⟨p,c,rfl,f,K2 R (Uj b) q⟩
noncomputable def Bv:Sl->M (Option Int):=λ_=>ret none
noncomputable def asI:D->M (Option Int)
 | .int i=>ret (some i)
 |_=>Bj
noncomputable def CN(m:Sl->M D):Sl->M (Option Int):=λB=>bnd (m B) asI
noncomputable def tPt(K:KW)(m:Sl->M (Option Int)):TO:=λO H Q=>∃Y Z B b a,RelH K Y Z H/\RelS K Y Z.length H B O/\m B Z=some (b,a)/\Aft K Y Z H a λ_ c=>Q b c
structure RO(X:Cx)(e:Option Expr)(m:Sl->M (Option Int)):Prop where
 pe:PO X e (tPt X.kw m)
theorem PO.wk(h:PO X e t)(w:∀O H Q,t' O H Q->t O H Q):PO X e t':=λa s O H Q I q=>h a s O H Q I (w O H Q q)
theorem RO.wk(h:PO X e t)(w:∀O H Q,tPt X.kw m O H Q->t O H Q):RO X e m:=⟨PO.wk h w⟩
theorem DW:RO X none Bv:=RO.wk WJ λO H Q h=>by
 obtain⟨Y,Z,B,b,a,R,S,e,q⟩:=h;cases e;exact q Y H R.ext0 R
theorem C1(h:RE X e m):RO X (some e) (CN m):=RO.wk (WI h.pe) λO H Q h=>by
 obtain⟨Y,Z,B,b,l,R,S,e,q⟩:=h;obtain⟨x,a,c,e⟩:=AI e;refine⟨Y,Z,B,x,a,R,S,c,λd f g j v k=>?_⟩;cases x with
 |int i=>cases e;exact⟨i,CJ k,q d f g j⟩
 |_=>cases e
noncomputable def tyD(Z:Mh):D->Option String
 | .non=>some "NoneType"
 | .bl _=>some "bool"
 | .int _=>some "int"
 | .str _=>some "str"
 | .tup _=>some "tuple"
 | .lst _=>some "list"
 | .scr _=>none
 | .ref n=>match Z[n]? with
  |some (.lst _)=>some "list"
  |some (.dK _)=>some "dict"
  |some (.dC _)=>none
  |some (.ins _ _)=>none
  |some (.dP _)=>none
  |some (.exc _ _)=>none
  |none=>none
 | .ty _=>none
noncomputable def K9(t T:String):Option Bool:=
 if t∈["NoneType", "bool", "int", "str", "tuple", "list", "dict"]/\T∈["bool", "int", "str", "tuple", "list", "dict"] then some (t==T||(t == "bool" && T == "int")) else none
theorem Wh(h:K9 t T=some b):PySem.W.kitOne K (.type t) (.type T)=some b:=by
 unfold K9 at h;split at h
 ·rename_i d;obtain⟨a,c⟩:=d;simp at a c;rcases a with rfl|rfl|rfl|rfl|rfl|rfl|rfl<;>rcases c with rfl|rfl|rfl|rfl|rfl|rfl<;>(cases h;kernel_rfl)
 ·cases h
noncomputable def EF:List D->M D
 |[a,.ty T]=>λZ=>match tyD Z a with
  |some t=>(K9 t T).map λb=>(.bl b,Z)
  |none=>none
 |_=>Bj
theorem Hv:B7 X (.builtin "isinstance") (rMA X.kw EF):=λB s O H U C Q I r h=>by
 obtain⟨Y,Z,W,d,Z',R,E,e,q⟩:=h;unfold EF at e;split at e
 ·rename_i a T;obtain⟨v,v',rfl,g,F⟩:=bT E;cases bR F;split at e
  ·rename_i t f;cases l:K9 t T with
   |none=>rw[l] at e;cases e
   |some b=>
    rw[l] at e;cases e;have j:=Wh (K:=X.kw) l;have k:=q Y H R.ext0 R _ (ofB b);have c  := λG=>
     Ni B s O H _ C Q I r ⟨v,T,_,b,rfl,G,j,k⟩
    cases a with
    |non=>cases f;cases Om g;exact c .non
    |bl x=>cases f;cases UE g;exact c (.bl x)
    |int x=>cases f;cases CJ g;exact c (.int x)
    |str x=>cases f;cases FD g;exact c (.str x)
    |ty n=>cases f
    |lst m=>cases f;obtain⟨p,w,rfl,i,_⟩:=g;exact c (.lst i)
    |scr ns=>cases f
    |ref n=>
     obtain⟨_,rfl⟩:=g;have f:(match Z[n]? with|some (.lst _)=>some "list" |some (.dK _)=>some "dict" |some (.dC _)=>none|some (.ins _ _)=>none|some (.dP _)=>none|some (.exc _ _)=>none|none=>none)=some t:=f;split at f
     ·rename_i m y;cases f;obtain⟨u,i,w,rfl,A⟩:=R.obj n _ y;exact c (.lst i)
     ·rename_i m y;cases f;obtain⟨u,i,w,rfl,A⟩:=R.obj n _ y;exact c (.dK i)
     ·cases f
     ·cases f
     ·cases f
     ·cases f
     ·cases f
    |tup m=>
     cases f;obtain⟨p,w,rfl,i,A⟩:=g;obtain⟨J,_,⟨o,L,N,_⟩,_⟩:=I.tuple i;obtain⟨u1,u2,rfl,P,S⟩:=Vals.two r;cases P;cases S;exact PySem.W.kia_one PySem.W.kitx_tuple I.kIn ⟨o,L,N⟩ j (λz=>nomatch z) λtk=>⟨.bl b,H,I.tok _,rfl,k⟩
  ·cases e
 ·cases e
noncomputable def MB:List D->M D
 |[.int i]=>ret (.int i)
 |[.bl b]=>ret (.int (if b then 1 else 0))
 |_=>Bj
theorem Uu:B7 X (.type "int") (rMA X.kw MB):=λc s O H f g Q I r h=>by
 obtain⟨Y,Z,i,d,j,R,b,e,q⟩:=h;refine Rk c s O H f g Q I r ?_;unfold MB at e;split at e
 ·obtain⟨v,rfl,a⟩:=FE b;cases e;cases CJ a;exact .inl ⟨_,rfl,q Y H R.ext0 R _ (ofI _)⟩
 ·obtain⟨v,rfl,a⟩:=FE b;cases e;cases UE a;exact .inr ⟨_,rfl,q Y H R.ext0 R _ (ofI _)⟩
 ·cases e
noncomputable def Tw:List D->M D
 |[.int i,.int j]=>ret (.int (if j > i then j else i))
 |_=>Bj
theorem bo(a:X.calm=true):B7 X (.builtin "max") (rMA X.kw Tw):=λb s O H c f Q I r h=>by
 obtain⟨Y,Z,k,d,l,R,g,e,q⟩:=h;refine Ri a b s O H c f Q I r ?_;unfold Tw at e;split at e
 ·obtain⟨v,w,rfl,i,j⟩:=bT g;cases e;cases CJ i;cases CJ j;exact⟨_,_,rfl,q Y H R.ext0 R _ (ofI _)⟩
 ·cases e
noncomputable def HX:List D->M D
 |[.tup a]=>ret (.tup a)
 |[d]=>bnd (EZ d) λa=>ret (.tup a)
 |_=>Bj
theorem MJ:B7 X (.type "tuple") (rMA X.kw HX):=λn s O H F t Q I r h=>by
 obtain⟨Y,Z,G,d,J,R,i,e,q⟩:=h;unfold HX at e;split at e
 ·obtain⟨v,rfl,a⟩:=FE i;cases e;have w:=a;obtain⟨p,c,rfl,f,j⟩:=a;exact Ng n s O H _ t Q I r ⟨p,c,rfl,f,q Y H R.ext0 R _ w⟩
 ·obtain⟨v,rfl,a⟩:=FE i;obtain⟨K,L,x,y⟩:=AI e;obtain⟨z,p,c,rfl,f,j⟩:=C9 R a x;subst z;cases y;obtain⟨u,rfl,A⟩:=Vals.one r;cases A;obtain⟨g,k,B,l⟩:=I.list f;refine PySem.call_tuple_list B.isList (λN C=>?_) (by rw[List.size_toArray,←k.length];exact l);have m  := I.kept (t':=s.toks) C;have E  := m.laid (t':=s.toks) (o:=.tup c) (λb P=>AAC _) (AAE _) ⟨l,g,k,PyProof.Rows.IsTup.new _ _⟩;exact⟨.ref _,_,E,rfl,T6 R j q _ (m.hok.fresh (AAE _))⟩
 ·cases e
end
section
variable{X:Cx}{e a b c o i f:Expr}{es:List Expr}{pos apos cpos:Pos}
theorem Sc(h:tE K (Fp g J L N mc) O H Q):Se (rM K g) (rM K J) (tE K L) (tE K N) (tE K mc) O H Q:=by
 obtain⟨Y,Z,B,d,P,R,S,e,q⟩:=h;obtain⟨x,s,T,m⟩:=AI e;obtain⟨y,t,U,n⟩:=AI m;obtain⟨z,x6,W,p⟩:=AI n;obtain⟨k,u4,e4,l⟩:=AI p;obtain⟨hz,hm⟩:=KC e4;subst hm;subst hz;refine⟨Y,Z,B,x,s,R,S,T,λx4 H1 u R1 v1 i1=>⟨x4,s,B,y,t,R1,S.ext u,U,λw9 H2 v R2 v2 A=>⟨w9,t,x,y,_,_,R2,i1.ext v,A,W,λC H3 E F v3 i3=>⟨k,UE i3,?_⟩⟩⟩⟩;have j:=(u.trans v).trans E;cases k with
 |false=>cases l;exact q C H3 j F _ (ofB _)
 |true=>
  obtain⟨w,G,e5,r⟩:=AI l;exact⟨C,_,B,w,G,F,S.ext j,e5,λx9 H4 I R4 v4 i4=>⟨x9,G,y,w,d,P,R4,A.ext (E.trans I),i4,r,λu6 H5 E5=>q u6 H5 ((j.trans I).trans E5)⟩⟩
theorem M5(j:OpR X (compareOp op) (rM X.kw g))(h:OpR X (compareOp d) (rM X.kw k))(l:RE X a m)(n:RE X b p)(q:RE X c mc)(r:lastMarks [op,d] [b,c]=false:=by with_unfolding_all rfl):
  RE X (.Compare a [op,d] [b,c] pos) (Fp g k m p mc):=RE.wk (Tc j h l.pe n.pe q.pe r) λ_ _ _=>Sc
theorem F4(g:X.mg x=none)(h:bootBuiltins x=some (.type n))(j:Gl X x:=by rfl)(hn:x ≠ "__name__" := by decide)(d:(x==("__debug__" : Str))=false:=by decide):RE X (.Name x pos) (mC (.ty n)):=
 Qv (t:=λ_ _ _=>True) (WO (v:=.ty n) j g h rfl hn d) λ_ _ _=>rfl
noncomputable def EU(d:D):M Unit:=bnd (EZ d) λ_=>ret ()
noncomputable def BG(g:D->List D->M D)(mo:Sl->M D)(d:Sl->M (List D)):Sl->M D:=λB=>bnd (mo B) λx=>bnd (EU x) λ_=>bnd (d B) λh=>g x h
noncomputable def rMM(K:KW)(g:D->List D->M D):V->List V->Hp->VK->Prop:=λx l H Q=>∃Y Z a j d h,RelH K Y Z H/\Is K Y Z.length H a x/\IsL K Y Z.length H j l/\g a j Z=some (d,h) /\
 Aft K Y Z H h λm k=>∀v,Is K m h.length k d v->Q v k
theorem IJ(R:RelH K Y Z H)(i:Is K Y Z.length H d v)(e:EU d Z=some (u,Z')):Z'=Z/\tyV K "list" v H:=by
 obtain⟨m,n,h,g⟩:=AI e;cases g;obtain⟨j,p,k,rfl,l,q⟩:=C9 R i h;exact⟨j,.inl ⟨rfl,k,l⟩⟩
theorem Hi(e:EU d Z=some (u,Z')):Z'=Z:=by
 obtain⟨h,k,g,j⟩:=AI e;cases j;cases d with
 |lst _=>cases g;rfl
 |scr _=>cases g;rfl
 |ref n=>
  have g:(match Z[n]? with|some (.lst h)=>some (h,Z)|_=>none)=some (h,Z'):=g;split at g
  ·grind
  ·cases g
 |_=>cases g
theorem Sb(h:tE K (BG g mo w) O H Q):tBM K "list" (rMM K g) (tE K mo) (tL K w) O H Q:=by
 obtain⟨Y,Z,B,d,y,R,S,e,q⟩:=h;obtain⟨x,N,z,j⟩:=AI e;obtain⟨u,P,m,k⟩:=AI j;obtain⟨n,p,A,l⟩:=AI k;have C:=Hi m;subst C;exact⟨Y,Z,B,x,_,R,S,z,λE T r s U t=>⟨(IJ s t m).2,E,_,B,n,p,s,S.ext r,A,λF W v R2 vs G=>⟨F,p,x,n,d,y,R2,t.ext v,G,l,λI J L=>q I J ((r.trans v).trans L)⟩⟩⟩
theorem Bu{name:Str}{id:String}(k:Slot "list" name id)(m:typeOf (.builtin id)=pure (.type "method_descriptor"))(n:MtR X id (rMM X.kw g))(p:RE X o mo)(q:RA X (e::es) r)
  (h:attributeBase o name X.env (eval o X.env)=eval o X.env:=by rfl)
  (l:((backTo cpos (starEach (e::es) X.env)).all (λx=>!x.1)&&(backToKw cpos (keywordEach [] X.env)).all (λx=>x.1.isSome)
   && decide ((e::es).length+([]:List Keyword).length+(if ([]:List Keyword).isEmpty then 0 else 1)<30))=true:=by rfl)
  (j:(apos.endLine==cpos.line)=true:=by rfl) (s:starEach (e::es) X.env=(false,eval e X.env)::starEach es X.env:=by exact BI rfl) (d:(backTo cpos (starEach es X.env)).any (·.1)=false:=by exact DR rfl) :
  RE X (.Call (.Attribute o name apos) (e::es) [] cpos) (BG g mo r):=RE.wk (aw PySem.F.plainAttrs_list k m n p.pe q.pe h l j s d) λ_ _ _=>Sb
noncomputable def FY(n:Nat)(k:List D->Option (D×List D)):M D:=λZ=>match Z[n]? with
 |some (.lst d)=>(k d).map λr=>(r.1,Z.set n (.lst r.2))
 |_=>none
theorem F2(e:FY n k Z=some (d,Z')):∃ds es,Z[n]?=some (.lst ds)/\k ds=some (d,es)/\Z'=Z.set n (.lst es):=by
 unfold FY at e;split at e
 ·rename_i ds h;cases g:k ds with
  |none=>rw[g] at e;cases e
  |some r=>rw[g] at e;cases e;exact⟨ds,r.2,h,g,rfl⟩
 ·cases e
theorem IV{K:KW}{Y:Nat->Addr}{Z:Mh}{H:Hp}{n:Nat}{d:D}{es:List D}{g:List V}{v:V}{Q:VK}{ds:List D}(R:RelH K Y Z H)(hn:Z[n]?=some (.lst ds))(k:IsL K Y Z.length H es g)(l:Is K Y Z.length H d v)
  (q:Aft K Y Z H (Z.set n (.lst es)) λp H'=>∀v,Is K p (Z.set n (.lst es)).length H' d v->Q v H'):Q v (upd H (Y n) (.lst g)):=by
 have h  := (AAT.mp hn).1;obtain⟨j,r⟩:=R.changed (m:=.lst es) h ⟨g,rfl,k⟩;exact q Y _ j r v (l.ext j)
noncomputable def DM:D->List D->M D
 | .ref n,[d]=>FY n λg=>if g.length<sizeLine then some (.non,g++[d]) else none
 |_,_=>Bj
theorem CD:MtR X "list.append" (rMM X.kw DM):=λl s O H x F v m Q I p r h=>by
 obtain⟨Y,Z,a,G,d,J,R,t,z,e,q⟩:=h;unfold DM at e;split at e
 ·rename_i n y;obtain⟨K,es,j,g,rfl⟩:=F2 e;split at g
  ·rename_i A;cases g;obtain⟨w,rfl,B⟩:=FE z;obtain⟨_,rfl⟩:=t;obtain⟨u,C,E,rfl,k⟩:=R.obj n _ j;exact Q8 l s O H _ _ v m Q I p r ⟨_,E,w,rfl,rfl,C,by rw[k.length];exact A,IV R j (k.append (.one B)) ofN q⟩
  ·cases g
 ·cases e
noncomputable def dL:D->List D->M D
 | .ref n,[.lst d]=>FY n λg=>if g.length+d.length<=sizeLine then some (.non,g++d) else none
 |_,_=>Bj
noncomputable def So:D->D->D->M Unit
 | .ref n,.int k,d=>λZ=>match Z[n]? with
  |some (.lst g)=>(ixN g.length k).map λj=>((),Z.set n (.lst (g.set j d)))
  |_=>none
 |_,_,_=>Bj
noncomputable def Hz(mo mi:Sl->M D):D->Sl->M Sl:=λd B=>bnd (mo B) λx=>bnd (mi B) λy=>bnd (So x y d) λ_=>ret B
theorem Qs(e:So x y d Z=some (u,Z')):∃n k ds j,x=.ref n/\y=.int k/\Z[n]?=some (.lst ds)/\ixN ds.length k=some j/\Z'=Z.set n (.lst (ds.set j d)):=by
 unfold So at e;split at e
 ·rename_i n k;split at e
  ·rename_i ds g;cases h:ixN ds.length k with
   |none=>simp_all
   |some j=>simp_all
  ·cases e
 ·cases e
theorem Lp(J:RE X o mo)(hi:RE X i mi)
  (K:∀v,assign (.Subscript o i pos) X.env v=(do
   let l ←holding [v] (eval o X.env)
   let p ←holding [v,l] (eval i X.env)
   standAt pos
   holding [v,l,p] (setItem l p v)
   release [v,l,p] []):=by intro _;rfl):RG X (.Subscript o i pos) (Hz mo mi):=RG.wk (Yr J.pe hi.pe Sn K) λv O H Q h=>by
 obtain⟨Y,Z,B,d,B',Z',R,S,L,e,q⟩:=h;obtain⟨x,C,N,r⟩:=AI e;obtain⟨y,P,T,s⟩:=AI r;obtain⟨u,x6,U,t⟩:=AI s;cases t;refine⟨Y,Z,_,x,C,R,S,N,λW H1 E R1 v1 j1=>⟨W,C,_,y,P,R1,S.ext E,T,λw9 H2 F R2 v2 j2=>?_⟩⟩;obtain⟨n,k,ds,j,rfl,rfl,g1,g2,rfl⟩:=Qs U;have g:=E.trans F;have z:=j1.ext F;obtain⟨A,rfl⟩:=z;cases CJ j2;obtain⟨w,k1,vs,rfl,G⟩:=R2.obj n _ g1;obtain⟨I,R3⟩:=R2.changed (m:=.lst (ds.set j d)) A ⟨_,rfl,G.set (L.ext g) j⟩;exact⟨_,vs,k,j,rfl,rfl,k1,by rw[G.length];exact g2,q w9 _ (g.trans I) R3 O (S.ext (g.trans I))⟩
noncomputable def L9:D->Option Key
 | .int i=>some (.inl i)
 | .str x=>some (.inr x)
 |_=>none
noncomputable def FL:D->M (Nat×List (Key×D))
 | .ref n=>λZ=>match Z[n]? with
  |some (.dK l)=>some ((n,l),Z)
  |_=>none
 |_=>Bj
def CU(l:List (Key×D))(k:Key):Option D:=(l.find? λkv=>decide (kv.1=k)).map (·.2)
noncomputable def Dc(l:List (Key×D))(k:Key)(d:D):List (Key×D):=
 if (l.any λkv=>decide (kv.1=k))=true then l.map (λkv=>if kv.1=k then (kv.1,d) else kv) else l++[(k,d)]
noncomputable def Q6:Sl->M D:=λ_ Z=>some (.ref Z.length,Z++[.dK []])
theorem Ia:RE X (.Dict [] [] pos) Q6:=RE.wk TY λO H Q h=>by
 obtain⟨Y,Z,B,d,r,R,S,e,q⟩:=h;cases e;intro p g;obtain⟨j,k,l,n⟩:=R.grown (m:=.dK []) g ⟨[],rfl,rfl⟩;exact q j _ k l _ ⟨by simp,by rw[n]⟩
section
variable{K:KW}{Y:Nat->Addr}{k:Nat}{H:Hp}
theorem KVs.val:∀{l:List (Key×D)} {r:List (Key×V)} (y:Key),KVs K Y k H l r->(CU l y=none/\FS r y=none)∨∃d v,CU l y=some d/\FS r y=some v/\Is K Y k H d v
 |[],_,y,h=>by cases h;exact .inl ⟨rfl,rfl⟩
 |(z,d)::l,_,y,h=>by
  obtain⟨v,n,rfl,j,m⟩:=h;by_cases g:z=y
  ·subst g;exact .inr ⟨d,v,by simp[CU],by simp[FS],j⟩
  ·have:=KVs.val y m;simpa[CU,FS,g] using this
theorem KVs.any:∀{l:List (Key×D)} {r:List (Key×V)} (y:Key),KVs K Y k H l r->(l.any λkv=>decide (kv.1=y))=(r.any λkv=>decide (kv.1=y))
 |[],_,y,h=>by cases h;rfl
 |(z,d)::l,_,y,h=>by
  obtain⟨v,m,rfl,n,j⟩:=h;rw[List.any_cons,List.any_cons,KVs.any y j]
theorem KVs.length:∀{l:List (Key×D)} {r:List (Key×V)},KVs K Y k H l r->r.length=l.length
 |[],_,h=>by cases h;rfl
 |(z,d)::l,_,h=>by
  obtain⟨v,j,rfl,m,g⟩:=h;rw[AAH,AAH,KVs.length g]
theorem KVs.app:∀{l:List (Key×D)} {r:List (Key×V)} {y:Key} {d:D} {v:V},KVs K Y k H l r->Is K Y k H d v->KVs K Y k H (l++[(y,d)]) (r++[(y,v)])
 |[],_,y,d,v,h,g=>by cases h;exact⟨v,[],rfl,g,rfl⟩
 |(z,e)::l,_,y,d,v,h,g=>by
  obtain⟨w,n,rfl,j,m⟩:=h;exact⟨w,_,rfl,j,KVs.app m g⟩
theorem KVs.mapPut:∀{l:List (Key×D)} {r:List (Key×V)} {y:Key} {d:D} {v:V},KVs K Y k H l r->Is K Y k H d v->KVs K Y k H (l.map λkv=>if kv.1=y then (kv.1,d) else kv) (r.map λkv=>if kv.1=y then (kv.1,v) else kv)
 |[],_,y,d,v,h,g=>by cases h;rfl
 |(z,e)::l,_,y,d,v,h,g=>by
  obtain⟨w,q,rfl,p,m⟩:=h;by_cases n:z=y
  ·subst n;simp;exact⟨v,_,rfl,g,KVs.mapPut m g⟩
  ·simp[n];exact⟨w,_,rfl,p,KVs.mapPut m g⟩
theorem KVs.put(h:KVs K Y k H l r)(g:Is K Y k H d v):KVs K Y k H (Dc l y d) (Ha r y v):=by
 unfold Dc Ha;rw[h.any y];split
 ·exact h.mapPut g
 ·exact h.app g
theorem Ik(h:Is K Y k H d v)(e:L9 d=some y):v=kV y:=by
 cases d with
 |int i=>cases e;exact h
 |str i=>cases e;exact h
 |_=>cases e
theorem Dh(R:RelH K Y Z H)(i:Is K Y Z.length H d v)(e:FL d Z=some (r,Z')):Z'=Z/\d=.ref r.1/\Z[r.1]?=some (.dK r.2)/\v=.ref (Y r.1)/\∃g,H (Y r.1)=some (.dK g)/\KVs K Y Z.length H r.2 g:=by
 cases d with
 |ref n=>
  have e:(match Z[n]? with|some (.dK l)=>some ((n,l),Z)|_=>none)=some (r,Z'):=e;split at e
  ·rename_i l h;cases e;obtain⟨u,j,g,rfl,m⟩:=R.obj n _ h;exact⟨rfl,rfl,h,i.2,g,j,m⟩
  ·cases e
 |_=>cases e
end
noncomputable def Dr(d y:D):M D:=bnd (FL d) λr=>λZ=>((L9 y).bind (CU r.2)).map λv=>(v,Z)
theorem Lq(v:Room k X.A)(w:RE X o mo)(hi:RE X i mi)(z:XE i:=by exact λ_ _=>rfl):RE X (.Subscript o i pos) (mOp Dr mo mi):=RE.wk (WL (UI v) w.pe hi.pe z) λO H Q h=>by
 obtain⟨Y,Z,B,d,Z',R,S,e,q⟩:=h;obtain⟨x,p,A,j⟩:=AI e;obtain⟨y,C,E,l⟩:=AI j;obtain⟨r,x6,F,g⟩:=AI l;refine⟨Y,Z,B,x,p,R,S,A,λG H1 s I v1 J=>⟨G,p,B,y,C,I,S.ext s,E,λK L t R2 v2 N=>?_⟩⟩;obtain⟨P,_,g1,rfl,T,U,W⟩:=Dh R2 (J.ext t) F;subst P;cases m:L9 y with
 |none=>rw[m] at g;cases g
 |some ky=>
  rw[m] at g;cases Ik N m;rcases W.val ky with ⟨n,_⟩|⟨dd,u,n,z2,z3⟩
  ·rw[Option.bind_some,n] at g;cases g
  ·rw[Option.bind_some,n] at g;cases g;exact⟨_,u,rfl,by rw[←z2];exact DGet.k U,q K L (s.trans t) R2 u z3⟩
noncomputable def Oq(d:D):M Unit:=bnd (FL d) λ_=>ret ()
theorem RP(e:Oq d Z=some (u,Z')):Z'=Z/\∃r,FL d Z=some (r,Z):=by
 obtain⟨r,k,g,h⟩:=AI e;cases h;cases d with
 |ref n=>
  have j:(match Z[n]? with|some (.dK l)=>some ((n,l),Z)|_=>none)=some (r,Z'):=g;split at j
  ·cases j;exact⟨rfl,_,g⟩
  ·cases j
 |_=>cases g
noncomputable def Kc(g:Bool)(y d:D):M D:=bnd (FL d) λr=>λZ=>(L9 y).map λk=>(.bl (if g then !(CU r.2 k).isSome else (CU r.2 k).isSome),Z)
theorem Ya(h:tE K (mOp (Kc false) mi mo) O H Q):aJ (tE K mi) (tE K mo) O H Q:=by
 obtain⟨Y,Z,B,d,U,R,S,e,q⟩:=h;obtain⟨y,u,A,j⟩:=AI e;obtain⟨x,C,E,k⟩:=AI j;obtain⟨r,W,F,g⟩:=AI k;refine⟨Y,Z,B,y,u,R,S,A,λG H1 l I v1 J=>⟨G,u,B,x,C,I,S.ext l,E,λv w m R2 v2 L=>?_⟩⟩;obtain⟨N,_,g1,rfl,n,P,T⟩:=Dh R2 L F;subst N;cases p:L9 y with
 |none=>rw[p] at g;cases g
 |some z=>
  rw[p] at g;cases g;cases Ik (J.ext m) p;refine⟨_,FS n z,rfl,DGet.k P,?_⟩;rcases T.val z with ⟨s,t⟩|⟨dd,vv,s,t,z3⟩
  ·rw[t];rw[s] at q;exact q v w (l.trans m) R2 _ (ofB _)
  ·rw[t];rw[s] at q;exact q v w (l.trans m) R2 _ (ofB _)
theorem S5(g:Room k X.A)(hi:RE X i mi)(h:RE X o mo)(j:behindInMarks .In o=false:=by first|exact d _ (by decide) (by decide)|rfl):RE X (.Compare i [.In] [o] pos) (mOp (Kc false) mi mo):=RE.wk (Yz (Y4 (UI g) hi.pe h.pe) j) λ_ _ _=>Ya
noncomputable def EN(mo mi mv:Sl->M D):Sl->M (Fl×Sl):=λB=>bnd (mv B) λv=>bnd (mo B) λx=>bnd (mi B) λy=>bnd (FL x) λr=>λZ=>match L9 y with
 |some k=>if r.2.length<sizeLine then some ((.next,B),Z.set r.1 (.dK (Dc r.2 k v))) else none
 |none=>none
theorem IZ(K:Room k X.A)(L:RE X o mo)(hi:RE X i mi)(N:RE X g mv)(P:swapsWith g (some (.Subscript o i j)) pos.line X.env=pure false:=by rfl):RS X (.Assign [.Subscript o i j] g pos) (EN mo mi mv):=RS.wk (WF (UI K) L.pe hi.pe N.pe P) λDn O H h=>by
 obtain⟨Y,Z,B,f,Q,T,R,S,e,q⟩:=h;obtain⟨v,E,U,n⟩:=AI e;obtain⟨x,F,W,p⟩:=AI n;obtain⟨y,x6,e3,s⟩:=AI p;obtain⟨r,u4,e4,d⟩:=AI s;refine⟨Y,Z,B,v,E,R,S,U,λx4 H1 t R1 v1 i1=>⟨x4,E,B,x,F,R1,S.ext t,W,λw9 H2 u R2 v2 i2=>⟨w9,F,B,y,x6,R2,S.ext (t.trans u),e3,λx8 H3 w G v3 i3=>?_⟩⟩⟩;obtain⟨hm,hx,g1,z,kvs,g2,I⟩:=Dh G (i2.ext w) e4;subst hm;have l:=(t.trans u).trans w;cases A:L9 y with
 |none=>rw[A] at d;cases d
 |some ky=>
  rw[A] at d;have d:(if r.2.length<sizeLine then some _ else none)=some ((f,Q),T):=d;split at d
  ·rename_i hl;cases d;cases Ik i3 A;have C  := (AAT.mp g1).1;obtain⟨J,R4⟩:=G.changed (m:=.dK (Dc r.2 ky v)) C ⟨_,rfl,I.put (i1.ext (u.trans w))⟩;exact⟨_,_,z,DPut.k g2 (by rw[I.length];exact hl),q x8 _ (l.trans J) R4 O (S.ext (l.trans J))⟩
  ·cases d
noncomputable def Ct:Nat->List D->List D
 |_,[]=>[]
 |k,d::g=>.tup [.int k,d]::Ct (k+1) g
theorem LI:∀(k:Nat) (ds:List D),(Ct k ds).length=ds.length
 |_,[]=>rfl
 |k,_::ds=>by unfold Ct;simp[LI (k+1) ds]
theorem Hr:∀(k:Nat) (ds:List D) (j:Nat),(Ct k ds)[j]?=(ds[j]?).map λd=>.tup [.int ((k+j:Nat):Int),d]
 |_,[],j=>by simp[Ct]
 |k,d::ds,0=>by simp[Ct]
 |k,d::ds,j+1=>by
  unfold Ct;rw[List.getElem?_cons_succ,List.getElem?_cons_succ,Hr (k+1) ds j];have:k+1+j=k+(j+1):=by lia
  rw[this]
noncomputable def QE:List D->M (List D)
 |[.lst d]=>ret d
 |[.scr g]=>ret (g.map D.int)
 |_=>Bj
noncomputable def GP(m:Sl->M (List D)):Sl->M (List D):=λB=>bnd (m B) λd=>bnd (QE d) λg=>ret (Ct 0 g)
theorem Ji(r:∀g (Z':Mh) H',Ext Y Z.length H g Z'.length H'->RelH K g Z' H'->k K H')(i:IsL K Y Z.length H ds l):
  ItM K (ItP K l.length (HC l) k) (Ct 0 ds) Y Z H:=by
 intro g Z' H' E R;have h:=r g Z' H' E R;rw[LI,←i.length];refine⟨λj s=>⟨s,h⟩,⟨rfl,h⟩,λj x B d m y=>?_⟩;obtain⟨T,t,rfl,rfl⟩:=y;obtain⟨p,R2⟩:=R.laid (.tup (HC l j)) t;refine⟨p,R2,?_⟩;rw[Hr] at m;cases q:ds[j]? with
 |none=>rw[q] at m;cases m
 |some u=>
  rw[q] at m;cases m;obtain⟨w,v,z⟩:=(i.ext E).get q;have A:l.getD j V.non=w:=by simp[List.getD,v]
  have es:HC l j=[.int j,w]:=by unfold HC;rw[A]
  have n:IsL K g (List.length Z') _ [.int ((0+j:Nat):Int),u] [.int j,w]:=.cons (by unfold Is;simp) (.one (z.ext p));unfold Is;exact⟨T,_,rfl,SqT.of Br,(congrArg _ es).mpr n⟩
theorem Ee(x:X.mg "enumerate" = none)(y:RA X [a] m)(z:Gl X "enumerate" := by rfl)(A:starEach [a] X.env=[(false,eval a X.env)]:=by rfl):RI X (.Tuple es Q l) (.Call (.Name "enumerate" p) [a] [] pos) (GP m):=
 RI.wk (TR z x y.pe A) λO H R q=>by
  obtain⟨Y,Z,B,T,n,C,S,e,q⟩:=q;obtain⟨F,G,I,j⟩:=AI e;obtain⟨U,W,d,k⟩:=AI j;cases k;refine⟨Y,Z,B,F,G,C,S,I,λr s t u vs w=>?_⟩;unfold QE at d;split at d
  ·cases d;obtain⟨v,rfl,h⟩:=FE w;obtain⟨p,J,rfl,g,K,L⟩:=h;exact⟨p,J,rfl,SqL.of g,q r s t u _ (Ji (λN n P E _=>SqL.of (E.keep p _ g K)) L)⟩
  ·cases d;obtain⟨v,rfl,h⟩:=FE w;unfold Is at h;obtain⟨p,rfl,g⟩:=h;exact⟨p,_,rfl,g.sq,q r s t u _ (Ji (λN n P E _=>(Ln E g).sq) (IsL.ofInts _))⟩
  ·cases d
noncomputable def ML:List D->Option (List Bool)
 |[]=>some []
 | .bl b::d=>(ML d).map (b::·)
 |_=>none
theorem Qc:∀{ds:List D} {d:List V} {bs:List Bool},IsL K Y k H ds d->ML ds=some bs->d=bs.map V.bl
 |[],_,_,h,e=>by cases e;exact h
 | .bl b::ds,_,_,h,e=>by
  obtain⟨v,g,rfl,j,l⟩:=h;unfold ML at e;cases q:ML ds with
  |none=>rw[q] at e;cases e
  |some bs=>
   rw[q] at e;cases e;rw[j,Qc l q];rfl
 | .non::_,_,_,_,e=>by cases e
 | .int _::_,_,_,_,e=>by cases e
 | .str _::_,_,_,_,e=>by cases e
 | .ty _::_,_,_,_,e=>by cases e
 | .scr _::_,_,_,_,e=>by cases e
 | .tup _::_,_,_,_,e=>by cases e
 | .lst _::_,_,_,_,e=>by cases e
 | .ref _::_,_,_,_,e=>by cases e
noncomputable def U2:List D->M D
 |[.lst d]=>λZ=>(ML d).map λg=>(.bl (g.all id),Z)
 |_=>Bj
theorem X2(j:X.calm=true):B7 X (.builtin "all") (rMA X.kw U2):=λk s O H l m Q I r h=>by
 obtain⟨Y,Z,z,d,A,R,n,e,q⟩:=h;refine Rl j k s O H l m Q I r ?_;unfold U2 at e;split at e
 ·rename_i t;cases g:ML t with
  |none=>rw[g] at e;cases e
  |some u=>
   rw[g] at e;cases e;obtain⟨v,rfl,w⟩:=FE n;obtain⟨p,B,rfl,x,_,y⟩:=w;exact⟨p,u,rfl,SqL.of (by rw[←Qc y g];exact x),q Y H R.ext0 R _ (ofB _)⟩
 ·cases e
end
theorem BS:bootBuiltins "len" = some (.builtin "len"):=by decide +kernel
theorem B3:bootBuiltins "isinstance" = some (.builtin "isinstance"):=by decide +kernel
theorem Uz:bootBuiltins "max" = some (.builtin "max"):=by decide +kernel
theorem Nl:bootBuiltins "all" = some (.builtin "all"):=by decide +kernel
theorem HK:bootBuiltins "int" = some (.type "int"):=by decide +kernel
theorem Rm:bootBuiltins "bool" = some (.type "bool"):=by decide +kernel
theorem FK:bootBuiltins "tuple" = some (.type "tuple"):=by decide +kernel
theorem C8:bootBuiltins "list" = some (.type "list"):=by decide +kernel
theorem Uy:bootBuiltins "set" = some (.type "set"):=by decide +kernel
noncomputable def GG:Nat:=1048576
structure Fn(P:Program)(w:World)(K:PySem.W.Frag)(mg:Str->Option Value)(base:Heap)(x:Str)(ps:List Str)(k:Nat)(φ:List D->M D):Prop where
 len:∀ds Z r,φ ds Z=some r->ds.length=ps.length
 ex:∃f fd,FnOk P w K mg base CX0 k f fd ps (spM ⟨K,w⟩ ps.length φ)/\mg x=some (.ref f)/\PySem.W.keepIn K (.ref f)=true/\Binds K fd ps []
def Glo(K:PySem.W.Frag)(a:Str->Option Value)(x:Str)(d:D):Prop:=∃u v,a x=some u/\RelV v u/\∀w Y k H,Is ⟨K,w⟩ Y k H d v
section
variable{X:Cx}{e:Expr}{es:List Expr}{pos p:Pos}
theorem Am(F:Fn X.prog X.w X.kw X.mg X.base x q k φ)(d:Room j X.A)(g:RA X (e::es) m)(hkj:k<=j:=by decide)(h:Gl X x:=by rfl)(a:(x==("__debug__" : Str))=false:=by decide)
  (i:starEach (e::es) X.env=(false,eval e X.env)::starEach es X.env:=by exact BI rfl) (b:(backTo pos (starEach es X.env)).any (·.1)=false:=by exact DR rfl):RE X (.Call (.Name x p) (e::es) [] pos) (AE φ m):=by
 obtain⟨c,f,r,F,l,n,o⟩:=F;exact V8 F (d.mono hkj) l n o c g h a i b
theorem Dq(h:Glo X.kw X.mg x d)(b:Gl X x:=by rfl)(a:(x==("__debug__" : Str))=false:=by decide):RE X (.Name x pos) (mC d):=by
 obtain⟨u,v,c,r,f⟩:=h;exact V6 c r (f _) b a
end
theorem Zg(F:Fun K x a h f m)(S:Ab N j (AQ h))(o:n x=some (.ref f))(p:Binds K m j [])
  (c:∀(e:Value) (A:Around) (b:List Env) (s:Shared) (H:Hp) (E:XK),Room k (A.deeper (PyProof.Rows.envOfC a (AQ h) s.heap.objs.size f e))->RSs (HH CX0 P w K n g N a (AQ h) f e A b s H E).nox (Cb h) q)
  (l:∀ds Z r,φ ds Z=some r->ds.length=j.length)
  (run:∀ds Z d Z',φ ds Z=some (d,Z')->∃i x3 w6,q (Bc N.length ds) Z=some ((i,x3),w6)/\(i=.next∨∃d,i=.rt d)/\Eu Z w6 Z' (Ef i) d):Fn P w K n g x j (k+1) φ:=
 ⟨l,f,m,LD F S rfl c run,o,F.kp,p⟩
theorem GV(h:Cl Z.length d):Eu Z (Z++g) Z d d:=⟨⟨g,rfl⟩,AAE _,λ_ _=>.inl,.inl ⟨rfl,h⟩⟩
end Mi
namespace L2
open PySem PySem.Spec PyProof.Rows Sem
section
variable{prog:Program}{w:World}{A:Around}{E:Value->Shared->Prop}{s:Shared}
theorem GT[Decidable c](h:¬c)(d:wpAny M A b Q E s):wpAny M A (if c then a else b) Q E s:=by
 rw[if_neg h];exact d
theorem Ml(D:A.handled=none)(j:s.heap.IsTupleIter d t i)(G:s.heap.IsTuple t b)
  (l:∀x f,b[i]?=some x->f.IsTupleIter d t (i+1)->Heap.SameBut d s.heap f->Q x { s with heap:=f })
  (p:b[i]?=none->∀f e,Heap.ExtBut d s.heap f->(∃o,f.get? e=some o/\o.cls=.type "StopIteration")->E (.ref e) { s with heap:=f }) :
  wpAny (model prog w) A (Builtin.SmallTypes.nextOf (.ref d)) Q E s:=by
 have B:=j.typeIs;obtain⟨o,a,H,h⟩:=j;obtain⟨I,q,_,n,u⟩:=G;have y:∀k v,(s.heap.update d (Obj.mapFields (λz=>z.set! k v))).get? d=some (Obj.mapFields (λz=>z.set! k v) o):=λk v=>Heap.get?_update_self _ a (Obj.isFreed_of_fields (Obj.data_mapFields h _));unfold Builtin.SmallTypes.nextOf;refine AAA (wpAny_callSpecial?_slot B F.slot_tuple_iterator_next (AAb F.slot_tuple_iterator_next B F.entry_tuple_iterator_next ?_ (F.args_tuple_iterator_next_1 _)));have c  := AAf;refine AAA (m:=field (.ref d) 0) (AAs a h (x:=.ref t) rfl (GT c (AAA (AAs a h (x:=.int i 0) rfl (AAA (wpAny_seqItems q u ?_))))));have C  := Int.toNat_natCast i;cases r:b[i]? with
 |some x=>
  dsimp only;rw[C,r];refine AAA (wpAny_setField a h (by simp) (AAB ⟨x,rfl,AAB (l x _ r ⟨_,y _ _,?_,?_⟩ (Heap.SameBut.update ..))⟩))
  ·exact(Obj.cls_mapFields ..).trans H
  ·rw[Obj.data_mapFields h];rfl
 |none=>
  dsimp only;rw[C,r];refine AAA (wpAny_rule (AAA (wpAny_setField a h (by simp) ?_)));have g:firstArgMember (.type "StopIteration") []=pure Value.none:=by first|rfl|(unfold firstArgMember;rfl)
  unfold Builtin.SmallTypes.stopIteration newExc newTuple;exact AAA (AAA (AAp (AAA (wpAny_of_eq g (AAp (wpAny_raiseNew_none D (p r _ _ (((Heap.SameBut.update ..).extBut.push _).push _) ⟨_,AAD _ rfl,rfl⟩)) (by size_fits)))) (by size_fits)))
theorem RZ(j:A.handled=none)(b t:Addr)(c:t≠b)(a:Array Value):
  Draws prog w A b [b,t] a.size (λi v=>a[i]?=some v) (λi h=>h.IsTupleIter b t i/\h.IsTuple t a):=by
 refine⟨λi h st=>?_,λi h d st k=>⟨?_,?_⟩,λi s Q E m st q=>?_,λs Q E st q=>?_⟩
 ·obtain⟨⟨o,e,_⟩,_⟩:=st;exact⟨o,e⟩
 ·obtain⟨⟨o,e,r⟩,_⟩:=st;exact⟨o,k b (by simp) o e,r⟩
 ·obtain⟨_,o,e,r⟩:=st;exact⟨o,k t (by simp) o e,r⟩
 ·exact Ml j st.1 st.2 (λx d f g l=>q x d s.toks f ⟨g,st.2.extBut l.extBut c⟩ l) λn=>absurd n (by simp[m])
 ·exact Ml j st.1 st.2 (λx d f=>absurd f (by simp)) λ_=>q
noncomputable abbrev Ip(a:Addr):Obj:={ cls:=.type "enumerate",data:=.fields #[.none,.bool false,.ref a,rawInt 0,.none,.none] }
theorem UX(v:Value)(b:Obj)(good:Heap->Prop)(d:∀(prog:Program) (w:World) (A:Around) (E:Value->Shared->Prop) (s:Shared) (Q:Value->Shared->Prop),good s.heap->Q (.ref s.heap.objs.size) { s with heap:=s.heap.push b }->wpAny (model prog w) A (pyIter v) Q E s):
  Meets (Builtin.«enumerate.__new__» ⟨[.type "enumerate",v],[]⟩) (λ_ R s=>good s.heap/\R (.ok (.ret (.ref (s.heap.push b).objs.size))) { s with heap:=(s.heap.push b).push (Ip s.heap.objs.size) }):=by
 refine .of_wp λprog w A R s ⟨g,q⟩=>?_;have e:=sub_enumerate;have a  := λA E Q=>d prog w A E s Q g;obtain⟨f,h,i,j,os⟩:=s
 wp_walk
 refine wpAny_stack_any λst=>AAB ?_;split
 ·rename_i c _ _ _ _ _;cases (c==Value.type "enumerate")<;>(wp_walk using a;exact⟨_,rfl,q⟩)
 ·wp_walk using a
  exact⟨_,rfl,q⟩
end
end L2
namespace L2
open PySem PySem.Spec PyProof.Rows
theorem N3{P:Program}{w:World}{K:PySem.W.Frag}(a e c:Addr)(xs:List V)(g:e≠c)(j:e≠a)(l:a≠c):
  MU P w K (.Tuple es C pos) (ItP K xs.length (HC xs) λK H=>SqT K H a xs) [e,c] e (λi h=>(∃d,IsEnum h e c i d)/\h.IsTupleIter c a i):=by
 refine JB (fp:=[e,c,a]) (Mid:=λb i T h=>(∃x,IsEnumOut h e c (i+1) x T)/\(h.IsTupleIter c a (i+1)/\h.IsTuple a b.toArray)/\T≠e/\T≠c) (good:=Vals xs) (Sw:=λb i h=>_/\h.IsTupleIter c a i/\h.IsTuple a b.toArray)
  (λA t b r=>?walk) AAP (λb i n r h=>Jw r h) λi=>by show 2<=sizeLine;decide (λi h st=>?obj) (λi h F st k=>?keep) (λX G O H s i J L u I v st=>?into) (λz i h st=>⟨st.1,st.2.1⟩) λA i s Q E st h=>?self
 case walk=>
  have y  := r.length;have D:=RZ (prog:=P) (w:=w) (A:=A.in1) t c a l b.toArray;rw[y];exact WalksT.enumerateD D e g (by simp[g,j]) (by simp)
 case obj=>
  obtain⟨o,m,_,B⟩:=st.2;exact UY st.1 m ⟨_,B⟩
 case keep=>
  obtain⟨⟨d,q⟩,o,m,r⟩:=st;exact⟨⟨d,k e (by simp) _ q⟩,o,k c (by simp) o m,r⟩
 case into=>
  subst u;obtain⟨b,r,p,_⟩:=I.tuple v;exact⟨b,r,st.1,st.2,p⟩
 case self=>exact QN (f:=λi h=>_) A i s Q E st h
section
variable{X:Cx}{es:List Expr}{k0:Nat}{tpos:Pos}
noncomputable def ZX(K:PySem.W.Frag)(d:TA):TI:=λO H R=>d O H λe c=>∃a b,e=[.ref a]/\SqT K c a b/\R (ItP K b.length (HC b) λK H=>SqT K H a b) c
theorem TQ(z:Gl X "enumerate")(A:X.mg "enumerate" = none)(B:PA X [a] C)(D:starEach [a] X.env=[(false,eval a X.env)]:=by rfl):PI X (.Tuple es k0 tpos) (.Call (.Name "enumerate" p) [a] [] pos) (ZX X.kw C):=by
 intro E s O H R I h;refine Call_ (Hf I z A LM (PyProof.Rows.callWith_type1 (thn (B pos E s O H _ I h) λU c ⟨W,J,j,L,M⟩=>?_) D rfl));obtain⟨l,N,P,Q,q⟩:=M;subst P;obtain⟨u,S,T⟩:=Ea L;subst S;cases T;obtain⟨k,Y,v,Z⟩:=j.tuple Q;have w:l<c.heap.objs.size:=by obtain⟨o,e,_⟩:=v;exact Heap.lt_size e
 have m:=UX (.ref l) { cls:=.type "tuple_iterator",data:=.fields #[.ref l,.int 0 0] } (λh=>h.IsTuple l k.toArray) (λ_ _ _ _ _ _=>wpAny_pyIter_tuple);refine callType_new F.called_enumerate (by decide) (F.typeCall_enumerate_1 _) (F.newCall_enumerate_1 _) (λn=>F.args_object_init_2 n _) F.entry_enumerate_new m ⟨v,?_⟩;generalize r:c.heap.push { cls:=.type "tuple_iterator",data:=.fields #[.ref l,.int 0 0] }=G;have f:G.objs.size=c.heap.objs.size+1:=by rw[←r];exact Heap.size_push ..
 have d:(G.push (Ip c.heap.objs.size)).get? (c.heap.objs.size+1)=some (Ip c.heap.objs.size):=by rw[←f];exact AAD _ rfl
 have y  := d;have g:(G.push (Ip c.heap.objs.size)).IsTupleIter c.heap.objs.size l 0:=⟨_,AAC _ (r ▸ AAD _ rfl),rfl,rfl⟩;show _/\_;rw[f];refine⟨⟨_,d,rfl⟩,wpAny_pyIter_enum y ⟨c.heap.objs.size+1,[c.heap.objs.size+1,c.heap.objs.size],λi h=>(∃t,IsEnum h (c.heap.objs.size+1) c.heap.objs.size i t)/\h.IsTupleIter c.heap.objs.size l i,_,J,rfl,j.kept λb o x=>AAC _ (r ▸ AAC _ x),?_,⟨⟨_,y⟩,g⟩,SS j,q⟩⟩;exact N3 l _ _ N (Nat.succ_ne_self _) (Nat.ne_of_gt (AAg w)) (AAc w)
end
end L2
namespace Mi
open PySem L2
section
variable{X:Cx}{a:Expr}{es:List Expr}{pos:Pos}
noncomputable def SU:List D->M (List D)
 |[.tup b]=>ret b
 |_=>Bj
noncomputable def T2(m:Sl->M (List D)):Sl->M (List D):=λB=>bnd (m B) λb=>bnd (SU b) λc=>ret (Ct 0 c)
theorem Sv(f:X.mg "enumerate" = none)(g:RA X [a] m)(h:Gl X "enumerate" := by rfl)(i:starEach [a] X.env=[(false,eval a X.env)]:=by exact BI rfl):RI X (.Tuple es F c) (.Call (.Name "enumerate" p) [a] [] pos) (T2 m):=
 RI.wk (TQ h f g.pe i) λO H R q=>by
  obtain⟨Y,Z,B,G,j,k,S,e,q⟩:=q;obtain⟨l,n,o,r⟩:=AI e;obtain⟨I,J,b,s⟩:=AI r;cases s;refine⟨Y,Z,B,l,n,k,S,o,λt u w x K y=>?_⟩;unfold SU at b;split at b
  ·cases b;obtain⟨v,rfl,z⟩:=FE y;obtain⟨p,A,rfl,d,C⟩:=z;exact⟨p,A,rfl,d,q t u w x _ (Ji (λL j N E _=>Lj E d) C)⟩
  ·cases b
end
end Mi
namespace L2
open PySem PySem.Spec PyProof.Rows Sem
section
variable{prog:Program}{w:World}{A:Around}{E:Value->Shared->Prop}{s:Shared}
set_option maxHeartbeats 2000000 in
theorem Wc(g:TypeCalled T l m)(o:checkTypeCall T ⟨b,[]⟩=pure ())
  (n:codeAny (model prog w) A.in1 (.call (.builtin l) ⟨.type T::b,[]⟩) (wants Q₁ E) s)
  (h:∀x d,Q₁ x d->d.TypeIs x T/\codeAny (model prog w) A.in1 (.call (.builtin m) ⟨x::b,[]⟩) (wants (λr f=>r=.none/\Q x f) E) d) :
  wpAny (model prog w) A (call (.type T) b) Q E s:=by
 have q:=g.notType;have t:=g.canCreate;have u:=g.made;have v:=g.sub;obtain⟨c,z,B⟩:=g.mro;have step:codeAny (model prog w) A (.builtin "type.__call__" ⟨.type T::b,[]⟩) (wants Q E) s:=by
  refine codeAny_builtin F.entry_type_call ?_;rw[Around.under_plain (weight_type_call_type T b []) rfl];unfold Builtin.«type.__call__»
  iterate 3 (any_goals (first|assumption|wp_step))
  first|refine wpAny_of_eq o ?_|refine AAA (wpAny_of_eq o ?_)
  repeat (any_goals (first|assumption|wp_step))
  refine codeAny_mono n λr d i=>?_
  match r,i with
  | .error e,i=>exact i
  | .ok (.ret x),i=>
   obtain⟨C,run⟩:=h x d i;have D:=g.init.lookup;have G:=g.init.bind x
   repeat (any_goals (first|assumption|wp_step))
   refine codeAny_mono run λj f a=>?_
   match j,a with
   | .error e,a=>exact a
   | .ok (.ret y),a=>
    obtain⟨p,H⟩:=a;subst p
    repeat (any_goals (first|assumption|wp_step))
 exact wpAny_call (codeAny_of_tree (AAB ⟨Code.quiet_builtin _ (by decide +kernel),step⟩))
noncomputable abbrev Cy(a:Bool):Obj:={ cls:=.type "set",data:=.set #[] 0 (.fresh 0 0 a) }
end
end L2
namespace Mi
open PySem L2
inductive How where
 |all|drop|frz
noncomputable def Tf(w6:Mh):How->D->D
 | .frz,.ref n=>match w6[n]? with
  |some (.lst a)=>.lst a
  |_=>.ref n
 |_,d=>d
noncomputable def Q0(Z w6:Mh):How->Mh
 | .all=>w6
 |_=>w6.take Z.length
open Classical in
noncomputable def Az(e:How)(n g:Nat)(h:Sl->M (Fl×Sl)):List D->M D:=λf Z=>match h (Bc n f) Z with
 |some ((b,_),c)=>if f.length=g/\(b=.next∨∃d,b=.rt d)/\Eu Z c (Q0 Z c e) (Ef b) (Tf c e (Ef b)) then some (Tf c e (Ef b),Q0 Z c e) else none
 |none=>none
theorem EM(h:Az g n b f ds Z=some (d,Z')):
  ds.length=b/\∃a x3 w6,f (Bc n ds) Z=some ((a,x3),w6)/\(a=.next∨∃d,a=.rt d)/\Eu Z w6 Z' (Ef a) d:=by
 unfold Az at h;split at h
 ·rename_i a x3 w6 e;split at h
  ·rename_i c;cases h;exact⟨c.1,a,x3,w6,e,c.2.1,c.2.2⟩
  ·cases h
 ·cases h
theorem J6(e:c (Bc n ds) Z=some ((a,x3),w6))(f:ds.length=g)(h:a=.next∨∃d,a=.rt d)(t:Eu Z w6 (Q0 Z w6 b) (Ef a) (Tf w6 b (Ef a))):
  Az b n g c ds Z=some (Tf w6 b (Ef a),Q0 Z w6 b):=by
 unfold Az;rw[e];exact if_pos ⟨f,h,t⟩
theorem Ac(e:a (Bc n ds) Z=some ((.rt d,x3),Z++g))(b:ds.length=f)(c:Cl Z.length d):Az .drop n f a ds Z=some (d,Z):=by
 have t:Q0 Z (Z++g) .drop=Z:=by show (Z++g).take _=Z;rw[List.take_left]
 have h:=J6 e b (.inr ⟨d,rfl⟩) (by rw[t];exact GV c);rw[t] at h;exact h
theorem LL(e:b (Bc n ds) Z=some ((.rt (.ref k),x3),Z++g))(d:ds.length=f)(i:Z.length<=k)(a:(Z++g)[k]?=some (.lst es))(c:ClL Z.length es):Az .frz n f b ds Z=some (.lst es,Z):=by
 have t:Q0 Z (Z++g) .frz=Z:=by show (Z++g).take _=Z;rw[List.take_left]
 have o:Tf (Z++g) .frz (Ef (.rt (.ref k)))=.lst es:=by
  show (match (Z++g)[k]? with|some (.lst ds)=>D.lst ds|_=>.ref k)=_;rw[a]
 have h:=J6 e d (.inr ⟨_,rfl⟩) (by rw[t,o];exact⟨⟨g,rfl⟩,AAE _,λ_ _=>.inl,.inr ⟨k,es,rfl,a,i,rfl,c⟩⟩);rw[t,o] at h;exact h
theorem Ay(m:How)(F:Fun K x a i f n)(S:Ab N j (AQ i))(o:l x=some (.ref f))(p:Binds K n j [])
  (c:∀(e:Value) (A:Around) (b:List Env) (s:Shared) (H:Hp) (E:XK),Room k (A.deeper (PyProof.Rows.envOfC a (AQ i) s.heap.objs.size f e))->RSs (HH CX0 P w K l g N a (AQ i) f e A b s H E).nox (Cb i) q) :
  Fn P w K l g x j (k+1) (Az m N.length j.length q):=
 Zg F S o p c (λt Z r h=>(EM h).1) λt Z d u h=>(EM h).2
theorem Fn.mono(F:Fn P w K c a x d j φ)(h:j<=k):Fn P w K c a x d k φ:=by
 obtain⟨b,f,e,F,g,i,l⟩:=F;exact⟨b,f,e,F.mono h,g,i,l⟩
theorem NV(F:Fun K x b t f c)(j:l x=some (.ref f))(m:Binds K c n []):Fn P w K l g x n k (λ_=>Bj):=by
 refine⟨λu Z r h=>absurd (show none=some r from h) (by simp),f,c,⟨λo H Q E h=>?_,λA a s H i v o Q E _ _ _ _ h=>?_⟩,j,F.kp,m⟩
 ·obtain⟨_,Y,Z,p,d,q,_,_,e,_⟩:=h;cases e
 ·obtain⟨_,Y,Z,p,d,q,_,_,e,_⟩:=h;cases e
section
variable{P:Program}{w:World}{K:PySem.W.Frag}{mg:Str->Option Value}{base h:Heap}{x:Str}
theorem Im(X:K.In h)(G:h.Ns mainGlobals mg)(a:PySem.W.nsIn K mainGlobals x=some (some (.int i t))):Glo K mg x (.int i):=
 ⟨_,.int i,PySem.W.mg_of X G a,⟨t,rfl⟩,λ_ _ _ _=>rfl⟩
structure Df(K:PySem.W.Frag)(x:Str)(st:Stmt)(f:Addr)(fd:FuncData):Prop where
 a:PySem.W.nsIn K mainGlobals x=some (some (.ref f))
 F:Fun K x x st f fd
theorem bb{d:Stmt}{f:Addr}{i:Value}{e:Array (Option Value)}{kV g j b m:Value}(a:PySem.W.nsIn K mainGlobals x=some (some (.ref f)))(l:K.lookup f=some ⟨i,o,.func (PySem.W.fnOf x x (HF d) (Cb d) (AQ d) .none kV g j p b m),e⟩)
  (c:PySem.W.codeIn K b x=true) (k:PySem.W.keepIn K (.ref f)=true):∃f n,Df K x d f n:=⟨f,_,a,Ze l c k⟩
theorem US(j:How)(F:Fun K x a g f l)(S:Ab N i (AQ g))
  (c:∀(e:Value) (A:Around) (b:List Env) (s:Shared) (H:Hp) (E:XK),Room k (A.deeper (PyProof.Rows.envOfC a (AQ g) s.heap.objs.size f e))->RSs (HH CX0 P w K mg base N a (AQ g) f e A b s H E).nox (Cb g) m) :
  FnOk P w K mg base CX0 (k+1) f l i (spM ⟨K,w⟩ i.length (Az j N.length i.length m)):=
 LD F S rfl c λn Z d o h=>(EM h).2
noncomputable def Sh(K:PySem.W.Frag):Sp:=λc H Q _=>∃(a:Addr) (b:List Int),c=[.ref a]/\ScrAt K H a (b.map V.int)/\b.length<=63/\∀d,Q (.bl true) d
theorem YT(F:FnOk P w K mg base CX0 k f c ["_law_script"] (spM ⟨K,w⟩ 1 φ))(b:∀ns:List Int,ns.length<=63->∃Z',φ [.scr ns] []=some (.bl true,Z')):FnOk P w K mg base CX0 k f c ["_law_script"] (Sh K):=
 F.imp λl H Q E q=>by
  obtain⟨a,ns,rfl,s,d,q⟩:=q;obtain⟨Z',e⟩:=b ns d;refine⟨rfl,λ_=>a,[],[.scr ns],.bl true,Z',⟨λi j h=>absurd h (Nat.not_lt_zero _),λn o e=>by simp at e⟩,.one ⟨a,rfl,s⟩,e,λm g p R2 v i=>?_⟩;rw[i];exact q g
theorem Mr(o:XD H)(s:SqL K H a xs):ScrAt K H a xs:=by
 rcases s with z|z
 ·rcases z with z|⟨p,z⟩
  ·rcases o a with q|⟨p,b,q⟩
   ·rw[q] at z;cases z
   grind
  ·exact .inl ⟨p,z⟩
 ·exact .inr z
end
theorem Z8{l:PySem.W.OpenLaw}{q:Program}{c:List Str}{m:(Str->Option Value)->Heap->Prop}{K:Params->PySem.W.Frag}{k:Nat}(hn:l.most=some 63)(g:d.params.defaults=[])(n:k<=60)
  (p:∀(w:World) (h:Heap),r w h->(K w.params).In h)
  (F:∀(w:World) (e:Str->Option Value) (i:Addr) (h:Heap),(K w.params).In h->h.Ns mainGlobals e->e d.name=some (.ref i)->
   ∃j:FuncData,(∀(s:Shared) (u:Value),BindsTo s j ⟨[u],[]⟩ [("_law_script",u)])/\∀b:Heap,(K w.params).In b->b.Ns mainGlobals e->FnOk l.prog w (K w.params) e b CX0 k i j ["_law_script"] (Sh (K w.params))) :
  PySem.W.WalkO q c m r l.row.toRowW d [] (λf t=>PySem.call f t):=
 L2.Vo hn (by decide) g (Room.mono ⟨rfl,by decide,by decide,rfl⟩ n) p F (λ_ _ a v x o y=>⟨a,v,rfl,Mr o y,x,λ_=>rfl⟩) λ_ _ _ _ _ z=>z
open PyProof.Rows
section
variable{X:Cx}{e a b c:Expr}{pos:Pos}
theorem Th:OpR X (binaryOp .Add) (λx y H Q=>∃a b ys,x=.ref a/\y=.ref b/\SqT X.kw H a []/\SqT X.kw H b ys/\Q (.ref b) H):=by
 intro P s O H x y v u Q I t w h;obtain⟨a,b,ys,rfl,rfl,z,A,q⟩:=h;cases t;cases w;obtain⟨B,C,E,_⟩:=I.tuple z;obtain⟨k,R,F,_⟩:=I.tuple A;cases C;obtain⟨⟨G,J,l,L⟩,m,o,n,p⟩:=E;obtain⟨⟨r,i,data2,j⟩,d,f,N,g⟩:=F;simp at o p f g;subst o p f g;exact concat_meets ⟨_,m,rfl⟩ ⟨_,d,rfl⟩ noFill_tuple_add seq_tuple_add PySem.F.slot_tuple_add PySem.F.entry_tuple_add (PySem.F.args_tuple_add_2 _ _) (tuple_addW0 a b _ _ n N J i L j rfl) ⟨m,d,.ref b,H,I,rfl,q⟩
noncomputable def Av(a b:D):M D:=match a,b with
 | .tup [],.tup d=>ret (.tup d)
 |a,b=>TF a b
theorem B2:OpR X (binaryOp .Add) (rM X.kw Av):=λk s O H x y v u Q I l m h=>by
 obtain⟨Y,Z,a,b,d,o,R,n,f,e,q⟩:=h;unfold Av at e;split at e
 ·cases e;obtain⟨p,A,rfl,r,t⟩:=n;subst t;have g:=f;obtain⟨w,i,rfl,j,z⟩:=f;exact Th k s O H _ _ v u Q I l m ⟨p,w,i,rfl,rfl,r,j,q Y H R.ext0 R _ g⟩
 ·exact bF k s O H x y v u Q I l m ⟨Y,Z,_,_,d,o,R,n,f,e,q⟩
theorem Ka{prog:Program}{w:World}{A:Around}{E:Value->Shared->Prop}{s:Shared}{l m:Value}{lo hi:Option Int}{Q:Value->Shared->Prop}(f:IsTup s.heap t d)(n:s.heap.IsSliceOf o l m .none)(p:IsPart l lo)(q:IsPart m hi)
  (r:HT.sIx d.size 0 lo=0) (u:HT.sIx d.size d.size hi=d.size) (h:Q (.ref t) s):wpAny (model prog w) A (getItem (.ref t) (.ref o)) Q E s:=by
 obtain⟨os,i,j,v⟩:=id n;have k:s.TypeIs (.ref o) "slice" := ⟨os,i,j⟩;unfold getItem
 try with_reducible refine AAn ?_
 refine AAA (wpAny_sequenceKey f.typeIs (by decide) (AAA (wpAny_callSpecial?_slot f.typeIs PyProof.Rows.slot_tuple_getitem
  (AAb PyProof.Rows.slot_tuple_getitem f.typeIs entry_tuple_getitem ?_ (args_tuple_getitem _ _)))))
 show wpAny _ _ (Builtin.Tuple.tupleItemsOf (.ref t) >>= _) _ _ s;refine AAA (tupleItemsOf_ f (AAA (wpAny_typeOf k (AAA (HT.Eb n p q ?_)))));have g:((HT.sIx d.size 0 lo:Int)==0&&(1:Int)==1&&HT.sIx d.size d.size hi-HT.sIx d.size 0 lo==d.size)=true:=by rw[r,u];simp
 show wpAny _ _ (if _=true then _ else _) _ _ s;rw[if_pos g];exact AAA (AAA (wpAny_typeOf f.typeIs (AAB (AAA (wpAny_rule (AAB ⟨_,rfl,AAB h⟩))))))
theorem Vy:SlR X (λx lo hi H Q=>∃a xs,x=.ref a/\SqT X.kw H a xs/\HT.sIx xs.length 0 lo=0/\HT.sIx xs.length xs.length hi=xs.length/\Q (.ref a) H):=by
 intro p s O H x v t u lo hi w Q I i j k l h;obtain⟨a,xs,rfl,m,n,o,q⟩:=h;cases i;obtain⟨f,r,g,y⟩:=I.tuple m;have d:f.toArray.size=xs.length:=r.length.symm;exact⟨"tuple",_,PyProof.Rows.slot_tuple_getitem.lookup,g.typeIs,Ka g j k l (by rw[d];exact n) (by rw[d];exact o) ⟨.ref a,H,I,rfl,q⟩⟩
theorem Um{ds:List D}{lo hi:Option Int}(d:HT.sIx ds.length 0 lo=0)(f:HT.sIx ds.length ds.length hi=ds.length):FT ds lo hi=ds:=by
 unfold FT;rw[d,f];simp
noncomputable def JV(lo hi:Option Int):D->M D
 | .tup f=>ret (.tup (FT f lo hi))
 |d=>bnd (EZ d) λf=>ret (.lst (FT f lo hi))
noncomputable def cT(K:KW):V->Option Int->Option Int->Hp->VK->Prop:=λx lo h H Q=>∃Y Z a d f,RelH K Y Z H/\Is K Y Z.length H a x/\JV lo h a Z=some (d,f) /\
 Aft K Y Z H f λi g=>∀v,Is K i f.length g d v->Q v g
theorem bC:SlR X (cT X.kw):=λk s O H x v l m lo g n Q I o r t u h=>by
 obtain⟨Y,Z,a,d,w,R,i,e,q⟩:=h;by_cases c:∃f,a=.tup f/\HT.sIx f.length 0 lo=0/\HT.sIx f.length f.length g=f.length
 ·obtain⟨f,rfl,y,A⟩:=c;have e:some _=some (d,w):=e;rw[Um y A] at e;cases e;have j:=i;obtain⟨p,C,rfl,E,B⟩:=i;exact Vy k s O H _ v l m lo g n Q I o r t u ⟨p,C,rfl,E,by rw[B.length];exact y,by rw[B.length];exact A,q Y H R.ext0 R _ j⟩
 ·refine cX k s O H x v l m lo g n Q I o r t u ⟨Y,Z,a,d,w,R,i,?_,q⟩;cases a with
  |tup f=>
   show (if HT.sIx f.length 0 lo=0/\HT.sIx f.length f.length g=f.length then Bj else ret _) Z=_;rw[if_neg λz=>c ⟨f,rfl,z.1,z.2⟩];exact e
  |_=>exact e
noncomputable def DT(me:Sl->M D)(d f:Sl->M (Option Int)):Sl->M D:=λB=>bnd (me B) λx=>bnd (d B) λl=>bnd (f B) λh=>JV l h x
theorem D9{e:Expr}{lo hi:Option Expr}(m:RE X e me)(n:RO X lo o)(p:RO X hi r):RE X (.Subscript e (.Slice lo hi none T) pos) (DT me o r):=RE.wk (TU bC m.pe n.pe p.pe) λO H Q h=>by
 obtain⟨Y,Z,B,z,s,R,S,e,q⟩:=h;obtain⟨x,g,t,e⟩:=AI e;obtain⟨l,i,w,e⟩:=AI e;obtain⟨u,j,y,e⟩:=AI e;refine⟨Y,Z,B,x,g,R,S,t,λA U f C v E=>⟨A,g,B,l,i,C,S.ext f,w,λF W k R2=>⟨F,i,B,u,j,R2,S.ext (f.trans k),y,λG H3 I J=>?_⟩⟩⟩;have d:=k.trans I;exact⟨G,j,x,z,s,J,E.ext d,e,λL N P=>q L N ((f.trans d).trans P)⟩
end
end Mi
namespace Mi
open PySem L2
open PyProof.Rows hiding St
section
variable{X:Cx}{e o:Expr}{apos cpos:Pos}
noncomputable def FC(g:D->List D->M D)(mo:Sl->M D):Sl->M D:=λB=>bnd (mo B) λx=>bnd (EU x) λ_=>g x []
theorem Qo{K:KW}{g:D->List D->M D}{mo:Sl->M D}(h:tE K (FC g mo) O H Q):aO K "list" (rMM K g) (tE K mo) O H Q:=by
 obtain⟨Y,Z,B,d,j,R,S,e,q⟩:=h;obtain⟨x,t,k,a⟩:=AI e;obtain⟨u,v,c,b⟩:=AI a;have l:=Hi c;subst l;exact⟨Y,Z,B,x,_,R,S,k,λm w n f y i=>⟨(IJ f i c).2,m,_,x,[],d,j,f,i,IsL.nil,b,λp r s=>q p r (n.trans s)⟩⟩
theorem Ks{name:Str}{id:String}(c:Slot "list" name id)(d:typeOf (.builtin id)=pure (.type "method_descriptor"))(f:MtR X id (rMM X.kw g))(h:RE X o mo)
  (a:attributeBase o name X.env (eval o X.env)=eval o X.env:=by rfl) (b:(apos.endLine==cpos.line)=true:=by rfl) :
  RE X (.Call (.Attribute o name apos) [] [] cpos) (FC g mo):=RE.wk (Y0 PySem.F.plainAttrs_list c d f h.pe a b) λ_ _ _=>Qo
end
section
variable{X:Cx}{e a o:Expr}
noncomputable def ce:List Int->Int
 |[]=>0
 |i::r=>r.foldl max i
noncomputable def Xp:List D->Option (List Int)
 |[]=>some []
 | .int i::b=>(Xp b).map (i::·)
 |_=>none
noncomputable def dJ:List D->M D
 |[d]=>bnd (EZ d) λb=>λZ=>match Xp b with
  |some (i::r)=>some (.int (ce (i::r)),Z)
  |_=>none
 |_=>Bj
theorem Jt:∀{ys:List V} {b:List Value} {j:Nat},Vals ys b->ys.all De=true->ys.findIdx? (λz=>eqV z y)=some j->∃i:j<b.length,eqU y b[j]=true/\∀m (d:m<b.length),m<j->eqU y b[m]=false
 |_,_,j,.nil,_,e=>by simp at e
 |z::ys,u::b,j,.cons r t,f,e=>by
  rw[List.all_cons,Bool.and_eq_true] at f;rw[List.findIdx?_cons] at e;cases c:eqV z y with
  |true=>
   rw[c] at e;simp at e;subst e;exact⟨by simp,by show eqU y u=true;rw[MF r f.1,c],λm d h=>by lia⟩
  |false=>
   rw[c] at e;cases q:ys.findIdx? _ with
   |none=>rw[q] at e;simp at e
   |some k=>
    rw[q] at e;simp at e;subst e;obtain⟨l,n,g⟩:=Jt t f.2 q;refine⟨by simp;lia,by trivial,λm d h=>?_⟩;cases m with
    |zero=>show eqU y u=false;rw[MF r f.1,c]
    |succ m=>simpa using g m _ (by lia)
noncomputable abbrev cU(c:Hp->Addr->List V->Prop):V->List V->Hp->VK->Prop:=λx d H Q=>∃p b y j,x=.ref p/\d=[y]/\c H p b/\De y=true/\b.all De=true/\b.findIdx? (λz=>eqV z y)=some j/\Q (.int j) H
theorem KU:MtR X "list.index" (cU λH p ys=>SqL X.kw H p ys):=by
 intro P s O H x R v S Q I l r h;obtain⟨p,ys,y,j,rfl,rfl,t,z,b,A,q⟩:=h;cases l;obtain⟨u,rfl,B⟩:=Ea r;obtain⟨c,d,C,T⟩:=I.list t;have U:=d.length;obtain⟨⟨E,F,f,G⟩,g,i,n,k⟩:=C.isList;simp at i k;subst i k;obtain⟨J,W,L⟩:=Jt d b A;have Y:=Je;exact call_meets PySem.F.slot_list_index ⟨_,g,rfl⟩ PySem.F.entry_list_index (PySem.F.args_list_index_2 _ _) (SeqAt.list_indexAt _ c.toArray n F G u (eqU y) j (by trivial) (by lia) (by trivial) λm Z=>by simpa using L m (by trivial)) ⟨g,λw N=>ED B z d b w (by simpa using N),.int j,H,I.tok _,⟨_,rfl⟩,q⟩
noncomputable def ZW:D->List D->M D
 |d,[y]=>bnd (Dp d) λb=>λZ=>match HA y,DV b with
  |some y,some c=>(c.findIdx? λz=>eqV z y).map λ(j:Nat)=>(D.int (j:Int),Z)
  |_,_=>none
 |_,_=>Bj
theorem RM{d r:D}{Z Z':Mh}{K:KW}{Y:Nat->Addr}(R:RelH K Y Z H)(g:Is K Y Z.length H d x)(h:IsL K Y Z.length H i xs)(e:ZW d i Z=some (r,Z')):
  ∃p ys y j,x=.ref p/\xs=[y]/\(SqL K H p ys∨SqT K H p ys)/\De y=true/\ys.all De=true/\ys.findIdx? (λz=>eqV z y)=some j/\r=.int j/\Z'=Z:=by
 unfold ZW at e;split at e
 ·obtain⟨B,C,k,b⟩:=AI e;obtain⟨l,p,f,rfl,m,n⟩:=D3 R g k;subst l;obtain⟨v,rfl,q⟩:=FE h;split at b
  ·rename_i w E s t;obtain⟨rfl,u⟩:=G9 q s;obtain⟨rfl,A⟩:=GA n t;cases c:f.findIdx? _ with
   |none=>rw[c] at b;cases b
   |some j=>rw[c] at b;cases b;exact⟨p,f,v,j,rfl,rfl,m,u,A,c,rfl,rfl⟩
  ·cases b
 ·cases e
noncomputable def LA(d:D)(b:List D):M D:=bnd (EU d) λ_=>ZW d b
theorem Ty:MtR X "list.index" (rMM X.kw LA):=λm s O H x xs v n Q I r t h=>by
 obtain⟨Y,Z,a,as,d,Z',R,f,w,e,q⟩:=h;obtain⟨u,w5,b,c⟩:=AI e;have A:=Hi b;subst A;obtain⟨ds,w6,B,g2⟩:=AI b;obtain⟨_,g,C,E,F,_⟩:=C9 R f B;obtain⟨p,i,y,j,rfl,rfl,G,J,L,N,rfl,rfl⟩:=RM R f w c;cases E;have P:SqL X.kw H g i:=by
  rcases G with z|z
  ·exact z
  ·obtain⟨S,_,T,_⟩:=I.list F;obtain⟨k,_,U,_⟩:=I.tuple z;obtain⟨o,b,W,_⟩:=T.isList;obtain⟨o2,c,l,_⟩:=U;rw[b] at c;cases c;rw[W] at l;exact absurd l (by decide)
 exact KU m s O H _ _ v n Q I r t ⟨g,i,y,j,rfl,rfl,P,J,L,N,q Y H R.ext0 R _ (ofI _)⟩
end
end Mi
namespace Ht
open PySem PySem.SetTable
theorem Gy[DecidableEq α]:∀{l r:List α},l.Nodup->(∀x∈l,x∈r)->l.length<=r.length
 |[],_,_,_=>AAi _
 |a::l,r,d,b=>by
  obtain⟨e,f⟩:=List.nodup_cons.mp d;have g:=b a AAP ..;have:=Gy (r:=r.erase a) f λx c=>(List.mem_erase_of_ne (λz=>e (by rw[←z];exact c))).mpr (b x (AAQ _ c))
  grind
noncomputable def Cc(xs:List Int):List Int:=xs.foldl (λa x=>if x∈a then a else a++[x]) []
theorem F6(xs:List Int)(x:Int):Cc (xs++[x])=if x∈Cc xs then Cc xs else Cc xs++[x]:=by
 unfold Cc
 simp_all
theorem Mq{p:List Int->Prop}(b:p [])(c:∀xs x,p xs->p (xs++[x]))(xs:List Int):p xs:=by
 rw[←List.reverse_reverse xs]
 induction xs.reverse with
 |nil=>exact b
 |cons a l d=>simp_all
theorem NC(xs:List Int)(k:Int):k∈Cc xs↔k∈xs:=by
 refine Mq (p:=λxs=>k∈Cc xs↔k∈xs) (by simp[Cc]) (λxs x a=>?_) xs;rw[F6];split
 ·rename_i h;simp only[AAJ,AAK,←a];exact⟨.inl,λz=>z.elim id λe=>e ▸ h⟩
 simp_all
theorem OQ(xs:List Int):(Cc xs).Nodup:=by
 refine Mq (p:=λxs=>(Cc xs).Nodup) (by simp[Cc]) (λxs x c=>?_) xs;rw[F6];split
 ·exact c
 ·rename_i h;rw[List.nodup_append];refine⟨c,by simp,λa f b d=>?_⟩;simp at d;subst d;exact λe=>h (e ▸ f)
open PyProof.Rows
open L2 PySem.Spec Sem
section
variable{prog:Program}{w:World}{A:Around}{E:Value->Shared->Prop}{s:Shared}
theorem GY(d:A.handled=none)(h:∀a c,(∀b o,s.heap.get? b=some o->c.get? b=some o)->Shared.TypeIs { s with heap:=c } (.ref a) "StopIteration" -> E (.ref a) { s with heap:=c }):
  wpAny (model prog w) A (newExc (.type "StopIteration") [] >>= λe=>(raiseNew e:Sem α)) Q E s:=by
 unfold newExc newTuple;refine AAA (AAA (AAp (AAA (wpAny_of_eq (a:=Value.none) (by kernel_rfl) (AAp ?_ (by size_fits)))) (by size_fits)));unfold raiseNew;refine AAA (wpAny_handled ?_);rw[d];refine AAA (AAB (wpAny_throw (h _ _ (λb o e=>AAC _ (AAC _ e)) ⟨_,AAD _ rfl,rfl⟩)))
end
end Ht
namespace Mi
open PySem L2 Ht
theorem NP:∀ns:List Int,IsL K Y k H (ns.map D.int) (ns.map V.int)
 |[]=>IsL.nil
 |n::r=>⟨_,_,rfl,ofI _,NP r⟩
end Mi
namespace L2
open PySem PySem.Spec PyProof.Rows Sem Ht
section
theorem Sm{n:Nat}:Builtin.Range.rangeSize 0 n 1=(n:Int):=by rw[rangeSize_one];grind
theorem Qp{n:Nat}(h:n<=1000):Builtin.Range.small 0 n 1=true:=small_one (by lia) (by lia) (by lia) (by lia)
end
section
variable{X:Cx}
theorem Rh:B7 X (.type "range") (λxs H Q=>∃n:Nat,xs=[.int n]/\∀p,H p=none->Q (.ref p) (upd H p (.rng 0 n))):=by
 intro a s O H xs c Q I r h;obtain⟨n,rfl,q⟩:=h;obtain⟨u,rfl,t,rfl⟩:=Vals.one r;refine call_range_1 ⟨.ref _,_,I.laid (o:=.rng 0 n) (λb o=>AAC _) (AAE _) ⟨_,_,_,AAD _ rfl⟩,rfl,q _ (I.hok.fresh (AAE _))⟩
noncomputable abbrev Px(n:Nat):List V:=((List.range n).map Int.ofNat).map V.int
theorem Q7(n:Nat):(Px n).length=n:=by simp
theorem MI(g:X.calm=true):B7 X (.type "list") (λxs H Q=>∃p n,xs=[.ref p]/\H p=some (.rng 0 (n:Nat))/\n<=1000/\∀l,H l=none->Q (.ref l) (upd H l (.lst (Px n)))):=by
 intro z s O H xs A Q I r h;obtain⟨p,n,rfl,j,m,q⟩:=h;obtain⟨u,rfl,w⟩:=Vals.one r;cases w;obtain⟨t,u,v,e⟩:=I.hok p _ j;refine call_list_range (I.ok.hd g) e (Qp m) Sm (by lia) λB C a c k e it=>?_;have f:=intsAre_map a.toList λv x=>by
  obtain⟨i,d,rfl⟩:=List.getElem_of_mem x;obtain⟨t,e⟩:=it.2 i _ (Array.getElem?_eq_getElem _);exact⟨_,t,by simpa using e⟩
 have y:a.toList.map numOf=(List.range n).map Int.ofNat:=by
  refine List.ext_getElem? λi=>?_;rw[AAV,AAV];by_cases d:i<n
  ·have b:i<a.size:=by rw[it.1];exact d
   obtain⟨t,e⟩:=it.2 i _ (Array.getElem?_eq_getElem b);rw[Array.getElem?_toList,Array.getElem?_eq_getElem b,e,List.getElem?_range d];simp[numOf]
  ·rw[List.getElem?_eq_none (by rw[Array.length_toList,it.1];lia),List.getElem?_eq_none (by simp;lia)];rfl
 rw[y] at f;exact⟨.ref _,_,I.laid (o:=.lst (Px n)) k (AAE _) ⟨by rw[Q7,sizeLine_eq];grind,_,c,HS f,e⟩,rfl,q _ (I.hok.fresh (AAE _))⟩
end
end L2
namespace Mi
open PySem L2 Ht
noncomputable def Xe(n:Nat):List D:=((List.range n).map Int.ofNat).map D.int
noncomputable def M4(a:List D->D)(d:D):M D:=match d with
 | .int j=>λZ=>if 0<=j/\j<=1000 then some (a (Xe j.toNat),Z) else none
 |_=>Bj
section
variable{X:Cx}{e:Expr}{pos p p2 pos2:Pos}
theorem V5{T:String}{f:List D->D}{a:List V->HO}{m:Sl->M D}(call:X.calm=true->B7 X (.type T) (λxs H Q=>∃p n,xs=[.ref p]/\H p=some (.rng 0 (n:Nat))/\n<=1000/\∀l,H l=none->Q (.ref l) (upd H l (a (Px n)))))
  (c:∀{Y:Nat->Addr} {Z:Mh} {H:Hp} {Q:VK} {ds:List D} {r:List V},RelH X.kw Y Z H->IsL X.kw Y Z.length H ds r->(Aft X.kw Y Z H Z λg H'=>∀v,Is X.kw g Z.length H' (f ds) v->Q v H')->∀l,H l=none->Q (.ref l) (upd H l (a r)))
  (t:X.mg T=none) (ys:X.mg "range" = none) (u:bootBuiltins T=some (.type T)) (w:RE X e m) (y:X.calm=true:=by rfl) (i:Gl X T:=by rfl) (k:Gl X "range" := by rfl) (b:Jk e=false:=by rfl) (A:(T:Str) ≠ "__name__" := by decide) (C:((T:Str)==("__debug__" : Str))=false:=by decide) :
  RE X (.Call (.Name T p) [.Call (.Name "range" p2) [e] [] pos2] [] pos) (mUn (M4 f) m):=by
 have E:PE X (.Call (.Name "range" p2) [e] [] pos2) _:=Eg Rh k ys PyProof.Rows.boot_range (F5 w.pe Hb (BI b)) (by decide) (by decide) (BI b) rfl;refine RE.wk (Eg (call y) i t u (F5 E Hb (BI rfl)) A C (BI rfl) rfl) λO H Q h=>?_;obtain⟨Y,Z,B,d,Z',R,S,F,q⟩:=h;obtain⟨x,G,I,s⟩:=AI F;refine⟨Y,Z,B,x,G,R,S,I,λx4 H1 J K v1 L=>?_⟩;cases x with
 |int j=>
  have o:(if 0<=j/\j<=1000 then some _ else none)=some _:=s;split at o
  ·cases o;have z:=CJ L;subst z;have N:j=j.toNat:=by grind
   refine⟨_,by rw[←N],λp P=>?_⟩;obtain⟨U,R2⟩:=K.laid _ P;exact⟨p,_,rfl,Br,by lia,c R2 (NP _) λg H' W=>q g H' ((J.trans U).trans W)⟩
  ·cases o
 |_=>cases s
theorem OE(d:X.mg "list" = none)(ys:X.mg "range" = none)(f:RE X e m)(g:X.calm=true:=by rfl)(a:Gl X "list" := by rfl)(b:Gl X "range" := by rfl)(c:Jk e=false:=by rfl):
  RE X (.Call (.Name "list" p) [.Call (.Name "range" p2) [e] [] pos2] [] pos) (mUn (M4 D.lst) m):=V5 MI K2 d ys Mi.C8 f g a b c
noncomputable def Ob:List D->M D
 |[d]=>bnd (Dp d) λa=>ret (.lst a)
 |_=>Bj
theorem W6:B7 X (.type "list") (rMA X.kw Ob):=λa s O H n b Q I r h=>by
 obtain⟨Y,Z,o,d,t,R,c,e,q⟩:=h;unfold Ob at e;split at e
 ·obtain⟨u,w,f,g⟩:=AI e;obtain⟨v,rfl,i⟩:=FE c;obtain⟨j,p,k,rfl,l,m⟩:=D3 R i f;subst j;cases g;exact MH a s O H _ b Q I r ⟨p,k,rfl,l,K2 R m q⟩
 ·cases e
noncomputable def HE(l:List (Key×D))(k:Key):List (Key×D):=l.filter λkv=>decide (kv.1≠k)
theorem KVs.drop:∀{l:List (Key×D)} {r:List (Key×V)} (y:Key),KVs K Y k H l r->KVs K Y k H (HE l y) (Jx r y)
 |[],_,y,h=>by cases h;rfl
 |(z,d)::l,_,y,h=>by
  obtain⟨v,g,rfl,c,f⟩:=h;have b:=KVs.drop y f;unfold HE Jx at b ⊢;by_cases a:z=y
  ·rw[List.filter_cons_of_neg (by simp[a]),List.filter_cons_of_neg (by simp[a])];exact b
  ·rw[List.filter_cons_of_pos (by simp[a]),List.filter_cons_of_pos (by simp[a])];exact⟨v,_,rfl,c,b⟩
noncomputable def Xw(d y:D):M D:=bnd (FL d) λr=>λZ=>(L9 y).bind λk=>(CU r.2 k).map λv=>(v,Z.set r.1 (.dK (HE r.2 k)))
noncomputable def Kw(mo mi:Sl->M D):Sl->M D:=λB=>bnd (mo B) λx=>bnd (Oq x) λ_=>bnd (mi B) λy=>Xw x y
theorem V7(L:RE X o mo)(hi:RE X e mi)(m:M1 X o "pop" c e f:=by exact⟨rfl,rfl,rfl,rfl⟩):RE X (.Call (.Attribute o "pop" c) [e] [] f) (Kw mo mi):=RE.wk (TX L.pe hi.pe m) λO H Q h=>by
 obtain⟨Y,Z,B,d,Z',R,S,e,q⟩:=h;obtain⟨x,w5,N,j⟩:=AI e;obtain⟨u,u4,P,k⟩:=AI j;obtain⟨y,T,U,l⟩:=AI k;obtain⟨r,x6,W,a⟩:=AI l;obtain⟨n,r0,e5⟩:=RP P;subst n;refine⟨Y,Z,B,x,_,R,S,N,λx4 H1 A C v1 E=>?_⟩;obtain⟨_,_,_,rfl,g,g0,_⟩:=Dh C E e5;refine⟨_,rfl,.inl ⟨g,.inl g0⟩,x4,_,B,y,T,C,S.ext A,U,λw9 H2 F R2 v2 i2=>?_⟩;obtain⟨n,hx,g1,hv,s,g2,G⟩:=Dh R2 (E.ext F) W;subst n;cases t:L9 y with
 |none=>rw[t] at a;cases a
 |some i=>
  rw[t] at a;cases Ik i2 t;have v  := V.ref.inj hv;rw[v];rcases G.val i with ⟨w,I⟩|⟨dd,J,w,I,z3⟩
  ·have b:(CU r.2 i).map _=some _:=a;rw[w] at b;cases b
  ·have b:(CU r.2 i).map _=some _:=a;rw[w] at b;cases b;have z  := (AAT.mp g1).1;obtain⟨K,R4⟩:=R2.changed (m:=.dK _) z ⟨_,rfl,G.drop i⟩;exact⟨s,i,J,g2,rfl,I,q w9 _ ((A.trans F).trans K) R4 J (z3.ext K)⟩
theorem Jd:MtR X "list.remove" (λx xs H Q=>∃p ys y j,x=.ref p/\xs=[y]/\H p=some (.lst ys)/\De y=true/\ys.all De=true/\ys.findIdx? (λz=>eqV z y)=some j/\Q .non (upd H p (.lst (ys.eraseIdx j)))):=by
 intro G s O H x xs v J Q I f g h;obtain⟨p,ys,y,j,rfl,rfl,d,i,a,k,q⟩:=h;cases f;obtain⟨u,rfl,l⟩:=Ea g;obtain⟨z,o,n,r,K,e⟩:=I.lstM d;obtain⟨c,t,B⟩:=Jt r a k;refine call_meets PySem.F.slot_list_remove ⟨_,e,rfl⟩ PySem.F.entry_list_remove (PySem.F.args_list_remove_2 _ _) (MeetsSeq.list_remove p _ n u _ (λw C b F A E s=>ED l i r a w (by simpa using C) b F E) j (by exact c) (by simpa using t) (λm L=>by simpa using B m _) (by rw[List.size_toArray];lia)) ⟨e,.non,_,I.lset d e ?_ (r.eraseIdx j) ?_,rfl,q⟩
 ·simp
 ·have:=Ky ys j;lia
theorem IsL.erase:∀{ds:List D} {a:List V} (j:Nat),IsL K Y k H ds a->IsL K Y k H (ds.eraseIdx j) (a.eraseIdx j)
 |[],_,j,h=>by subst h;simpa using IsL.nil
 |d::ds,_,j,h=>by
  obtain⟨v,c,rfl,f,b⟩:=h;cases j with
  |zero=>exact b
  |succ j=>
   exact⟨v,_,rfl,f,IsL.erase j b⟩
noncomputable def Sy:D->List D->M D
 | .ref n,[y]=>FY n λa=>match HA y,DV a with
  |some y,some b=>(b.findIdx? λz=>eqV z y).map λj=>(.non,a.eraseIdx j)
  |_,_=>none
 |_,_=>Bj
theorem Tx:MtR X "list.remove" (rMM X.kw Sy):=λk s O H x J v l Q I m o h=>by
 obtain⟨Y,Z,a,K,d,L,R,r,t,e,q⟩:=h;unfold Sy at e;split at e
 ·rename_i n y;obtain⟨N,P,f,b,rfl⟩:=F2 e;obtain⟨w,rfl,z⟩:=FE t;obtain⟨_,rfl⟩:=r;obtain⟨u,A,g,rfl,i⟩:=R.obj n _ f;split at b
  ·rename_i S B C E;obtain⟨rfl,F⟩:=G9 z C;obtain⟨rfl,G⟩:=GA i E;cases c:g.findIdx? _ with
   |none=>rw[c] at b;cases b
   |some j=>
    rw[c] at b;cases b;exact Jd k s O H _ _ v l Q I m o ⟨_,g,w,j,rfl,rfl,A,F,G,c,IV R f (i.erase j) ofN q⟩
  ·cases b
 ·cases e
end
end Mi
namespace L2
open PySem PySem.Spec PyProof.Rows Sem Ht
theorem Vt:fillsNumberSlot (.type "tuple") "mul" = Pure.pure false:=PySem.fillsNumberSlot_seq PySem.F.slot_tuple_mul.lookup (rfl) PySem.F.slot_tuple_rmul.lookup rfl
theorem YU:seqRepeat? (.type "tuple")=Pure.pure (some (.builtin "tuple.__mul__")):=by
 unfold seqRepeat?;rw[PySem.seqSlot_of (name := "__mul__") PySem.F.slot_tuple_mul.lookup (by decide +kernel),PySem.seqSlot_of (name := "__rmul__") PySem.F.slot_tuple_rmul.lookup (by decide +kernel)];rfl
section
variable{w:World}{A:Around}{s:Shared}
theorem YW(a:Int)(t:Tok)(l:Addr)(b:Array Value):Meets (Builtin.«int.__rmul__» ⟨[.int a t,.ref l],[]⟩) (λ_ R s=>IsTup s.heap l b/\R (.ok (.ret Value.notImplemented)) s):=
 .of_wp λc w A R s h=>by
  obtain⟨⟨o,e,f,n,d⟩,h⟩:=h
  wp_walk
  rw[d]
  wp_walk
  exact⟨_,rfl,h⟩
theorem YV(l:Addr)(a:Array Value)(k:Int)(t:Tok)(d:a.isEmpty=false)(y:1<=k)(g:k<=1000)(B:a.size<=1000):
  Meets (Builtin.«tuple.__mul__» ⟨[.ref l,.int k t],[]⟩) (λ_ R s=>IsTup s.heap l a/\(k=1->R (.ok (.ret (.ref l))) s)/\(k≠1->R (.ok (.ret (.ref s.heap.objs.size))) { s with heap:=s.heap.push { cls:=.type "tuple",data:=.seq ((List.replicate k.toNat a).foldl (·++·) #[]) } })):=
 .of_wp λe w A R s h=>by
  obtain⟨⟨o,f,i,n,j⟩,p,q⟩:=h;have C:s.TypeIs (.ref l) "tuple" := ⟨o,f,i⟩;have D:(a.size:Int) * k<=1000000:=by
   have:=Int.mul_le_mul (show (a.size:Int)<=1000 by lia) g (by lia) (by lia);lia
  have r:(decide (k < -2 ^ 63)||decide (k ≥ 2 ^ 63))=false:=by simp;lia
  have E:(decide (k<=0)||a.isEmpty)=false:=by rw[d];simp;lia
  have u:Builtin.Tuple.tupleTooMany ((a.size:Int) * k)=false:=by
   unfold Builtin.Tuple.tupleTooMany;simp[sizeLine_eq];lia
  unfold Builtin.«tuple.__mul__»
  wp_walk
  rw[r,if_neg AAf];refine AAA ?_;unfold Builtin.Tuple.tupleItemsOf;refine AAA (wpAny_seqItems f j (AAB ?_));rw[d];by_cases b:k=1
  ·have c:(false||k==1)=true:=by simp[b]
   rw[c];simp only[↓reduceIte]
   wp_walk
   exact⟨_,rfl,p b⟩
  ·have c:(false||k==1)=false:=by simp[b]
   rw[c];simp only[Bool.false_eq_true,↓reduceIte];rw[Bool.or_false,AAN (show ¬k<=0 by lia)];simp only[Bool.false_eq_true,↓reduceIte];rw[if_neg (show ¬(a.size:Int) * k > (2 ^ 63-1) / 8 by lia),u];simp only[Bool.false_eq_true,↓reduceIte];unfold Builtin.Tuple.tupleExact;refine AAA (AAp (AAB ⟨_,rfl,q b⟩) ?_);show ((List.replicate k.toNat a).foldl (·++·) #[]).size<=sizeLine;have v:∀(m:Nat) (z:Array Value),((List.replicate m a).foldl (·++·) z).size=z.size+m * a.size:=by
    intro m
    induction m with
    |zero=>intro z;simp
    |succ m x=>intro z;rw[AAj,List.foldl_cons,x,Array.size_append,Nat.succ_mul];lia
   rw[v,sizeLine_eq];have:((k.toNat * a.size:Nat):Int)=(a.size:Int) * k:=by
    rw[Int.natCast_mul,Int.toNat_of_nonneg (by lia),Int.mul_comm]
   simp;lia
end
theorem Jp(a:List Value):∀(m:Nat) (z:List Value),(List.replicate m a.toArray).foldl (·++·) z.toArray=(z++(List.replicate m a).flatten).toArray
 |0,z=>by simp
 |m+1,z=>by
  rw[AAj,List.foldl_cons,List.append_toArray,Jp a m,AAj,List.flatten_cons,AAk]
theorem Vals.reps(r:Vals a b):∀m:Nat,Vals (List.replicate m a).flatten (List.replicate m b).flatten
 |0=>.nil
 |m+1=>r.append (Vals.reps r m)
section
variable{X:Cx}
theorem WS:OpR X (binaryOp .Mult) (λx y H Q=>∃l k xs,x=.ref l/\y=.int k/\SqT X.kw H l xs/\xs≠[]/\xs.length<=1000/\1<=k/\k<=1000/\(k=1->Q (.ref l) H)/\(k≠1->∀p,H p=none->Q (.ref p) (upd H p (.tup (List.replicate k.toNat xs).flatten)))):=by
 intro G s O H x y v u Q I i j h;obtain⟨l,k,xs,rfl,rfl,m,n,q,w,A,B,C⟩:=h;cases i;obtain⟨t,rfl⟩:=j;obtain⟨d,r,p,_⟩:=I.tuple m;have f:=r.length;have g:s.TypeIs (.ref l) "tuple" := by obtain⟨o,e,c,_⟩:=p;exact⟨o,e,c⟩
 have D:d.toArray.isEmpty=false:=by
  cases d with
  |nil=>exact absurd (List.length_eq_zero_iff.mp (by simpa using f)) n
  |cons a b=>rfl
 refine wpAny_binaryOp_repeat_ref (by decide) g (λE=>typeIs_int E k t) Vt PySem.F.fills_int_mul PySem.F.slot_int_rmul YU PySem.F.slot_int_index.lookup (call_meets PySem.F.slot_int_rmul (typeIs_int s k t) PySem.F.entry_int_rmul (PySem.F.args_int_rmul_2 _ _) (YW k t l _) ⟨p,rfl,g,call_meets PySem.F.slot_tuple_mul g PySem.F.entry_tuple_mul (PySem.F.args_tuple_mul_2 _ _) (YV l d.toArray k t D w A (by rw[List.size_toArray];lia)) ⟨p,λz=>⟨.ref l,H,I,rfl,B z⟩,λz=>?_⟩⟩);have F:=Jp d k.toNat [];rw[F];refine⟨.ref _,_,I.laid (o:=.tup _) (λb J=>AAC _) (AAE _) ⟨?_,_,r.reps _,IsTup.new _ _⟩,rfl,C z _ (I.hok.fresh (AAE _))⟩;rw[P0,sizeLine_eq];have:k.toNat * xs.length<=1000 * 1000:=Nat.mul_le_mul (by lia) q;lia
end
end L2
namespace Mi
open PySem L2 Ht
noncomputable def E9(a b:D):M D:=match a,b with
 | .tup c,.int k=>λZ=>if c≠[]/\c.length<=1000/\1<=k/\k<=1000 then some (.tup (List.replicate k.toNat c).flatten,Z) else none
 |a,b=>Gv a b
section
variable{X:Cx}
theorem OP:OpR X (binaryOp .Mult) (rM X.kw E9):=λf s O H x y v u Q I g i h=>by
 obtain⟨Y,Z,a,b,d,o,R,j,l,e,q⟩:=h;unfold E9 at e;split at e
 ·rename_i E k;split at e
  ·rename_i r;obtain⟨t,F,w,A⟩:=r;cases e;have B:=CJ l;subst B;obtain⟨p,m,rfl,n,c⟩:=j;have C:=c.length;refine WS f s O H _ _ v u Q I g i ⟨p,k,m,rfl,rfl,n,λz=>t (List.length_eq_zero_iff.mp (by rw[←C,z];rfl)),by lia,w,A,λz=>?_,λz=>?_⟩
   ·subst z;exact q Y H R.ext0 R _ ⟨p,m,rfl,n,by simpa using c⟩
   ·exact T6 R (c.rep _) q
  ·cases e
 ·exact NA f s O H _ _ v u Q I g i ⟨Y,Z,a,b,d,o,R,j,l,e,q⟩
end
noncomputable def Lu:D->D->M D
 | .int i,.int j=>ret (.int (i+j))
 |_,_=>Bj
section
variable{X:Cx}{e:Expr}{pos pos':Pos}
theorem Yf(i:Nat)(o:X.N.Nodup)(p:RE X e m)(hi:X.N[i]?=some x:=by rfl)(r:Loc X.env.scope x:=by first|exact Or.inl rfl|exact Or.inr rfl)(s:X.fn x=true∨X.env.scope.names.lookup x=some .local:=by first|exact .inl rfl|exact .inr rfl|assumption):
  RS X (.AugAssign (.Name x pos') .Add e pos) (AY (mOp Lu (AA i) m) (AO i)):=RS.wk (Yo o hi r p.pe ZV s) λL O H h=>by
 obtain⟨Y,Z,B,f,N,P,R,S,c,q⟩:=h;obtain⟨d,Q,t,c⟩:=AI c;obtain⟨T,U,u,c⟩:=AI c;cases c;cases u;obtain⟨a,W,g,c⟩:=AI t;obtain⟨b,w,y,l⟩:=AI c;unfold AA at g;split at g
 ·rename_i d' z;cases g;obtain⟨v,A,C⟩:=S.get i _ z;refine⟨v,A,Y,Z,B,b,w,R,S,y,λE F n G v1 I=>?_⟩;cases a with
  |int k=>
   cases b with
   |int j=>
    cases l;have J:=CJ C;have K:=CJ I;subst J K;exact⟨k,j,rfl,rfl,q E F n G _ ((S.ext n).set i (ofI _))⟩
   |_=>cases l
  |_=>cases l
 ·cases g
end
end Mi
namespace K13
open PySem L2 Mi
noncomputable def d_NONE:D:=.int (-1)
noncomputable def BO:D:=.int (-1)
noncomputable def BK  : Sl->M (Fl×Sl):=
  (AS (AY (mOp EA (AE Bp (AD (mOp AJ (AA 0) (mC (.int 4))) AK)) (mC (.int 1))) (AO 1))
  (AS (sIf (AN (mOp Af (mOp AJ (AA 0) (mC (.int 0))) (mC (.str "whole")))) (As (AE BE (AD (AE BE (AD (mOp AJ (AA 0) (mC (.int 2))) (AD (mC d_NONE) (AD (mOp E9 (AE BE (AD (mC d_NONE) AK)) (AA 1)) AK)))) AK))) A6)
  (As (AE BE (AD (mOp AJ (AA 0) (mC (.int 2))) (AD (mC d_NONE) (AD (mOp E9 (AE BE (AD (mC .non) AK)) (AA 1)) AK)))))))
noncomputable def BV  : Sl->M (Fl×Sl):=
  (As (mOp Av (mOp Av (DT (AA 0) Bv (CN (AA 1))) (AE BE (AD (AA 2) AK))) (DT (AA 0) (CN (mOp Av (AA 1) (mC (.int 1)))) Bv)))
noncomputable def Bw  : Sl->M (Fl×Sl):=
  (As (DP (AE EF (AD (AA 0) (AD (mC (.ty "int")) AK))) (DP (NL (AE EF (AD (AA 0) (AD (mC (.ty "bool")) AK)))) (Fp HZ HZ (AA 1) (AA 0) (AA 2)))))
noncomputable def By  : Sl->M (Fl×Sl):=
  (As (DP (AE EF (AD (AA 0) (AD (mC (.ty "tuple")) AK))) (Fp HZ HZ (AA 1) (AE Bp (AD (AA 0) AK)) (AA 2))))
noncomputable def CF(dR:List D->M D):Sl->M (Fl×Sl):=
  (AS (sIf (Dx (AN (AE EF (AD (AA 1) (AD (mC (.ty "list")) AK))))) D6 A6)
  (AS (AY (Bm 1 [] (CM (mOp AJ (AA 0) (mC (.int 4)))) (AO 0) DO (mOp AJ (AA 0) (mC (.int 0))) BU) (AO 2))
  (AS (AY Q6 (AO 3))
  (AS (AY (AE Dv AK) (AO 4))
  (AS (AY (mC (.int 0)) (AO 5))
  (AS (D7 (GP (AD (AA 1) AK)) (Cq [6,7]) (AS (sIf (Dx (AN (AE dR (AD (AA 7) (AD (AA 2) (AD (mOp AJ (AA 0) (mC (.int 1))) AK)))))) D6 A6)
  (AS (AY (BG LA (AA 2) (AD (mOp AJ (AA 7) (mC (.int 1))) AK)) (AO 8))
  (AS (sIf (AN (mOp Af (mOp Af (mOp AJ (AA 7) (mC (.int 0))) (mC (.str "begin"))) (mOp (Kc false) (AA 8) (AA 3)))) D6 A6)
  (AS (sIf (AN (mOp Af (mOp AJ (AA 7) (mC (.int 0))) (mC (.str "begin")))) (AS (EN (AA 3) (AA 8) (AA 5))
  (AY (mOp Lu (AA 5) (mC (.int 1))) (AO 5))) A6)
  (AS (Bt (BG DM (AA 4) (AD (AE BE (AD (mOp AJ (AA 7) (mC (.int 0))) (AD (AA 8) (AD (mIf (AN (mOp Af (AE Bp (AD (AA 7) AK)) (mC (.int 3)))) (mOp AJ (AA 7) (mC (.int 2))) (mC BO)) (AD (mOp Dr (AA 3) (AA 8)) AK))))) AK)))
  (sIf (AN (mOp Af (mOp AJ (AA 7) (mC (.int 0))) (mC (.str "end")))) (Bt (Kw (AA 3) (AA 8))) A6)))))))
  (As (AA 4))))))))
noncomputable def B0(dS:List D->M D)(ST:List D->M D):Sl->M (Fl×Sl):=
  (AS (sIf (mOr (Dx (AN (AE dS (AD (AA 0) (AD (mC (.int 2)) (AD (mC (.int 3)) AK)))))) (mOr (AN (mOp (FA true) (mOp AJ (AA 0) (mC (.int 0))) (AE BE (AD (mC (.str "begin")) (AD (mC (.str "end")) AK))))) (AN (mOp (FA true) (mOp AJ (AA 0) (mC (.int 1))) (AA 1))))) (As (mC (.bl false))) A6)
  (AS (sIf (AN (mOp Af (mOp Af (mOp AJ (AA 0) (mC (.int 0))) (mC (.str "begin"))) (mOp Af (mOp AJ (AA 0) (mC (.int 1))) (mOp AJ (AA 1) (mC (.int 0)))))) (As (DP (mOp Af (AE Bp (AD (AA 0) AK)) (mC (.int 3))) (AE ST (AD (mOp AJ (AA 0) (mC (.int 2))) (AD (mC (.int 0)) (AD (mOp EA (AA 2) (mC (.int 1))) AK)))))) A6)
  (As (mOp Af (AE Bp (AD (AA 0) AK)) (mC (.int 2))))))
noncomputable def CP  : Sl->M (Fl×Sl):=
  (AS (sIf (AN (mOp IS (AA 1) (AE Bp (AD (AA 0) AK)))) (As (mOp AJ (AA 0) (AA 1))) A6)
  (As (mC (.int 0))))
noncomputable def CG  : Sl->M (Fl×Sl):=
  (AS (AY (AE Dv AK) (AO 2))
  (AS (AY (mOp Cd (AA 0) (mC (.int 2))) (AO 3))
  (AS (GX GG (Dj (AN (mOp Af (mOp Cv (AA 0) (mC (.int 2))) (mC (.int 0)))) (Dj (AN (mOp OI (AA 3) (mC (.int 0)))) (AN (mOp IS (AE Bp (AD (AA 2) AK)) (AA 1))))) (AS (Bt (BG DM (AA 2) (AD (mOp Cv (AA 3) (mOp M6 (mC (.int 10)) (mC (.int 9)))) AK)))
  (AY (mOp Cd (AA 3) (mOp M6 (mC (.int 10)) (mC (.int 9)))) (AO 3))))
  (AS (AY (mOp Cv (mOp Gv (mOp Av (mOp Cd (AA 0) (mC (.int 2))) (mC (.int 7919))) (mC (.int 48271))) (mC (.int 2147483647))) (AO 3))
  (AS (D7 (Kv (AD (AA 1) AK)) (AO 4) (AS (AY (mOp Cv (mOp Gv (AA 3) (mOp Av (mOp Av (mOp Cd (AA 3) (mC (.int 1009))) (mC (.int 69621))) (AA 4))) (mC (.int 2147483647))) (AO 3))
  (AS (Bt (BG DM (AA 2) (AD (mOp Cv (mOp Gv (AA 3) (mOp Av (mOp Cd (AA 3) (mC (.int 127))) (mC (.int 40009)))) (mC (.int 2147483629))) AK)))
  (AY (mOp Av (AA 3) (mC (.int 1))) (AO 3)))))
  (As (DT (AA 2) Bv (CN (AA 1)))))))))
noncomputable def CH  : Sl->M (Fl×Sl):=
  (AS (AY (mOp Av (mC (.int 2)) (mOp Cv (mOp Cd (AA 0) (mC (.int 4))) (mC (.int 9)))) (AO 2))
  (AS (AY (mOp AJ (AE BU (AD (AE BU (AD (mC (.str "w")) (AD (mC (.str "r")) (AD (mC (.str "s")) (AD (mC (.str "t")) AK))))) (AD (AE BU (AD (mC (.str "writer")) (AD (mC (.str "a")) (AD (mC (.str "ab")) (AD (mC (.str "b")) AK))))) (AD (AE BU (AD (mC (.str "z")) (AD (mC (.str "zz")) (AD (mC (.str "zzzzzzzz")) (AD (mC (.str "begin")) AK))))) AK)))) (mOp Cv (mOp Cd (AA 0) (mC (.int 36))) (mC (.int 3)))) (AO 3))
  (AS (AY (mOp Av (mC (.int 1)) (mOp Cv (mOp Cd (AA 0) (mC (.int 108))) (mC (.int 3)))) (AO 4))
  (AS (AY (Bm 1 [] (CM (DT (AA 3) Bv (CN (mOp Av (mC (.int 1)) (AA 4))))) (AO 0) DO (AE BE (AD (AA 0) (AD (mC (.int 0)) (AD (AE BE AK) AK)))) BU) (AO 5))
  (As (AE BE (AD (AA 1) (AD (AA 2) (AD (mOp Cv (mOp Cd (AA 0) (mC (.int 324))) (AA 2)) (AD (AE BE AK) (AD (AE HX (AD (AA 5) AK)) AK)))))))))))
noncomputable def Ce  : Sl->M (Fl×Sl):=
  (AS (AY (mOp Av (DT (AA 1) (CN (mUn Pm (mC (.int 3)))) Bv) (AE BU (AD (mOp Cv (mOp Cd (AA 2) (mC (.int 5))) (mOp AJ (AA 0) (mC (.int 1)))) (AD (mOp AJ (AA 0) (mC (.int 2))) AK)))) (AO 3))
  (As (mOp AJ (AA 3) (mOp Cv (AA 2) (AE Bp (AD (AA 3) AK))))))
noncomputable def CI(a:List D->M D)(b:List D->M D):Sl->M (Fl×Sl):=
  (AS (AY (AE Dv AK) (AO 2))
  (AS (AY (AE Dv AK) (AO 3))
  (AS (AY (AE Dv (AD (mOp AJ (AA 0) (mC (.int 2))) AK)) (AO 4))
  (AS (AY (Bm 1 [] (CM (mOp AJ (AA 0) (mC (.int 4)))) (AO 0) DO (mOp AJ (AA 0) (mC (.int 0))) BU) (AO 5))
  (AS (D7 (CM (AA 1)) (AO 6) (AS (AY (mOp AJ (AE a (AD (AA 6) (AD (mC (.int 1)) AK))) (mC (.int 0))) (AO 7))
  (AS (AY (mOp AJ (AA 5) (mOp Cv (AA 7) (AE Bp (AD (AA 5) AK)))) (AO 8))
  (AS (sIf (AN (mOp Af (mOp Cv (mOp Cd (AA 7) (mC (.int 4))) (mC (.int 3))) (mC (.int 0)))) (AY (mOp AJ (AA 5) (mC (.int 0))) (AO 8)) A6)
  (AS (AY (mOp Cv (mOp Cd (AA 7) (mC (.int 60))) (mOp AJ (AA 0) (mC (.int 1)))) (AO 9))
  (AS (AY (AE BE (AD (mOp AJ (AE BU (AD (mC (.str "begin")) (AD (mC (.str "end")) AK))) (AE MB (AD (mOp (FA false) (AA 8) (AA 2)) AK))) (AD (AA 8) AK))) (AO 10))
  (AS (sIf (Dj (AN (mOp Af (AA 8) (mOp AJ (AA 5) (mC (.int 0))))) (AN (mOp Af (mOp AJ (AA 10) (mC (.int 0))) (mC (.str "begin"))))) (AS (AY (mOp Av (AA 10) (AE BE (AD (AA 9) AK))) (AO 10))
  (Bt (BG DM (AA 4) (AD (AA 9) AK)))) A6)
  (AS (sIf (Dj (AN (mOp DA (AA 8) (mOp AJ (AA 5) (mC (.int 0))))) (AN (mOp Af (mOp AJ (AA 10) (mC (.int 0))) (mC (.str "end"))))) (AY (mOp Av (AA 10) (AE BE (AD (AE b (AD (AA 0) (AD (AA 4) (AD (mOp Cd (AA 7) (mC (.int 60))) AK)))) AK))) (AO 10)) A6)
  (AS (Bt (BG DM (AA 3) (AD (AA 10) AK)))
  (sIf (AN (mOp (FA false) (AA 8) (AA 2))) (Bt (BG Sy (AA 2) (AD (AA 8) AK))) (Bt (BG DM (AA 2) (AD (AA 8) AK)))))))))))))
  (As (AA 3)))))))
noncomputable def Bk:List D->M D:=Az .drop 2 2 (CP)
noncomputable def Be:List D->M D:=Az .drop 6 2 (CH)
noncomputable def Bq:List D->M D:=Az .drop 5 2 (CG)
noncomputable def CK:List D->M D:=Az .drop 4 3 (Ce)
noncomputable def Bf:List D->M D:=Az .frz 11 2 (CI Bq CK)
noncomputable def Ao:List D->M D:=Az .drop 2 1 (BK)
noncomputable def BX:List D->M D:=Az .drop 3 3 (By)
noncomputable def Aw:List D->M D:=Az .drop 3 3 (Bw)
noncomputable def BN:List D->M D:=Az .drop 3 3 (B0 BX Aw)
noncomputable def Ai:List D->M D:=Az .frz 9 2 (CF BN)
noncomputable def Ad:List D->M D:=Az .drop 3 3 (BV)
end K13
namespace L2
open PySem PySem.Spec PyProof.Rows
section
variable{X:Cx}{scope:Scope}{tgs:List Str}{ix:List Nat}
noncomputable def PX(P:Program)(w:World)(A:Around):Option Expr->Env->(Bool->Shared->Prop)->(Value->Shared->Prop)->Shared->Prop
 |none,_,Q,_,s=>Q true s
 |some c,a,Q,E,s=>wpAny (model P w) A (isTrue c a (eval c a)) Q E s
theorem SV:∀{co:Option Expr},PX P w A co env Q (λ_ _=>False) s->(∀b s,Q b s->a b s)->PX P w A co env a E s
 |none,h,k=>k _ _ h
 |some _,h,k=>Oy h k
def YR(P:Program)(w:World)(A:Around)(d b:Expr)(co:Option Expr)(h c:Value)(env:Env)(R:Result->Shared->Prop)(G:Shared->Prop)(r:Option Value)(f:Shared):Prop:=match r with
 |none=>R (.ok .next) f
 |some v=>wpAny (model P w) A (letOwnedTupleGo d h v) (λ_ i=>wpAny (model P w) A (assign d env v) (λ_ j=>
   PX P w A co env (λk g=>if k=true then wpAny (model P w) A (eval b env) (λx l=>wpAny (model P w) A (call (.builtin "list.append") [c,x]) (λ_ m=>G m) (notedBy (model P w) A env λe a=>R (.error e) a) l) (notedBy (model P w) A env λe a=>R (.error e) a) g else G g)
    (notedBy (model P w) A env λe a=>R (.error e) a) j) (notedBy (model P w) A env λe a=>R (.error e) a) i) (notedBy (model P w) A env λe a=>R (.error e) a) f
theorem T4(I:Nat->Shared->Prop):∀(co:Option Expr),
  (∀n s,I n s->wpAny (model P w) A (pyNext f) (YR P w A i b co f d env R λj=>∃m,m<n/\I m j) (notedBy (model P w) A env λe k=>R (.error e) k) s)->∀n,I n s->
  codeAny (model P w) A (.compLoop (.ListComp b [⟨i,g,co.toList,0⟩] scope pos) 0 f d env) R s
 |none,a,n,h=>PySem.W.kcp_loop I ‹_› n h
 |some c,a,n,h=>PySem.W.kct_loop I ‹_› n h
def Rn(X:Cx)(co:Option Expr)(b:TT):Prop:=
 ∀(a:List (Addr×Obj)) (s:Shared) (O:St) (H:Hp) (Q:Bool->Hp->Prop),Inv X a O H s->b O H Q->PX X.prog X.w X.A co X.env (TP X a O Q) X.xe s
theorem NR:∀{is:List Nat},(∀i∈is,i<n)->∀a O H (Q:St->Hp->Prop),Mi.Fs is a O H Q->Mi.Fs is a O H λb e=>Q b e/\b.length=O.length/\b.drop n=O.drop n
 |[],_,a,O,H,Q,h=>⟨h.1,h.2,rfl,rfl⟩
 |i::is,c,a,O,H,Q,h=>by
  obtain⟨v,d,rfl,h⟩:=h;refine⟨v,d,rfl,?_⟩;have z:=NR (λj f=>c j (AAQ _ f)) d _ H Q h;have g:(O.set i (some v)).length=O.length:=by simp
  have k:(O.set i (some v)).drop n=O.drop n:=by rw[List.drop_set_of_lt (c i (by simp))]
  rw[g,k] at z;exact z
theorem Zc{n k:Nat}{K:PySem.W.Frag}(h:∀i∈is,i<n):GK n (Wr K k (Mi.Fs is)):=λx O H Q q=>by
 obtain⟨a,b,e,c,d,f⟩:=q;exact⟨a,b,e,c,d,NR h _ _ _ _ f⟩
theorem IM{elt tg iter:Expr}{co:Option Expr}{pos:Pos}{g:TG}{tc:TT}{te:TE}{w4:List (Addr×Obj)}{fp:List Addr}{tn:Nat->Heap->Prop}{J:It}{Q:VK}
  (S:BScope X scope tgs ix) (hc:X.calm=true) (hg:∀fp C s H,PG (cxB X scope tgs fp C s H) tg g) (hgk:GK tgs.length g) (hi:∀fp C s H,Rn (cxB X scope tgs fp C s H) co tc) (he:∀fp C s H,PE (cxB X scope tgs fp C s H) elt te)
  (U:Inv X w4 O B f) (T:MU X.prog X.w X.kw tg J fp it tn) (t0:tn 0 f.heap) (hf:∀b∈fp,HN X w4 B b)
  (W:Nat->Nat->List V->Hp->Prop) (w0:∃m,W 0 m [] B)
  (turn:∀i m ys H,W i m ys H->(J.stop i H/\ys.length<=sizeLine/\∀p,H p=none->Q (.ref p) (upd H p (.lst ys))) ∨
   (J.go i H/\ys.length<sizeLine/\∃N:List V->Hp->Prop,(∀ys' H',N ys' H'->∃m',m'<m/\W (i+1) m' ys' H')/\∀x H',J.yld i H x H'->g x (DQ tgs ix O) H' λu5 B=>tc u5 B λb H3=>
    if b=true then te u5 H3 λv H4=>N (ys++[v]) H4 else N ys H3))
  {RR:Value->Addr->Result->Shared->Prop}
  (fin:∀(D C:Addr) (s':Shared) (H':Hp) (m:Str->Option Value),Inv X w4 O H' s'->Q (.ref D) H'->s'.heap.Ns C m->HN X w4 H' C->RR (.ref D) C (.ok .next) s') :
  wpAny (model X.prog X.w) X.A (newList []) (λacc t=>wpAny (model X.prog X.w) X.A (newFunctionEnv scope X.env.globals (Hu X.env scope.names []) [] X.env.qual none .none (some X.env)) (λcenv s₄=>
   codeAny (model X.prog X.w) X.A (.compStart (.ListComp elt [⟨tg,iter,co.toList,0⟩] scope pos) 0 (.ref it) acc { cenv with scope:=relabel scope X.env }) (RR acc cenv.locals) s₄) X.xe t) X.xe f:=by
 refine AAp (wpAny_newFunctionEnv S.nocell (by intro y hy;simp at hy) (λh₁ l j=>?_) S.kind);dsimp only at l j ⊢;generalize hH2:f.heap.push { cls:=.type "list",dict:=none,data:=.seq [].toArray }=A at l j ⊢;have hC:A.objs.size=f.heap.objs.size+1:=by rw[←hH2,Heap.size_push]
 have E:f.heap.objs.size<=A.objs.size:=by rw[hC];exact Nat.le_succ _
 have F:f.heap.objs.size≠A.objs.size:=by rw[hC];exact AAc (Nat.lt_succ_self _)
 have G:∀b,b<f.heap.objs.size->b≠A.objs.size/\b≠f.heap.objs.size:=λb h=>⟨by rw[hC];exact AAc (AAg h),AAc h⟩;have old  := λb o e=>j.extBut b o (G b (Heap.lt_size e)).1 (AAC _ (hH2 ▸ AAC _ e));have hacc  := j.extBut _ _ F (AAC _ (hH2 ▸ AAD _ rfl));have Y  := λb h=>let ⟨o,e,_⟩:=T.obj 0 _ t0 b h;Heap.lt_size e
 have ok:=Ui (tgs:=tgs) (ix:=ix) S U hf Y E;have sub:∀x c,(Hu X.env scope.names []).lookup x=some c->X.env.cells.lookup x=some c:=Fx scope.names [] (λ_ _ z=>by simp at z);have nDfs:f.heap.objs.size∉frs X.stack:=λhz=>by
  rcases AAI.mp (U.stkSub _ hz) with z|z
  ·exact absurd U.lt (by rw[←z];exact AAv _)
  ·exact U.nofs (AAE _) z
 have Z  := λx c e=>AAc (U.cellLt (sub x c e));have L:∀d (k:Nat) v,(OZ d k).data≠.cell v:=λd k v z=>by cases z
 have M:∀{Hx:Hp} {o:Obj},(∀b∈fp,Hx b=none)->∀b∈fp,HN (cxB X scope tgs fp A.objs.size f B) [(f.heap.objs.size,o)] Hx b:=λ{Hx o} hn b h=>
  ⟨hn b h,(ok.exf b h).1,ok.exfs b h,.inl h,(ok.exf b h).2,λp hp z=>by
   have e  := by simpa[cxB] using hp
   subst e;exact absurd (Y b h) (by rw[←z];exact AAv _)⟩
 have loop:∀t:Shared,t={ f with heap:=h₁,toks:=f.toks+([]:List (Str×Value)).length }->
   codeAny (model X.prog X.w) X.A (.compLoop (.ListComp elt [⟨tg,iter,co.toList,0⟩] scope pos) 0 (.ref it) (.ref f.heap.objs.size) (compEnvC scope (Hu X.env scope.names []) A.objs.size X.env)) (RR (.ref f.heap.objs.size) A.objs.size) t:=by
  rintro t rfl;obtain⟨m0,w0⟩:=w0;refine T4 (λn s=>∃i ys d k H,Inv (cxB X scope tgs fp A.objs.size f B) [(f.heap.objs.size,OZ d k)] (DQ tgs ix O) H s/\tn i s.heap/\(∀b∈fp,H b=none)/\Vals ys d/\W i n ys H) co ?_ m0
   ⟨0,[],[],0,B,Oo S U hf Y E (AAE _) F l old rfl rfl hacc (L _ _),T.keep 0 _ _ t0 λb _ o e=>old b o e,λb h=>(hf b h).1,.nil,w0⟩
  rintro n s ⟨i,ys,d,k,H,I,st,fr,rv,w⟩;rcases turn i n ys H w with ⟨stop,hz,q⟩|⟨go,hz8,N,hN,step⟩
  ·refine thn (T.done (cxB X scope tgs fp A.objs.size f B) rfl rfl rfl hc i _ s _ H _ I (M fr) st stop) λr s1 ⟨hr,I1⟩=>?_;subst hr;obtain⟨pe,pn,_⟩:=I1.pin (f.heap.objs.size,OZ d k) (AAZ _ (by simp));have J0  := U.call' I1.os I1.base I1.hok I1.bare λb h=>⟨(hf b h).2.2.2.1,(hf b h).2.1,(hf b h).2.2.2.2.1,(hf b h).2.2.2.2.2⟩;have J1:Inv X w4 O (upd H f.heap.objs.size (.lst ys)) s1:=J0.track (U.fpOk (AAE _) pn) ⟨hz,d,k,rv,pe⟩;obtain⟨m,hn,_⟩:=I1.loc;exact fin _ _ s1 _ m J1 (q _ pn) hn (U.fpOk E (by rw[upd_ne (Ne.symm F)];exact I1.free))
  ·refine thn (T.item (cxB X scope tgs fp A.objs.size f B) rfl rfl rfl hc i _ s _ H _ I (M fr) st go) λr s1 ⟨u,hr,h1⟩=>?_;subst hr;refine thn h1 λ_ s5 zq=>?_;obtain⟨x,H5,I5,r5,y5,P,fr5⟩:=zq;have I5':=I5.pinned (M fr5) (T.obj _ _ P);refine Oy (hg fp A.objs.size f B _ s5 _ H5 x u _ I5' r5 (hgk _ _ _ _ (step x H5 y5))) λ_ s6 ⟨u9,H6,I6,q6,l6,d6⟩=>?_;refine SV (hi fp A.objs.size f B _ s6 u9 H6 _ I6 q6) λokb s7 ⟨H7,I7,q7⟩=>?_;cases okb with
   |false=>
    rw[if_neg AAf] at q7 ⊢;obtain⟨m',hm,w7⟩:=hN _ _ q7;refine⟨m',hm,i+1,ys,d,k,H7,XJ I7.unpinned l6 d6,T.keep _ _ _ P λb h o e=>(I7.pin (b,o) (AAZ _ (AAZ _ (DS h e)))).1,λb h=>?_,rv,w7⟩;obtain⟨o,e,_⟩:=T.obj _ _ P b h;exact(I7.pin (b,o) (AAZ _ (AAZ _ (DS h e)))).2.1
   |true=>
    rw[if_pos rfl] at q7 ⊢;refine Oy (he fp A.objs.size f B _ s7 u9 H7 _ I7 q7) λR s8 ⟨v,H8,I8,rv8,q8⟩=>?_;obtain⟨m',hm,w8⟩:=hN _ _ q8;obtain⟨pe,pn,_⟩:=I8.pin (f.heap.objs.size,OZ d k) (AAZ _ (AAa _ (by simp)));have hlen:=rv.length;refine call_meets PySem.F.slot_list_append ⟨_,pe,rfl⟩ PySem.F.entry_list_append (PySem.F.args_list_append_2 _ _) (PySem.list_append f.heap.objs.size d.toArray k R (by rw[List.size_toArray];lia)) ⟨pe,?_⟩;have hp:d.toArray.push R=(d++[R]).toArray:=by simp
    have q':∃k',(s8.heap.update f.heap.objs.size (Obj.mapSeq (λa=>a.push R))).get? f.heap.objs.size=some (OZ (d++[R]) k'):=⟨_,by
     unfold OZ;rw[←hp];exact PySem.IsL.update pe (λa=>a.push R)⟩
    obtain⟨k',q'⟩:=q';have I9  :=
     (I8.pins_of (pins':=[]) (λp hp=>absurd hp (by simp))).turned (t':=s8.toks) (λb o h e=>(Heap.get?_update_other s8.heap (Obj.mapSeq (λa=>a.push R)) (Ne.symm h)).trans e) pn F (.inr (AAE _)) Z (λp hp=>absurd hp (by simp[cxB]))
    have I10:Inv (cxB X scope tgs fp A.objs.size f B) [(f.heap.objs.size,OZ (d++[R]) k')] u9 H8 { s8 with heap:=s8.heap.update f.heap.objs.size (Obj.mapSeq (λa=>a.push R)) }:=
     I9.pins_of λp hp=>by
      have e  := by simpa using hp
      subst e;exact⟨q',pn,F,nDfs,L _ _⟩
    refine⟨m',hm,i+1,ys++[v],d++[R],k',H8,XJ I10 l6 d6,T.keep _ _ _ P λb h o e=>?_,λb h=>?_,rv.append (.cons rv8 .nil),w8⟩
    ·exact(Heap.get?_update_other s8.heap (Obj.mapSeq (λa=>a.push R)) (Ne.symm (G b (Y b h)).2)).trans (I8.pin (b,o) (AAZ _ (AAZ _ (DS h e)))).1
    ·obtain⟨o,e,_⟩:=T.obj _ _ P b h;exact(I8.pin (b,o) (AAZ _ (AAZ _ (DS h e)))).2.1
 exact codeAny_compStart_list (loop _ rfl) (T.self _ 0 _ _ _ (T.keep 0 _ _ t0 λb _ o e=>old b o e) (loop _ rfl))
theorem Tb{c f a:Expr}(co:Option Expr){pos:Pos}{k:TI}{l:TT}{te:TE}(S:BScope X scope tgs ix)(p:X.calm=true)(hi:PI X f a k)(r:∀fp C s H,PG (cxB X scope tgs fp C s H) f g)(i:GK tgs.length g)
  (j:∀fp C s H,Rn (cxB X scope tgs fp C s H) co l) (t:∀fp C s H,PE (cxB X scope tgs fp C s H) c te) (u:∀x,foldedSetIterable a X.env x=pure x:=by intro _;rfl) :
  PE X (.ListComp c [⟨f,a,co.toList,0⟩] scope pos) (Sd tgs ix k g l te):=by
 intro w s O H Q I h;refine wpAny_comprehension_free rfl u (Ep (S.cells I.ok)) S.kind S.loc (thn (hi w s O H _ I h) λv s1 y=>thn y λz s2 A=>?_);obtain⟨it,fp,tn,J,H2,e,B,T,E,n,W,F,d⟩:=A;subst e;refine IM S p r i j t B T E n W F d ?_;intro D C s' G m L q M N;obtain⟨P,R,n,U,Y,Z⟩:=N;exact⟨m,M,λh' sb=>⟨.ref D,G,L.turned (λb o hb=>(sb.2 b hb).trans) P R U Y Z,rfl,q⟩⟩
end
end L2
namespace Mi
open PySem L2
section
variable{X:Cx}
theorem Ci:Rn X none (tT K DO):=λa s O H Q I h=>by
 obtain⟨Y,Z,B,b,c,R,S,e,q⟩:=h;cases e;exact⟨H,I,q Y H R.ext0 R⟩
theorem EB(h:RT X c mc):Rn X (some c) (tT X.kw mc):=h.pe
theorem YZ(h:tG K (Cq is) v O H Q):Wr K is.length (Fs is) v O H Q:=by
 obtain⟨Y,Z,B,d,g,i,R,S,j,e,q⟩:=h;cases d with
 |tup b=>
  obtain⟨p,k,rfl,l,f⟩:=j;have a:(if b.length=is.length then Ge is b B else Bj) Z=some (g,i):=e;by_cases c:b.length=is.length
  ·rw[if_pos c] at a;refine⟨p,k,rfl,l,by rw[f.length,c],Hj R S f a λz m n=>?_⟩;subst z;exact q Y H R.ext0 R m n
  ·rw[if_neg c] at a;cases a
 |_=>cases e
theorem XA(d:D)(B c:Sl)(Z Z':Mh)(e:Cq is d B Z=some (c,Z')):Z'=Z:=by
 cases d with
 |tup b=>
  have a:(if b.length=is.length then Ge is b B else Bj) Z=some (c,Z'):=e;by_cases f:b.length=is.length
  ·rw[if_pos f] at a;exact LU a
  ·rw[if_neg f] at a;cases a
 |_=>cases e
end
open Ht
section
variable{X:Cx}{e tg iter:Expr}{body:List Stmt}{pos:Pos}
noncomputable def cf(ks:List Key)(m:Sl->M (List D)):Sl->M D:=λB Z=>match m B (Z++[.dK []]) with
 |some (a,b)=>match b[Z.length]? with
  |some (.dK [])=>if a.length=ks.length then some (.ref Z.length,b.set Z.length (.dK (ks.zip a))) else none
  |_=>none
 |none=>none
noncomputable def Hk(n:Nat)(bf:D->Sl->M Sl)(a:Sl->M (Fl×Sl)):Nat->Nat->Sl->M (Fl×Sl)
 |0,_,_=>Bj
 |f+1,i,B=>λZ=>match Z[n]? with
  |some (.lst b)=>match b[i]? with
   |some x=>(bnd (bf x B) λc=>bnd (a c) λr=>match r.1 with
    | .next=>Hk n bf a f (i+1) r.2
    | .cont=>Hk n bf a f (i+1) r.2
    | .brk=>ret (.next,r.2)
    | .rt d=>ret (.rt d,r.2)
    | .xc x=>ret (.xc x,r.2)) Z
   |none=>some ((.next,B),Z)
  |_=>none
noncomputable def Pd(GG:Nat)(m:Sl->M D)(bf:D->Sl->M Sl)(a:Sl->M (Fl×Sl)):Sl->M (Fl×Sl):=λB=>bnd (m B) λx=>match x with
 | .ref n=>Hk n bf a GG 0 B
 |_=>Bj
theorem V3(GG:Nat)(hp:PassesOwn (model X.prog X.w) X.A X.env X.xe)(hc:X.calm=true)(hi:RE X iter m)(hg:RG X tg bf)(hb:RSs X body F)
  (hs:∀x,foldedSetIterable iter X.env x=pure x:=by intro _;rfl):RS X (.For tg iter body [] pos) (Pd GG m bf F):=RS.wk (OJ hp hc (Pn hi.pe) hg.pe hb.pe hs) λDn O H h=>by
 obtain⟨Y,Z,B,f,c,b,R,S,e,q⟩:=h;obtain⟨x,C,G,j⟩:=AI e;refine⟨Y,Z,B,x,C,R,S,G,λx4 H1 E1 R1 v i1=>?_⟩;cases x with
 |ref n=>
  unfold Is at i1;obtain⟨hk,rfl⟩:=i1;have g:∃E,C[n]?=some (.lst E):=by
   cases GG with
   |zero=>cases j
   |succ f=>
    have I:Hk n bf F (f+1) 0 B C=some ((_,c),b):=j;unfold Hk at I;split at I
    ·rename_i E J;exact⟨E,J⟩
    ·cases I
  obtain⟨ds0,g⟩:=g;obtain⟨u,k,o⟩:=R1.obj n _ g;obtain⟨K,rfl,iv0⟩:=o;refine⟨_,rfl,⟨K,SqL.of k⟩,?_⟩
  let W  := λi m O H=>∃Y Z B f c b,RelH X.kw Y Z H/\RelS X.kw Y Z.length H B O/\n<Z.length/\Y n=x4 n/\Hk n bf F m i B Z=some ((f,c),b) /\
   Aft X.kw Y Z H b λY' L=>∀N,RelS X.kw Y' b.length L c N->FlP X.kw Dn Y' b.length L c N f
  refine⟨W,⟨GG,x4,C,B,f,c,b,R1,S.ext E1,hk,rfl,j,λw9 H2 E2=>q w9 H2 (E1.trans E2)⟩,?_⟩;rintro i m O H ⟨Y,Z,B,f,c,b,R,S,hn,en,e,q⟩;cases m with
  |zero=>cases e
  |succ m=>
   unfold Hk at e;split at e
   ·rename_i E J;obtain⟨u,k,o⟩:=R.obj n _ J;obtain⟨P,rfl,iv⟩:=o;rw[en] at k;have hl:=iv.length;split at e
    ·rename_i x Q;obtain⟨xv,l,T⟩:=iv.get Q;refine .inr ⟨⟨P,xv,SqL.of k,l⟩,W (i+1) m,λN L z=>⟨_,Nat.lt_succ_self _,z⟩,λy H2 U=>?_⟩;obtain⟨z,U⟩:=U;subst z;have:=U P (SqL.of k);rw[l] at this;cases this;obtain⟨x5,w6,G,ea⟩:=AI e;obtain⟨⟨f2,x3⟩,x6,j,p⟩:=AI ea;refine⟨Y,Z,B,_,x5,w6,R,S,T,G,λx8 H3 E3 R3 u8 S3=>⟨x8,w6,x5,f2,x3,x6,R3,S3,j,λr H4 E4 s v7 t=>?_⟩⟩;have a:=E3.trans E4;have w  := AAM hn a.le;have A  := (a.agree n hn).trans en;cases f2 with
     |next=>exact⟨r,x6,x3,f,c,b,s,t,w,A,p,λu6 H5 E5 R5=>q u6 H5 (a.trans E5) R5⟩
     |cont=>exact⟨r,x6,x3,f,c,b,s,t,w,A,p,λu6 H5 E5 R5=>q u6 H5 (a.trans E5) R5⟩
     |brk=>cases p;exact q r H4 a s v7 t
     |rt d=>cases p;exact q r H4 a s v7 t
     |xc x=>cases p;exact q r H4 a s v7 t
    ·rename_i Q;cases e;have hle  := by simpa using Q
     exact .inl ⟨⟨P,SqL.of k,by lia⟩,q Y H R.ext0 R O S⟩
   ·cases e
 |_=>cases j
end
end Mi
namespace Nk
open PySem PySem.Spec PyProof.Rows HT
noncomputable def RX(c:Cs):List Int:=c.1::c.2.1::c.2.2
noncomputable def cLt(a b:Cs):Bool:=Dd (RX a) (RX b)
theorem NW(h:RX a=RX b):a=b:=by
 obtain⟨c,d,e⟩:=a;simp[RX] at h
 simp_all
theorem GE(h:csK a=csK b):a=b:=by
 obtain⟨k,l,d⟩:=a;obtain⟨m,n,e⟩:=b;unfold csK at h;simp at h;obtain⟨f,g,i⟩:=h;have  := by
  have c:∀(x y:List Int),x.map NK.int=y.map NK.int->x=y:=by
   intro x
   induction x with
   |nil=>simp_all
   |cons u x j=>intro y h;cases y with
    |nil=>cases h
    |cons v y=>
     rw[AAW,AAW,List.cons.injEq,NK.int.injEq] at h;rw[h.1,j y h.2]
  exact c d e i
 rw[f,g,this]
theorem Ih:∀a:List Int,Dd a a=false
 |[]=>rfl
 |x::a=>by rw[CQ,if_pos rfl];exact Ih a
theorem L3:∀{a b:List Int},a≠b->Dd a b=true∨Dd b a=true
 |[],[],h=>absurd rfl h
 |[],_::_,_=>.inl rfl
 |_::_,[],_=>.inr rfl
 |x::a,y::b,h=>by
  by_cases e:x=y
  ·subst e;rw[CQ,CQ,if_pos rfl,if_pos rfl];exact L3 λz=>h (by rw[z])
  ·rw[CQ,CQ,if_neg e,if_neg (Ne.symm e)];rcases Int.lt_or_gt_of_ne e with z|z
   ·exact .inl (AAO z)
   ·exact .inr (AAO z)
theorem Oe:∀{a b c:List Int},Dd a b=true->Dd b c=true->Dd a c=true
 |[],[],_,h,_=>by cases h
 |[],_::_,[],_,h=>by cases h
 |[],_::_,_::_,_,_=>rfl
 |_::_,[],_,h,_=>by cases h
 |_::_,_::_,[],_,h=>by cases h
 |x::a,y::b,z::c,h,g=>by
  rw[CQ] at h g ⊢;by_cases e:x=y
  ·subst e;rw[if_pos rfl] at h;by_cases d:x=z
   ·subst d;rw[if_pos rfl] at g ⊢;exact Oe h g
   ·rw[if_neg d] at g ⊢;exact g
  grind
theorem MA:∀{l:List Int} {b:List Value},Ats h (l.map NK.int) b->IntsAre b l
 |[],_,a=>by subst a;exact .nil
 |i::l,_,a=>by
  obtain⟨v,c,rfl,d,e⟩:=a;obtain⟨t,rfl⟩:=d;exact .cons i t (MA e)
theorem Jy(x:At h (csK c) v):∃a o b n t u q,v=.ref a/\h.get? a=some o/\o.cls=.type "tuple" /\ o.data=.seq b n/\b.toList=[.int c.1 t,.int c.2.1 u,q]/\At h (.tup (c.2.2.map NK.int)) q:=by
 obtain⟨a,o,b,n,rfl,e,f,g,d⟩:=x;unfold Ats at d;obtain⟨s,w,i,j,d⟩:=d;unfold Ats at d;obtain⟨y,z,k,l,d⟩:=d;unfold Ats at d;obtain⟨m,A,p,r,d⟩:=d;obtain⟨t,rfl⟩:=j;obtain⟨u,rfl⟩:=l;subst d p k;exact⟨a,o,b,n,t,u,m,rfl,e,f,g,i,r⟩
theorem LJ:∀l:List Int,NK.deeps (l.map NK.int)=0
 |[]=>rfl
 |i::l=>by show max 0 (NK.deeps (l.map NK.int))=0;rw[LJ l];rfl
section
variable{prog:Program}{w:World}{A:Around}{E:Value->Shared->Prop}{s:Shared}
theorem bh(Y:A.units+8<cLine)(r:At s.heap (csK a) x)(v:At s.heap (csK b) y)(q:Q (cLt a b) s):wpAny (model prog w) A (keyLt' (tuples' true) x y) Q E s:=by
 obtain⟨x,Z,B,n,t,u,p,rfl,C,h2,D,m,e⟩:=Jy r;obtain⟨y,oy,F,n',G,H,I,rfl,J,g2,L,o,f⟩:=Jy v;refine PySem.W.kat_lt C D J L ?_;rw[m,o];unfold cLt RX at q;rw[CQ] at q;refine PySem.W.kat_cons (SeqAt.EqAt.int_int a.1 t b.1 G prog w _ _ ?_);by_cases c:a.1=b.1
 ·rw[beq_iff_eq.mpr c];rw[if_pos c,CQ] at q;refine PySem.W.kat_yes (PySem.W.kat_cons (SeqAt.EqAt.int_int a.2.1 u b.2.1 H prog w _ _ ?_));by_cases d:a.2.1=b.2.1
  ·rw[beq_iff_eq.mpr d];rw[if_pos d] at q;refine PySem.W.kat_yes (PySem.W.kat_cons (At.eq (by show A.units+(NK.deeps (a.2.2.map NK.int)+1)<cLine;rw[LJ];lia) e f prog w _ _ ?_));by_cases g:a.2.2=b.2.2
   ·have M:decide (NK.tup (a.2.2.map NK.int)=NK.tup (b.2.2.map NK.int))=true:=AAO (by rw[g]);rw[M];rw[g,Ih] at q;have N:B.size=3:=by rw[←Array.length_toList,m];rfl
    have O:F.size=3:=by rw[←Array.length_toList,o];rfl
    rw[N,O];exact q
   ·have h:¬(NK.tup (a.2.2.map NK.int)=NK.tup (b.2.2.map NK.int)):=λz=>g (by
     have:=GE (a:=(0,0,a.2.2)) (b:=(0,0,b.2.2)) (by unfold csK;rw[z]);exact(Prod.mk.inj (Prod.mk.inj this).2).2)
    rw[AAN h];refine PySem.W.kat_no ?_;show wpAny _ _ (oneLt' false p I) Q _ s;unfold At at e f;obtain⟨z,P,i1,R,rfl,S,T,U,V⟩:=e;obtain⟨z',W,i2,X,rfl,i,j,k,l⟩:=f;exact PySem.W.kat_one _ _ (OY ⟨P,S,T,R,U⟩ ⟨W,i,j,X,k⟩ (MA V) (MA l) (by lia) q)
  ·rw[AAd.mpr d];rw[if_neg d] at q;exact PySem.W.kat_no (PySem.W.kat_one _ _ (lt_int q))
 ·rw[AAd.mpr c];rw[if_neg c] at q;exact PySem.W.kat_no (oneLt_int q)
end
theorem Ats.get:∀{ks:List NK} {b:List Value},Ats h ks b->∀(i:Nat) (k:NK),ks[i]?=some k->∃v,b[i]?=some v/\At h k v
 |[],_,_,i,k,e=>by trivial
 |j::ks,_,a,i,k,e=>by
  obtain⟨v,c,rfl,d,f⟩:=a;cases i with
  |zero=>simp at e;subst e;exact⟨v,rfl,d⟩
  |succ i=>
   obtain⟨u,l,g⟩:=Ats.get f i k (by trivial);exact⟨u,by trivial,g⟩
theorem Ats.of_get:∀{ks:List NK} {a:List Value},a.length=ks.length->(∀(i:Nat) (k:NK) (v:Value),ks[i]?=some k->a[i]?=some v->At h k v)->Ats h ks a
 |[],[],_,_=>by trivial
 |[],_::_,e,_=>by trivial
 |_::_,[],e,_=>by trivial
 |k::ks,v::a,e,f=>⟨v,a,rfl,f 0 k v rfl rfl,Ats.of_get (by simpa using e) λi b c d g=>f (i+1) b c (by trivial) (by trivial)⟩
noncomputable abbrev cq:Cs:=(0,0,[])
section
variable{w:World}{s:Shared}
theorem CS:∀{ks:List Cs} {c:List Value},Ats s.heap (ks.map csK) c->∃b:List Value,b.length=c.length/\PySem.W.KatTups s.heap c b/\∀v∈b,∃i t,v=.int i t
 |[],_,a=>by
  subst a;exact⟨[],rfl,trivial,λv h=>by cases h⟩
 |k::ks,_,a=>by
  obtain⟨v,g,rfl,j,l⟩:=a;obtain⟨b,e,t,f⟩:=CS l;obtain⟨x,o,d,n,m,u,q,rfl,p,r,y,A,_⟩:=Jy j;refine⟨.int k.1 m::b,by simp[e],PySem.W.KatTups.cons p r y ?_ t,λw B=>(AAI.mp B).elim (λz=>⟨_,_,z⟩) (f w)⟩;rw[←Array.getElem?_toList,A];rfl
end
end Nk
namespace Nk
open PySem PySem.Spec PyProof.Rows Ht
noncomputable def itK(d:Addr)(i n a:Nat):Obj:={ cls:=.type "dict_keyiterator",data:=.fields #[.ref d,.int i 0,.int n 0,.int a 0] }
section
variable{prog:Program}{w:World}{A:Around}{E:Value->Shared->Prop}{s:Shared}{d I:Addr}{o:Obj}{es:Array DictEntry}{ep:Nat}
theorem Pq(p:A.handled=none)(j:s.heap.get? I=some (itK d i es.size ep))(z:s.heap.get? d=some o)(n:o.data=.dict es ep)
  (g:∀(hi:i<es.size) (f:Heap),f.get? I=some (itK d (i+1) es.size ep)->Heap.SameBut I s.heap f->Q (some es[i].key) { s with heap:=f })
  (h:es.size<=i->∀f,Heap.ExtBut I s.heap f->Q none { s with heap:=f }):wpAny (model prog w) A (pyNext (.ref I)) Q E s:=by
 have l:s.TypeIs (.ref I) "dict_keyiterator" := ⟨_,j,rfl⟩;have q:∀{A:Around} {s:Shared} {E:Value->Shared->Prop} {R:String->Shared->Prop},s.TypeIs (.ref I) "dict_keyiterator" -> R "dict_keyiterator" s->wpAny (model prog w) A (typeNameOfWhole (.ref I)) R E s:=λm r=>wpAny_typeNameOfWhole_keyiter m r;unfold pyNext;refine AAA (wpAny_attempt (wpAny_callSpecial?_slot (name:=Str.ofString "__next__") l PySem.F.slot_dict_keyiterator_next (AAb PySem.F.slot_dict_keyiterator_next l PySem.F.entry_dict_keyiterator_next ?_ (PySem.F.args_dict_keyiterator_next_1 _))))
 wp_walk
 rw[n]
 wp_walk
 rw[n];refine AAB ?_;rw[if_neg (by simp)];refine AAB ?_;have key:(if (i:Int)<0 then none else es[(i:Int).toNat]?)=es[i]?:=by rw[if_neg (by lia),Int.toNat_natCast]
 dsimp only;rw[key];cases e:es[i]? with
 |some x=>
  wp_walk
  have hi:i<es.size:=(Array.getElem?_eq_some_iff.mp e).1;have t:es[i]=x:=(Array.getElem?_eq_some_iff.mp e).2;refine⟨_,rfl,AAB ?_⟩;rw[←t];refine g hi _ ?_ (Heap.SameBut.update ..);rw[if_neg (by decide +kernel),if_neg (by decide +kernel)];rw[Heap.get?_update_self _ j (by rfl)];simp[itK,rawInt,Obj.mapFields]
 |none=>
  refine AAA (AAA (q l (AAB ?_)));rw[if_neg (by decide +kernel)];refine AAA (AAo j (by simp) λu B v=>?_);refine GY (A:=A.in1) (s:={ s with heap:=u }) p λa f k m=>?_;refine AAA (wpAny_isInstance (T := "StopIteration") (b:=true) m isSubtype_stop ?_);exact AAB (h (by simpa using e) f λb o y e=>k b o (v.extBut b o y e))
theorem Wn(lo:(d==sysModules)=false)(c:s.heap.get? d=some o)(ex:o.ExactDict)(a:o.data=.dict es ep)(q:Q (.ref s.heap.objs.size) { s with heap:=s.heap.push (itK d 0 es.size ep) }):wpAny (model prog w) A (pyIter (.ref d)) Q E s:=by
 have b:s.TypeIs (.ref d) "dict" := ⟨o,c,ex.1⟩;refine wpAny_pyIter_slot b PySem.F.slot_dict_iter (AAb PySem.F.slot_dict_iter b PySem.F.entry_dict_iter ?_ (PySem.F.args_dict_iter_1 _))
 wp_walk
 rw[if_neg (by rw[ex.1];decide)]
 wp_walk
 rw[a]
 wp_walk
 rw[a]
 wp_walk
 exact⟨_,rfl, "dict_keyiterator",_,⟨_,AAD _ rfl,rfl⟩,PySem.F.slot_dict_keyiterator_next.lookup,q⟩
theorem Qt(a:s.heap.get? I=some (itK d i es.size ep))(q:Q (.ref I) s):wpAny (model prog w) A (pyIter (.ref I)) Q E s:=wpAny_pyIter_keyiter ⟨_,a,rfl,rfl⟩ q
theorem Nz(l:A.handled=none)(j:d≠I)(m:o.data=.dict es ep):Walks prog w A I [I,d] [I] es.size (λi v=>∃e,es[i]?=some e/\v=e.key) (λi h=>h.get? I=some (itK d i es.size ep)/\h.get? d=some o):=by
 refine⟨λb c=>?_,λi h f st k=>⟨k I (by simp) _ st.1,k d (by simp) _ st.2⟩,λi s Q E n st q=>?_,λs Q E st q=>?_,λi s Q E st=>Qt st.1⟩
 ·rw[AAK] at c;rw[c];simp
 ·refine Pq l st.1 st.2 m (λa f g sb=>q _ f s.toks ⟨es[i],Array.getElem?_eq_getElem a,rfl⟩ ⟨g,(sb.2 d j).trans st.2⟩ λb o c e=>?_) λz=>absurd n (Nat.not_lt.mpr z);exact(sb.2 b λz=>c (by rw[z];simp)).trans e
 ·exact Pq l st.1 st.2 m (λa=>absurd a (AAv _)) λ_ f k=>q f s.toks λb o c=>k b o λz=>c (by rw[z];simp)
theorem Mp(lo:(d==sysModules)=false)(ex:o.ExactDict)(a:o.data=.dict es ep):PySem.W.KdlSrc prog w "dict" d d es.size (λi v=>∃e,es[i]?=some e/\v=e.key) (λh=>h.get? d=some o):=⟨λs h=>⟨_,h,ex.1⟩,λh e=>⟨Heap.lt_size e,Heap.lt_size e⟩,λh f e k=>k d (.inl rfl) _ e,by decide,by decide,λA E s Q e=>PySem.W.kdl_hint_dict ⟨_,e,ex.1⟩,λA s c e=>⟨itK d 0 es.size ep,_,λE Q=>Wn lo e ex a,Nz c (AAc (Heap.lt_size e)) a,AAD _ rfl,AAC _ e⟩⟩
theorem Jj(it:ItemsOf (λi v=>∃e,es[i]?=some e/\v=e.key) c es.size):c.toList=es.toList.map (·.key):=by
 have f:=it.1;refine List.ext_getElem (by simp[f]) λi a b=>?_;have g  := by simpa using a
 obtain⟨e,h,j⟩:=it.2 i c[i] (Array.getElem?_eq_getElem g);have k  := (Array.getElem?_eq_some_iff.mp h).2;simp[j,←k]
end
section
variable{prog:Program}{w:World}{A:Around}{E:Value->Shared->Prop}{s:Shared}{d a:Addr}{o:Obj}{es:Array DictEntry}{ep:Nat}{K:Type}[DecidableEq K]{kd:HeapKind prog w K}{xs:List (K×Addr×Value)}{k:K}{v:Value}
theorem XO(h:kd.room A)(i:kd.is s.heap k a)(e:s.heap.get? d=some o)(n:o.ExactDict)(c:o.data=.dict es ep)(l:es.toList=xs.map (entryOfKey kd))(hi:∀x∈xs,kd.is s.heap x.1 x.2.1)(hn:(xs.map (·.1)).Nodup)(m:atKey xs k=none)(r:xs.length<sizeLine)
  (q:∀f g,f.get? d=some g->g.ExactDict->g.data=.dict (es.push ⟨kd.hash k,.ref a,v⟩) (ep+1)->Heap.SameBut d s.heap f->Q () { s with heap:=f,toks:=s.toks+kd.draws k }):wpAny (model prog w) A (dictSet d (.ref a) v) Q E s:=by
 have b:es.size<=sizeLine:=by rw[size_of_entries l];lia
 refine AAn (AAA (kd.pyHash h i (AAn (AAA (wpAny_dictFind_heap h i e c l hi hn (λ_=>?_) λj p z=>?_)))))
 ·exact AAA (wpAny_rule (wpAny_updateDictKeys e c (q _ _ (Heap.get?_update_self _ e (Obj.isFreed_of_dict (Obj.data_mapDictKeys c _))) (n.mapDictKeys _) (Obj.data_mapDictKeys c _) (Heap.SameBut.update ..)) b))
 ·rw[atKey_of_get hn z] at m;cases m
theorem put_c(g:kd.room A.in1)(h:kd.is s.heap k a)(f:s.heap.get? d=some o)(hc:o.ExactDict)(j:o.data=.dict es ep)(l:es.toList=xs.map (entryOfKey kd))(hi:∀x∈xs,kd.is s.heap x.1 x.2.1)(hn:(xs.map (·.1)).Nodup)(m:atKey xs k=none)(n:xs.length<sizeLine)
  (q:∀b c,b.get? d=some c->c.ExactDict->c.data=.dict (es.push ⟨kd.hash k,.ref a,v⟩) (ep+1)->Heap.SameBut d s.heap b->Q () { s with heap:=b,toks:=s.toks+kd.draws k }):wpAny (model prog w) A (setItem (.ref d) (.ref a) v) Q E s:=by
 have e:s.TypeIs (.ref d) "dict" := ⟨o,f,hc.1⟩;refine AAn (AAA (wpAny_sequenceKey e (by decide) (AAA (wpAny_callSpecial?_slot e slot_dict_setitem (AAb slot_dict_setitem e entry_dict_setitem ?_ (args_dict_setitem _ _ _))))));refine AAA (wpAny_notOrdered_dict e ?_);show wpAny _ _ (dictSet d (.ref a) v >>= _) _ _ s;exact AAA (XO g h f hc j l hi hn m n λb c p r t u=>AAB ⟨.none,rfl,AAB (q b c p r t u)⟩)
end
end Nk
namespace Nk
open PySem PySem.Spec PyProof.Rows L2 Mi
theorem Uo(c:Cs):(csK c).deep<=8:=by
 have h:∀a:List Int,NK.deeps (a.map NK.int)=0:=λa=>by
  induction a with
  |nil=>rfl
  |cons n r b=>trivial
 have:(csK c).deep=max 0 (max 0 (max (NK.deeps _+1) 0))+1:=rfl;rw[this,h]
 decide
theorem No:∀{ns:List Int} {a:List Value},Vals (ns.map V.int) a->Ats h (ns.map NK.int) a
 |[],_,r=>by cases r;rfl
 |n::ns,_,r=>by
  cases r with
  |cons e t=>
   obtain⟨b,rfl⟩:=e;exact⟨_,_,rfl,⟨b,rfl⟩,No t⟩
section
variable{X:Cx}{w4:List (Addr×Obj)}{O:L2.St}{H:Hp}{s:Shared}{Y:Nat->Addr}{k:Nat}
theorem U1(I:Inv X w4 O H s)(i:Is X.kw Y k H (csD c) v)(r:RelV v u):At s.heap (csK c) u:=by
 obtain⟨p,R,rfl,f,a⟩:=i;cases r;obtain⟨g,b,⟨o,h,j,n,l⟩,_⟩:=I.tuple f;obtain⟨S,_,rfl,m,a⟩:=a;obtain⟨T,_,rfl,q,a⟩:=a;obtain⟨U,_,rfl,t,a⟩:=a;subst a;subst m q;obtain⟨w,x,rfl,y,z⟩:=t;have A:=z.ints;subst A;obtain⟨e,d,⟨B,C,E,F,G⟩,_⟩:=I.tuple y;cases b with
 |cons J b=>
  cases b with
  |cons L b=>
   cases b with
   |cons N b=>
    cases b;obtain⟨P,rfl⟩:=J;obtain⟨Q,rfl⟩:=L;cases N;refine⟨p,o,_,n,rfl,h,j,l,_,_,rfl,by unfold At;exact⟨P,rfl⟩,_,_,rfl,by unfold At;exact⟨Q,rfl⟩,?_⟩;unfold Ats;refine⟨_,_,rfl,?_,by unfold Ats;rfl⟩;unfold At;exact⟨w,B,_,F,rfl,C,E,G,No d⟩
theorem isC(I:Inv X w4 O H s)(i:Is X.kw Y k H (csD c) (.ref a)):(kind X.prog X.w).is s.heap (csK c) a:=⟨U1 I i rfl,Uo c⟩
end
noncomputable def FV(l:List (Cs×Addr×V))(a:List Value):List (NK×Addr×Value):=(l.zip a).map λx=>(csK x.1.1,x.1.2.1,x.2)
theorem PJ(h:l.length=a.length):(FV l a).map (·.1)=(l.map (·.1)).map csK:=by
 unfold FV;rw[List.map_map,List.map_map];have:(λx:(Cs×Addr×V)×Value=>csK x.1.1)=(λy  => csK y.1) ∘ Prod.fst:=rfl;show (l.zip a).map (λx=>csK x.1.1)=_;rw[this,←List.map_map,List.map_fst_zip (by lia)];rfl
theorem Q5{ks:List Cs}(h:ks.Nodup):(ks.map csK).Nodup:=by
 refine List.Pairwise.map _ ?_ h;intro a b c e;exact c (GE e)
theorem HL(h:l.length=a.length):(atKey (FV l a) (csK c)).isSome=l.any λy=>decide (y.1=c):=by
 have e:(atKey (FV l a) (csK c)).isSome=((FV l a).map (·.1)).any λy=>decide (y=csK c):=by
  unfold atKey;rw[Option.isSome_map,List.any_map];rw[Bool.eq_iff_iff,List.find?_isSome,List.any_eq_true];rfl
 rw[e,PJ h,List.any_map,List.any_map];congr 1
 funext y
 show decide (csK y.1=csK c)=decide (y.1=c);by_cases z:y.1=c
 ·rw[z];simp
 ·rw[AAN z,AAN λq=>z (GE q)]
theorem FQ(c:HOk P w H h)(e:H p=some (Ca p l)):∃(a:List Value) (o:Obj) (es:Array DictEntry) (b:Nat),Vals (l.map (·.2.2)) a/\h.get? p=some o/\o.ExactDict/\o.data=.dict es b /\
  es.toList=(l.zip a).map (λx=>{ key:=.ref x.1.2.1,hash:=(csK x.1.1).hash,val:=x.2 })/\(l.map (·.1)).Nodup/\l.length<=sizeLine/\(p==sysModules)=false/\b=l.length:=(c p _ e).1
theorem QR (x:∃(a:List Value) (o:Obj) (es:Array DictEntry) (b:Nat),Vals (l.map (·.2.2)) a/\h.get? p=some o/\o.ExactDict/\o.data=.dict es b /\
  es.toList=(l.zip a).map (λx=>{ key:=.ref x.1.2.1,hash:=(csK x.1.1).hash,val:=x.2 })/\(l.map (·.1)).Nodup/\l.length<=sizeLine/\(p==sysModules)=false/\b=l.length):ObjOk P w H h p (Ca p l):=by
 refine⟨x,?_,?_⟩
 ·obtain⟨a,o,es,b,_,c,_⟩:=x;exact⟨o,c⟩
 ·rintro c g ⟨a,o,es,b,d,e,f⟩ k;exact⟨a,o,es,b,d,k o e,f⟩
theorem Nb{P:Program}{w:World}{h:Heap}{a:List Value}{es:Array DictEntry}(b:l.length=a.length)
  (c:es.toList=(l.zip a).map (λx=>{ key:=.ref x.1.2.1,hash:=(csK x.1.1).hash,val:=x.2 })) (d:(l.map (·.1)).Nodup) (hi:∀y∈l,(kind P w).is h (csK y.1) y.2.1):es.toList=(FV l a).map (entryOfKey (kind P w))/\(∀x∈FV l a,(kind P w).is h x.1 x.2.1)/\((FV l a).map (·.1)).Nodup:=by
 refine⟨?_,?_,?_⟩
 ·rw[c];unfold FV;rw[List.map_map];rfl
 ·intro x e;obtain⟨y,f,rfl⟩:=AAL.mp e;exact hi y.1 (List.of_mem_zip f).1
 ·rw[PJ b];exact Q5 d
end Nk
namespace Mi
open PySem L2 Ht Nk
theorem CVs.keys:∀{l:List (Cs×D)} {r:List (Cs×Addr×V)},CVs K Y k H l r->r.map (·.1)=l.map (·.1)
 |[],_,h=>by cases h;rfl
 |(y,d)::l,_,h=>by
  obtain⟨a,v,c,rfl,_,_,b⟩:=h;rw[AAW,AAW,CVs.keys b]
theorem CVs.at:∀{l:List (Cs×D)} {r:List (Cs×Addr×V)},CVs K Y k H l r->∀y∈r,Is K Y k H (csD y.1) (.ref y.2.1)
 |[],_,h,y,b=>by cases h;cases b
 |(z,d)::l,_,h,y,b=>by
  obtain⟨a,v,f,rfl,c,_,e⟩:=h;rcases AAI.mp b with rfl|b
  ·exact c
  ·exact CVs.at e y b
theorem CVs.isL:∀{l:List (Cs×D)} {r:List (Cs×Addr×V)},CVs K Y k H l r->IsL K Y k H (l.map λy=>csD y.1) (r.map λy=>.ref y.2.1)
 |[],_,h=>by cases h;exact .nil
 |(z,d)::l,_,h=>by
  obtain⟨a,v,e,rfl,b,_,c⟩:=h;exact .cons b (CVs.isL c)
theorem CVs.app(f:Is K Y k H (csD c) (.ref a))(g:Is K Y k H d v):∀{l:List (Cs×D)} {r:List (Cs×Addr×V)},CVs K Y k H l r->CVs K Y k H (l++[(c,d)]) (r++[(c,a,v)])
 |[],_,h=>by cases h;exact⟨a,v,[],rfl,f,g,rfl⟩
 |(z,e)::l,_,h=>by
  obtain⟨b,w,n,rfl,i,j,m⟩:=h;exact⟨b,w,_,rfl,i,j,CVs.app f g m⟩
theorem Np{α a:Type}{l:List (Cs×α)}{r:List (Cs×a)}(h:r.map (·.1)=l.map (·.1))(c:Cs):(r.any λy=>decide (y.1=c))=l.any λy=>decide (y.1=c):=by
 have b:(r.any λy=>decide (y.1=c))=(r.map (·.1)).any λy=>decide (y=c):=by rw[List.any_map];rfl
 have d:(l.any λy=>decide (y.1=c))=(l.map (·.1)).any λy=>decide (y=c):=by rw[List.any_map];rfl
 rw[b,d,h]
noncomputable def DU:List D->Option (List Int)
 |[]=>some []
 | .int i::r=>(DU r).map (i::·)
 |_::_=>none
theorem Fr:∀{ds:List D} {ns:List Int},DU ds=some ns->ds=ns.map D.int
 |[],ns,e=>by cases e;rfl
 | .int i::r,ns,e=>by
  unfold DU at e;cases h:DU r with
  |none=>rw[h] at e;cases e
  |some m=>rw[h] at e;cases e;rw[Fr h];rfl
 | .non::_,_,e | .bl _::_,_,e | .str _::_,_,e | .ty _::_,_,e | .scr _::_,_,e | .tup _::_,_,e | .lst _::_,_,e | .ref _::_,_,e=>by cases e
noncomputable def Kd:D->Option Cs
 | .tup [.int a,.int b,.tup c]=>(DU c).map λd=>(a,b,d)
 |_=>none
theorem GF(e:Kd d=some c):d=csD c:=by
 unfold Kd at e;split at e
 ·rename_i a b f;cases h:DU f with
  |none=>rw[h] at e;cases e
  |some g=>rw[h] at e;cases e;rw[Fr h];rfl
 ·cases e
noncomputable def GJ:D->M (Nat×List (Cs×D))
 | .ref n=>λZ=>match Z[n]? with
  |some (.dC l)=>some ((n,l),Z)
  |_=>none
 |_=>Bj
theorem Cr(R:RelH K Y Z H)(i:Is K Y Z.length H d v)(e:GJ d Z=some (r,Z')):Z'=Z/\d=.ref r.1/\Z[r.1]?=some (.dC r.2)/\v=.ref (Y r.1)/\∃a,H (Y r.1)=some (Ca (Y r.1) a)/\CVs K Y Z.length H r.2 a:=by
 cases d with
 |ref n=>
  have e:(match Z[n]? with|some (.dC l)=>some ((n,l),Z)|_=>none)=some (r,Z'):=e;split at e
  ·rename_i l b;cases e;obtain⟨u,c,a,rfl,f⟩:=R.obj n _ b;exact⟨rfl,rfl,b,i.2,a,c,f⟩
  ·cases e
 |_=>cases e
section
variable{X:Cx}{e o i:Expr}{pos pos':Pos}
noncomputable def Pw:Sl->M D:=λ_ Z=>some (.ref Z.length,Z++[.dC []])
theorem TZ:PE X (.Dict [] [] pos) (λ_ H Q=>∀p,H p=none->Q (.ref p) (upd H p (Ca p []))):=λa s O H Q I h=>
 wpAny_Dict_empty ⟨.ref _,_,I.laid (o:=Ca _ []) (λ_ _=>AAC _) (AAE _)
  (QR ⟨[],_,#[],0,.nil,AAD _ rfl,⟨rfl,rfl,rfl⟩,rfl,rfl,List.nodup_nil,AAi _,AAd.mpr (Ne.symm (AAc I.big)),rfl⟩),rfl,h _ (I.hok.fresh (AAE _))⟩
theorem JU:RE X (.Dict [] [] pos) Pw:=RE.wk TZ λO H Q h=>by
 obtain⟨Y,Z,B,d,j,R,S,e,q⟩:=h;cases e;intro p a;obtain⟨b,c,f,g⟩:=R.grown (m:=.dC []) a ⟨[],rfl,rfl⟩;exact q b _ c f _ ⟨by simp,by rw[g]⟩
theorem JS(a:Room k X.A):(Nk.kind X.prog X.w).room X.A.in1:=by
 have:=a.units;show X.A.units+1+8<cLine;lia
theorem Na{f:List (Addr×Obj)}{O:St}{H:Hp}{s:Shared}{p:Addr}{l:List (Cs×Addr×V)}(I:Inv X f O H s)(h:H p=some (Ca p l))(hi:∀y∈l,Is X.kw Y k H (csD y.1) (.ref y.2.1)):
  ∃a,l.length=a.length/\Vals (l.map (·.2.2)) a/\s.heap.DictOfH (Nk.kind X.prog X.w) p (FV l a)/\(l.map (·.1)).Nodup/\l.length<=sizeLine/\(p==sysModules)=false:=by
 obtain⟨a,o,g,j,b,m,n,q,r,c,t,u,w⟩:=FQ I.hok h;have d  := by have:=b.length;simpa using this
 exact⟨a,d,b,⟨o,g,j,m,n,q,Nb d r c λy v=>isC I (hi y v)⟩,c,t,u⟩
noncomputable def Rf(a:Bool)(y d:D):M D:=bnd (GJ d) λr=>λZ=>(Kd y).map λc=>(.bl (if a then !(r.2.any λz=>decide (z.1=c)) else r.2.any λz=>decide (z.1=c)),Z)
theorem To{k:Nat}(n:Room k X.A):OpR X (compareOp .NotIn) (rM X.kw (Rf true)):=λJ s O H x y v u Q I p t h=>by
 obtain⟨Y,Z,a,b,d,K,R,l,w,e,q⟩:=h;obtain⟨r,L,z,f⟩:=AI e;obtain⟨A,_,N,rfl,B,C,m⟩:=Cr R w z;subst A;cases g:Kd a with
 |none=>rw[g] at f;cases f
 |some c=>
  rw[g] at f;cases f;cases GF g;have j:=l;obtain⟨P,_,rfl,_⟩:=j;cases p;cases t;obtain⟨S,E,_,F,_,_,G⟩:=Na I C m.at;refine PyProof.Rows.wpAny_notIn_heap (JS n) (isC I l) G F ?_;rw[HL E,Np m.keys];exact⟨.bl _,H,I.tok _,rfl,q Y H R.ext0 R _ (ofB _)⟩
noncomputable def Ed(mo mi mv:Sl->M D):Sl->M (Fl×Sl):=λB=>bnd (mv B) λv=>bnd (mo B) λx=>bnd (mi B) λy=>bnd (GJ x) λr=>λZ=>match Kd y with
 |some c=>if r.2.length<sizeLine/\(r.2.any λz=>decide (z.1=c))=false then some ((.next,B),Z.set r.1 (.dC (r.2++[(c,v)]))) else none
 |none=>none
noncomputable def aN(d f g:TE)(K:KW):TS:=λh O H=>g O H λv j=>d O j λx m=>f O m λy b=>∃p l c a Y k,x=.ref p/\y=.ref a/\b p=some (Ca p l)/\(∀z∈l,Is K Y k b (csD z.1) (.ref z.2.1))/\Is K Y k b (csD c) (.ref a)/\l.length<sizeLine/\(l.any λz=>decide (z.1=c))=false/\h.nx O (upd b p (Ca p (l++[(c,a,v)])))
theorem WG{b:Expr}{K:Nat}(L:Room K X.A)(N:PE X o P)(hi:PE X i Q)(R:PE X b S)(T:swapsWith b (some (.Subscript o i pos')) pos.line X.env=pure false):
  PS X (.Assign [.Subscript o i pos'] b pos) (aN P Q S X.kw):=by
 intro m s O H D I h;refine wpAny_Assign_Subscript (thn (R m s O H _ I h) λr U ⟨v,W,Z,rv,q1⟩=>thn (N m U O W _ Z q1) λu s2 ⟨x,H2,I2,rx,q2⟩=>thn (hi m s2 O H2 _ I2 q2) λiv s3 zq=>?_) T;obtain⟨y,H3,g,ry,p,l,c,a,Y,k,ex,ey,e,hl,hc,hz,C,q3⟩:=zq;subst ex ey;cases rx;cases ry;obtain⟨j,o,es,ep,f,h1,h2,h3,E,F,_,lo,h8⟩:=FQ g.hok e;have d  := by have:=f.length;simpa using this
 have hx:(FV l j).length=l.length:=by unfold FV;rw[AAF,List.length_zip];lia
 have no:atKey (FV l j) (csK c)=none:=by
  have:=HL (c:=c) d;rw[C] at this;cases z:atKey (FV l j) (csK c) with
  |none=>rfl
  |some _=>rw[z] at this;cases this
 obtain⟨p1,p2,p3⟩:=Nb d E F λy hy=>isC g (hl y hy);refine Nk.put_c (JS L) (isC g hc) h1 h2 h3 p1 p2 p3 no (by lia) λh' G J d2 d3 sb=>⟨O,_,HG g (by rw[e];exact True.intro) sb ⟨G,J⟩ (QR ⟨j++[r],G,_,_,?_,J,d2,d3,?_,?_,?_,lo,?_⟩),q3⟩
 ·rw[AAX];exact f.append (.cons rv .nil)
 ·rw[Array.toList_push,E,List.zip_append d,AAX];rfl
 ·rw[AAX];refine List.nodup_append.mpr ⟨F,by simp,?_⟩;intro z n w hw;have q  := by simpa using hw
  intro A;obtain⟨t,ht,et⟩:=AAL.mp n;have B  := et.trans (A.trans q);have:(l.any λz=>decide (z.1=c))=true:=List.any_eq_true.mpr ⟨t,ht,by simp[B]⟩;rw[C] at this;cases this
 ·simp;lia
 ·rw[h8,AAG];rfl
theorem Gr{d:Expr}{k:Nat}(P:Room k X.A)(Q:RE X o mo)(hi:RE X i mi)(T:RE X d mv)(U:swapsWith d (some (.Subscript o i pos')) pos.line X.env=pure false:=by rfl):RS X (.Assign [.Subscript o i pos'] d pos) (Ed mo mi mv):=RS.wk (WG P Q.pe hi.pe T.pe U) λDn O H h=>by
 obtain⟨Y,Z,B,f,W,Z',R,S,e,q⟩:=h;obtain⟨v,I,e1,l⟩:=AI e;obtain⟨x,J,e2,n⟩:=AI l;obtain⟨y,x6,e3,p⟩:=AI n;obtain⟨r,u4,e4,b⟩:=AI p;refine⟨Y,Z,B,v,I,R,S,e1,λx4 H1 s R1 v1 i1=>⟨x4,I,B,x,J,R1,S.ext s,e2,λw9 H2 t R2 v2 i2=>⟨w9,J,B,y,x6,R2,S.ext (s.trans t),e3,λK H3 u L v3 w=>?_⟩⟩⟩;obtain⟨hm,hx,g1,A,C,g2,j⟩:=Cr L (i2.ext u) e4;subst hm;have g:=(s.trans t).trans u;cases E:Kd y with
 |none=>rw[E] at b;cases b
 |some c=>
  rw[E] at b;have b:(if r.2.length<sizeLine/\(r.2.any λz=>decide (z.1=c))=false then some ((Fl.next,B),List.set u4 r.1 (MO.dC (r.2++[(c,v)]))) else none)=some ((f,W),Z'):=b;split at b
  ·rename_i hl;cases b;cases GF E;have F:=w;obtain⟨a,_,rfl,_⟩:=F;have G  := (AAT.mp g1).1;have hkl  := by have:=congrArg List.length j.keys;simpa using this
   obtain⟨N,R4⟩:=L.changed (m:=.dC (r.2++[(c,v)])) G ⟨_,rfl,CVs.app w (i1.ext (t.trans u)) j⟩;exact⟨_,C,c,a,K,_,A,rfl,g2,j.at,w,by lia,by rw[Np j.keys];exact hl.2,q K _ (g.trans N) R4 O (S.ext (g.trans N))⟩
  ·cases b
theorem QU{l:List (Cs×Addr×V)}{es:Array DictEntry}(c:l.length=a.length)(b:es.toList=(l.zip a).map (λx=>{ key:=.ref x.1.2.1,hash:=(csK x.1.1).hash,val:=x.2 })):es.toList.map (·.key)=l.map λy=>Value.ref y.2.1:=by
 rw[b,List.map_map];have:((λx:DictEntry=>x.key) ∘ λx  => { key:=_,hash:=(csK x.1.1).hash,val:=x.2 })=(λy:Cs×Addr×V=>Value.ref y.2.1) ∘ Prod.fst:=rfl;rw[this,←List.map_map,List.map_fst_zip (by lia)]
theorem Kh:∀l:List (Cs×Addr×V),Vals (l.map λy=>V.ref y.2.1) (l.map λy=>Value.ref y.2.1)
 |[]=>.nil
 |y::r=>.cons rfl (Kh r)
theorem J2(b:X.calm=true):B7 X (.type "list") (λxs H Q=>∃p l,xs=[.ref p]/\H p=some (Ca p l)/\∀q,H q=none->Q (.ref q) (upd H q (.lst (l.map λy=>.ref y.2.1)))):=by
 intro G s O H xs d Q I r h;obtain⟨p,l,rfl,f,q⟩:=h;obtain⟨u,rfl,g⟩:=Ea r;cases g;obtain⟨d,o,j,J,k,m,n,t,a,K,v,w,L⟩:=FQ I.hok f;have x  := by have:=k.length;simpa using this
 have z:j.size=l.length:=by rw[←Array.length_toList,a,AAF,List.length_zip];lia
 refine PySem.W.kdl_call (Mp w n t) (I.ok.hd b) m (by lia) λA N B c C e E=>?_;have F:=(Jj E).trans (QU x a);refine⟨.ref _,_,I.laid C (AAE _) (show ObjOk X.prog X.w _ A _ (.lst _) from ⟨by simpa using v,_,c,?_,e⟩),rfl,q _ (I.hok.fresh (AAE _))⟩;rw[F];exact Kh l
noncomputable def Oc:List D->M D
 |[d]=>bnd (GJ d) λr=>λZ=>some (.ref Z.length,Z++[.lst (r.2.map λy=>csD y.1)])
 |_=>Bj
theorem W7(b:X.calm=true):B7 X (.type "list") (rMA X.kw Oc):=λc s O H C f Q I r h=>by
 obtain⟨Y,Z,E,d,F,R,g,e,q⟩:=h;unfold Oc at e;split at e
 ·obtain⟨rr,J,j,k⟩:=AI e;obtain⟨v,rfl,l⟩:=FE g;obtain⟨n,_,K,rfl,a,t,u⟩:=Cr R l j;subst n;cases k;refine J2 b c s O H _ f Q I r ⟨_,a,rfl,t,λp w=>?_⟩;obtain⟨x,z,A,B⟩:=R.grown (m:=.lst (rr.2.map λy=>csD y.1)) w ⟨_,rfl,u.isL⟩;exact q x _ z A _ ⟨by simp,by rw[B]⟩
 ·cases e
end
end Mi
namespace Nk
open PySem PySem.Spec PyProof.Rows PySem.SeqAt
noncomputable def RL(x:Cs):List Cs->List Cs
 |[]=>[x]
 |y::r=>if cLt x y=true then x::y::r else y::RL x r
noncomputable def Li:List Cs->List Cs
 |[]=>[]
 |x::r=>RL x (Li r)
theorem Hg(x:Cs):∀l,(RL x l).Perm (x::l)
 |[]=>List.Perm.refl _
 |y::r=>by
  unfold RL;split
  ·rfl
  ·exact((Hg x r).cons y).trans (List.Perm.swap x y r)
theorem Dz:∀l,(Li l).Perm l
 |[]=>List.Perm.refl _
 |x::r=>(Hg x _).trans ((Dz r).cons x)
theorem Uv(h:cLt a b=true)(g:cLt b c=true):cLt a c=true:=Oe h g
theorem W9(a:Cs):cLt a a=false:=Ih _
theorem W8(h:a≠b):cLt a b=true∨cLt b a=true:=L3 λz=>h (NW z)
theorem QA(x:Cs):∀{l:List Cs},(∀y∈l,y≠x)->l.Pairwise (λx y=>cLt x y=true)->(RL x l).Pairwise λx y=>cLt x y=true
 |[],_,_=>List.pairwise_singleton _ _
 |y::r,c,h=>by
  obtain⟨d,f⟩:=AAw.mp h;unfold RL;split
  ·rename_i b;exact AAw.mpr ⟨λz a=>(AAI.mp a).elim (λe=>e ▸ b) λa=>Uv b (d z a),h⟩
  ·rename_i b;refine AAw.mpr ⟨λz a=>?_,QA x (λz a=>c z (AAQ _ a)) f⟩;rcases AAI.mp ((Hg x r).mem_iff.mp a) with rfl|a
   ·exact(W8 (c y AAP)).resolve_right b
   ·exact d z a
theorem Lh:∀{l:List Cs},l.Nodup->(Li l).Pairwise λx y=>cLt x y=true
 |[],_=>List.Pairwise.nil
 |x::r,h=>by
  obtain⟨a,b⟩:=List.nodup_cons.mp h;exact QA x (λy c e=>a (by rw[←e];exact(Dz r).mem_iff.mp c)) (Lh b)
theorem SQ:∀{xs ys:List Cs},xs.Pairwise (λx y=>cLt x y=true)->ys.Pairwise (λx y=>cLt x y=true)->xs.Perm ys->xs=ys
 |[],ys,_,_,p=>by simp_all
 |x::xs,[],_,_,p=>by simp_all
 |x::xs,y::ys,b,c,p=>by
  obtain⟨d,f⟩:=AAw.mp b;obtain⟨g,h⟩:=AAw.mp c;have e:x=y:=by
   rcases AAI.mp (p.mem_iff.mp AAP) with e|e
   ·exact e
   ·rcases AAI.mp (p.symm.mem_iff.mp AAP) with a | a
    ·exact a.symm
    ·have:=Uv (g x e) (d y a);rw[W9] at this;cases this
  subst e;rw[SQ f h (List.Perm.cons_inv p)]
theorem Vw(a:l.Nodup)(p:ks.Perm l)(u:ks.Pairwise λx y=>cLt x y=true):ks=Li l:=SQ u (Lh a) (p.trans (Dz l).symm)
end Nk
namespace Mi
open PySem L2 Ht Nk
section
variable{X:Cx}{e:Expr}
theorem Nn(I:Inv X b O H s):∀{l:List (Cs×Addr×V)},(∀y∈l,Is X.kw Y k H (csD y.1) (.ref y.2.1))->Ats s.heap ((l.map (·.1)).map csK) (l.map λy=>Value.ref y.2.1)
 |[],_=>rfl
 |y::l,h=>⟨_,_,rfl,U1 I (h y AAP) rfl,Nn I λz a=>h z (AAQ _ a)⟩
theorem Te{t:List (Addr×Obj)}{O:St}{H:Hp}{s:Shared}{h:Heap}(I:Inv X t O H s)(j:∀b o,s.heap.get? b=some o->h.get? b=some o){l:List (Cs×Addr×V)}(hi:∀y∈l,Is X.kw Y k H (csD y.1) (.ref y.2.1)):
  ∀{d:List Value} {ks:List Cs},Ats h (ks.map csK) d->(∀v∈d,v∈l.map λy=>Value.ref y.2.1)->∃f,Vals f d/\IsL X.kw Y k H (ks.map csD) f
 |_,[],a,_=>by
  subst a;exact⟨[],.nil,.nil⟩
 |_,c::ks,a,m=>by
  obtain⟨v,p,rfl,u,w⟩:=a;obtain⟨f,r,i⟩:=Te I j hi w λv x=>m v (AAQ _ x);obtain⟨y,q,rfl⟩:=AAL.mp (m v AAP);have z:=(U1 I (hi y q) rfl).kept λb o g n e _ _=>j b o e;have A:=GE (At.inj z u);exact⟨.ref y.2.1::f,.cons rfl r,.cons (by rw[←A];exact hi y q) i⟩
noncomputable def WH:D->List D->M D
 | .ref n,[]=>FY n λa=>(a[a.length-1]?).map λd=>(d,a.dropLast)
 |_,_=>Bj
theorem IsL.dropLast(h:IsL K Y k H ds a):IsL K Y k H ds.dropLast a.dropLast:=by
 rw[List.dropLast_eq_take,List.dropLast_eq_take,h.length];exact h.take _
theorem bI:MtR X "list.pop" (rMM X.kw WH):=λj s O H x A v k Q I l m h=>by
 obtain⟨Y,Z,a,B,d,C,R,o,p,e,q⟩:=h;unfold WH at e;split at e
 ·rename_i n;obtain⟨g,E,i,b,rfl⟩:=F2 e;cases c:g[g.length-1]? with
  |none=>rw[c] at b;cases b
  |some F=>
   rw[c] at b;cases b;subst p;obtain⟨_,rfl⟩:=o;obtain⟨u,r,t,rfl,f⟩:=R.obj n _ i;obtain⟨w,y,z⟩:=f.get c;exact ZH j s O H _ _ v k Q I l m ⟨_,t,w,rfl,rfl,r,by rw[f.length];exact y,IV R i f.dropLast z q⟩
 ·cases e
noncomputable def Jc(m:Sl->M D):Sl->M Bool:=λB=>bnd (m B) λd=>bnd (Dp d) λa=>ret (!a.isEmpty)
theorem Pe(h:RE X e m)(f:∀a,isTrue e X.env a=(do let v ←a;standAt e.pos;holding [v] (truthy v)):=by intro _;rfl):RT X e (Jc m):=RT.wk (TH h.pe f) λO H Q q=>by
 obtain⟨Y,Z,B,b,A,R,S,e,q⟩:=q;obtain⟨x,l,n,g⟩:=AI e;obtain⟨j,C,o,i⟩:=AI g;cases i;refine⟨Y,Z,B,x,l,R,S,n,λr s t k E u=>?_⟩;obtain⟨w,p,c,rfl,d,y⟩:=D3 k u o;subst w;have z:=y.length;have f:c.isEmpty=j.isEmpty:=by
  cases c<;>cases j<;>first|rfl|(simp at z)
 refine⟨!c.isEmpty,?_,by rw[f];exact q r s t k⟩;rcases d with d|d
 ·exact .inl ⟨c,d,rfl⟩
 ·exact .inr (.inl ⟨c,d,rfl⟩)
end
end Mi
namespace K16
open PySem L2 Mi
noncomputable def d_NONE:D:=.int (-1)
noncomputable def BO:D:=.int (-1)
noncomputable def Eo:D:=.int (-2)
noncomputable def Co:D:=.int (-2)
noncomputable def BK  : Sl->M (Fl×Sl):=
  (AS (AY (mOp EA (AE Bp (AD (mOp AJ (AA 0) (mC (.int 4))) AK)) (mC (.int 1))) (AO 1))
  (AS (sIf (AN (mOp Af (mOp AJ (AA 0) (mC (.int 0))) (mC (.str "whole")))) (As (AE BE (AD (AE BE (AD (mOp AJ (AA 0) (mC (.int 2))) (AD (mC d_NONE) (AD (mOp E9 (AE BE (AD (mC d_NONE) AK)) (AA 1)) AK)))) AK))) A6)
  (As (AE BE (AD (mOp AJ (AA 0) (mC (.int 2))) (AD (mC d_NONE) (AD (mOp E9 (AE BE (AD (mC .non) AK)) (AA 1)) AK)))))))
noncomputable def A2(LT:List D->M D)(a:List D->M D)(b:List D->M D):Sl->M (Fl×Sl):=
  (AS (sIf (AN (mOp Af (mOp AJ (AA 0) (mC (.int 0))) (mC (.str "whole")))) (As (AE a (AD (Bm 1 [2] (CM (AA 1)) (AO 0) DO (AE LT (AD (AA 0) (AD (mC (.int 0)) (AD (AA 1) AK)))) BU) AK))) A6)
  (AS (AY (Bm 1 [0,2] (CM (mOp AJ (AA 1) (mC (.int 2)))) (AO 0) DO (mIf (AN (mOp (CA false) (AA 0) (mC .non))) (AA 0) (AE b (AD (mOp AJ (AA 1) (mC (.int 0))) (AD (mOp AJ (AA 1) (mC (.int 1))) (AD (AA 0) (AD (AA 2) AK)))))) BU) (AO 3))
  (As (AE BE (AD (mOp AJ (AA 1) (mC (.int 0))) (AD (AA 2) (AD (AE HX (AD (AA 3) AK)) AK)))))))
noncomputable def Au(a:List D->M D)(b:List D->M D):Sl->M (Fl×Sl):=
  (AS (sIf (AN (mOp Af (mOp AJ (AA 0) (mC (.int 0))) (mC (.str "whole")))) (As (AE b (AD (AE a (AD (AA 1) (AD (mC (.int 0)) (AD (mC d_NONE) AK)))) AK))) A6)
  (As (AE BE (AD (mOp AJ (AA 1) (mC (.int 1))) (AD (mC d_NONE) (AD (mOp AJ (AA 1) (mC (.int 2))) AK))))))
noncomputable def A4(LT:List D->M D)(a:List D->M D)(b:List D->M D)(LE:List D->M D):Sl->M (Fl×Sl):=
  (AS (sIf (AN (mOp Af (mOp AJ (AA 0) (mC (.int 0))) (mC (.str "whole")))) (As (AE a (AD (Bm 1 [2] (CM (AA 1)) (AO 0) DO (AE LT (AD (AA 0) (AD (mOp Av (AA 1) (mC (.int 1))) (AD (mC d_NONE) AK)))) BU) AK))) A6)
  (AS (AY (AE BE (AD (mOp AJ (AA 1) (mC (.int 0))) AK)) (AO 3))
  (AS (sIf (AN (mOp DA (mOp AJ (AA 1) (mC (.int 1))) (mC d_NONE))) (AY (AE b (AD (mOp AJ (AA 0) (mC (.int 0))) (AD (mOp AJ (AA 0) (mC (.int 1))) (AD (AA 3) (AD (mOp AJ (AA 1) (mC (.int 1))) AK))))) (AO 3)) A6)
  (As (AE BE (AD (mOp AJ (AA 1) (mC (.int 0))) (AD (mOp AJ (AA 1) (mC (.int 1))) (AD (AE LE (AD (mOp AJ (AA 1) (mC (.int 2))) (AD (AA 2) (AD (AA 3) AK)))) AK))))))))
noncomputable def BM(a:List D->M D)(b:List D->M D)(LE:List D->M D):Sl->M (Fl×Sl):=
  (AS (sIf (AN (mOp Af (mOp AJ (AA 0) (mC (.int 0))) (mC (.str "whole")))) (AS (AY (AE a (AD (AA 1) (AD (mOp Av (AA 2) (mC (.int 1))) (AD (AA 3) AK)))) (AO 4))
  (As (mIf (Jc (AA 4)) (AE b (AD (AA 4) AK)) (mC .non)))) A6)
  (AS (sIf (AN (mOp (FA true) (AA 3) (mOp AJ (mOp AJ (AA 1) (mC (.int 2))) (AA 2)))) (As (mC .non)) A6)
  (As (AE BE (AD (mOp AJ (AA 1) (mC (.int 0))) (AD (mOp AJ (AA 1) (mC (.int 1))) (AD (AE LE (AD (mOp AJ (AA 1) (mC (.int 2))) (AD (AA 2) (AD (mC .non) AK)))) AK)))))))
noncomputable def BV  : Sl->M (Fl×Sl):=
  (As (mOp Av (mOp Av (DT (AA 0) Bv (CN (AA 1))) (AE BE (AD (AA 2) AK))) (DT (AA 0) (CN (mOp Av (AA 1) (mC (.int 1)))) Bv)))
noncomputable def Bo(LE:List D->M D):Sl->M (Fl×Sl):=
  (AS (sIf (AN (mOp Af (AA 1) (mC (.int 0)))) (As (AE BE (AD (mOp AJ (AA 0) (mC (.int 0))) (AD (AA 2) (AD (mOp AJ (AA 0) (mC (.int 2))) AK))))) A6)
  (As (AE BE (AD (mOp AJ (AA 0) (mC (.int 0))) (AD (mOp AJ (AA 0) (mC (.int 1))) (AD (AE LE (AD (mOp AJ (AA 0) (mC (.int 2))) (AD (mOp EA (AA 1) (mC (.int 1))) (AD (mC Co) AK)))) AK))))))
noncomputable def Bn(LE:List D->M D):Sl->M (Fl×Sl):=
  (AS (sIf (AN (mOp Af (AA 1) (mC (.int 0)))) (As (mIf (AN (mOp Af (mOp AJ (AA 0) (mC (.int 1))) (mC Eo))) (AE BE (AD (mOp AJ (AA 0) (mC (.int 0))) (AD (mC d_NONE) (AD (mOp AJ (AA 0) (mC (.int 2))) AK)))) (mC .non))) A6)
  (As (mIf (AN (mOp Af (mOp AJ (mOp AJ (AA 0) (mC (.int 2))) (mOp EA (AA 1) (mC (.int 1)))) (AA 2))) (AE BE (AD (mOp AJ (AA 0) (mC (.int 0))) (AD (mOp AJ (AA 0) (mC (.int 1))) (AD (AE LE (AD (mOp AJ (AA 0) (mC (.int 2))) (AD (mOp EA (AA 1) (mC (.int 1))) (AD (mC d_NONE) AK)))) AK)))) (mC .non))))
noncomputable def Bg(a:List D->M D):Sl->M (Fl×Sl):=
  (AS (AY (Bm 1 [1,2] (CM (AA 0)) (AO 0) DO (AE a (AD (AA 0) (AD (AA 1) (AD (AA 2) AK)))) BU) (AO 3))
  (As (Bm 1 [] (CM (AA 3)) (AO 0) (AN (mOp (CA true) (AA 0) (mC .non))) (AA 0) BU)))
noncomputable def Cj(a:List D->M D):Sl->M (Fl×Sl):=
  (AS (AY Pw (AO 1))
  (AS (D7 (CM (AA 0)) (AO 2) (Ed (AA 1) (AA 2) (mC .non)))
  (AS (AY (AE Oc (AD (AA 1) AK)) (AO 3))
  (AS (GX GG (Jc (AA 3)) (AS (AY (FC WH (AA 3)) (AO 2))
  (Pd 1000 (AE a (AD (AA 2) AK)) (Cq [4,5]) (sIf (AN (mOp (Rf true) (AA 5) (AA 1))) (AS (Ed (AA 1) (AA 5) (AE BE (AD (AA 4) (AD (AA 2) AK))))
  (Bt (BG DM (AA 3) (AD (AA 5) AK)))) A6))))
  (As (AA 1))))))
noncomputable def BW(LE:List D->M D):Sl->M (Fl×Sl):=
  (AS (AY (AE Dv AK) (AO 1))
  (AS (sIf (AN (mOp TD (mOp AJ (AA 0) (mC (.int 1))) (mC (.int 0)))) (Bt (BG DM (AA 1) (AD (AE BE (AD (mC (.int 0)) (AD (AE BE (AD (mOp AJ (AA 0) (mC (.int 1))) (AD (mC Eo) (AD (mOp AJ (AA 0) (mC (.int 2))) AK)))) AK))) AK))) A6)
  (AS (D7 (T2 (AD (mOp AJ (AA 0) (mC (.int 2))) AK)) (Cq [2,3]) (sIf (AN (mOp Af (AA 3) (mC Co))) (Bt (BG DM (AA 1) (AD (AE BE (AD (mOp Av (AA 2) (mC (.int 1))) (AD (AE BE (AD (mOp AJ (AA 0) (mC (.int 0))) (AD (mOp AJ (AA 0) (mC (.int 1))) (AD (AE LE (AD (mOp AJ (AA 0) (mC (.int 2))) (AD (AA 2) (AD (mOp AJ (AA 0) (mC (.int 0))) AK)))) AK)))) AK))) AK))) A6))
  (As (AA 1)))))
noncomputable def Bw  : Sl->M (Fl×Sl):=
  (As (DP (AE EF (AD (AA 0) (AD (mC (.ty "int")) AK))) (DP (NL (AE EF (AD (AA 0) (AD (mC (.ty "bool")) AK)))) (Fp HZ HZ (AA 1) (AA 0) (AA 2)))))
noncomputable def By  : Sl->M (Fl×Sl):=
  (As (DP (AE EF (AD (AA 0) (AD (mC (.ty "tuple")) AK))) (Fp HZ HZ (AA 1) (AE Bp (AD (AA 0) AK)) (AA 2))))
noncomputable def CC(a:List D->M D)(b:List D->M D)(c:List D->M D):Sl->M (Fl×Sl):=
  (AS (AY (AE a (AD (AA 0) AK)) (AO 2))
  (AS (D7 (CM (AE b (AD (AA 0) (AD (AA 1) AK)))) (AO 3) (AS (AY (AE c (AD (AA 0) (AD (AA 2) (AD (AA 3) AK)))) (AO 2))
  (sIf (AN (mOp (CA false) (AA 2) (mC .non))) (As (mC (.bl false))) A6)))
  (As (mC (.bl true)))))
noncomputable def Aj(a:List D->M D)(b:List D->M D)(c:List D->M D)(d:List D->M D):Sl->M (Fl×Sl):=
  (AS (AY (mOp Af (mOp AJ (AA 2) (mC (.int 0))) (mC (.str "begin"))) (AO 3))
  (AS (sIf (AN (mOp Af (mOp AJ (AA 2) (mC (.int 1))) (mC (.int 0)))) (As (mIf (AN (AA 3)) (AE a (AD (AA 0) (AD (AA 1) (AD (mOp AJ (AA 2) (mC (.int 2))) AK)))) (AE b (AD (AA 0) (AD (AA 1) AK))))) A6)
  (AS (AY (mOp EA (mOp AJ (AA 2) (mC (.int 1))) (mC (.int 1))) (AO 4))
  (As (mIf (AN (AA 3)) (AE c (AD (AA 0) (AD (AA 1) (AD (AA 4) AK)))) (AE d (AD (AA 0) (AD (AA 1) (AD (AA 4) (AD (mOp AJ (AA 2) (mC (.int 2))) AK))))))))))
noncomputable def CF(dR:List D->M D):Sl->M (Fl×Sl):=
  (AS (sIf (Dx (AN (AE EF (AD (AA 1) (AD (mC (.ty "list")) AK))))) D6 A6)
  (AS (AY (Bm 1 [] (CM (mOp AJ (AA 0) (mC (.int 4)))) (AO 0) DO (mOp AJ (AA 0) (mC (.int 0))) BU) (AO 2))
  (AS (AY Q6 (AO 3))
  (AS (AY (AE Dv AK) (AO 4))
  (AS (AY (mC (.int 0)) (AO 5))
  (AS (D7 (GP (AD (AA 1) AK)) (Cq [6,7]) (AS (sIf (Dx (AN (AE dR (AD (AA 7) (AD (AA 2) (AD (mOp AJ (AA 0) (mC (.int 1))) AK)))))) D6 A6)
  (AS (AY (BG LA (AA 2) (AD (mOp AJ (AA 7) (mC (.int 1))) AK)) (AO 8))
  (AS (sIf (AN (mOp Af (mOp Af (mOp AJ (AA 7) (mC (.int 0))) (mC (.str "begin"))) (mOp (Kc false) (AA 8) (AA 3)))) D6 A6)
  (AS (sIf (AN (mOp Af (mOp AJ (AA 7) (mC (.int 0))) (mC (.str "begin")))) (AS (EN (AA 3) (AA 8) (AA 5))
  (AY (mOp Lu (AA 5) (mC (.int 1))) (AO 5))) A6)
  (AS (Bt (BG DM (AA 4) (AD (AE BE (AD (mOp AJ (AA 7) (mC (.int 0))) (AD (AA 8) (AD (mIf (AN (mOp Af (AE Bp (AD (AA 7) AK)) (mC (.int 3)))) (mOp AJ (AA 7) (mC (.int 2))) (mC BO)) (AD (mOp Dr (AA 3) (AA 8)) AK))))) AK)))
  (sIf (AN (mOp Af (mOp AJ (AA 7) (mC (.int 0))) (mC (.str "end")))) (Bt (Kw (AA 3) (AA 8))) A6)))))))
  (As (AA 4))))))))
noncomputable def B0(dS:List D->M D)(ST:List D->M D):Sl->M (Fl×Sl):=
  (AS (sIf (mOr (Dx (AN (AE dS (AD (AA 0) (AD (mC (.int 2)) (AD (mC (.int 3)) AK)))))) (mOr (AN (mOp (FA true) (mOp AJ (AA 0) (mC (.int 0))) (AE BE (AD (mC (.str "begin")) (AD (mC (.str "end")) AK))))) (AN (mOp (FA true) (mOp AJ (AA 0) (mC (.int 1))) (AA 1))))) (As (mC (.bl false))) A6)
  (AS (sIf (AN (mOp Af (mOp Af (mOp AJ (AA 0) (mC (.int 0))) (mC (.str "begin"))) (mOp Af (mOp AJ (AA 0) (mC (.int 1))) (mOp AJ (AA 1) (mC (.int 0)))))) (As (DP (mOp Af (AE Bp (AD (AA 0) AK)) (mC (.int 3))) (AE ST (AD (mOp AJ (AA 0) (mC (.int 2))) (AD (mC (.int 0)) (AD (mOp EA (AA 2) (mC (.int 1))) AK)))))) A6)
  (As (mOp Af (AE Bp (AD (AA 0) AK)) (mC (.int 2))))))
noncomputable def Ao:List D->M D:=Az .drop 2 1 (BK)
noncomputable def BX:List D->M D:=Az .drop 3 3 (By)
noncomputable def Aw:List D->M D:=Az .drop 3 3 (Bw)
noncomputable def BN:List D->M D:=Az .drop 3 3 (B0 BX Aw)
noncomputable def Ai:List D->M D:=Az .frz 9 2 (CF BN)
noncomputable def Ad:List D->M D:=Az .drop 3 3 (BV)
noncomputable def Ar:List D->M D:=Az .drop 3 3 (Bo Ad)
noncomputable def A3:List D->M D:=Az .all 4 1 (BW Ad)
noncomputable def Bb:List D->M D:=Az .all 6 1 (Cj A3)
noncomputable def An:List D->M D:=Az .drop 3 3 (Bn Ad)
noncomputable def BA:List D->M D:=Az .drop 4 3 (Bg An)
end K16
namespace Tm
open PySem PySem.W PyProof.Rows
noncomputable def gal:Bool->Keyed->Array Keyed->Nat->Nat->Nat->StateT SortSt Sem (Option Nat):=sortPriv% PySem.Builtin.gallop
structure Cp(prog:Program)(w:World)(A:Around)(E:Value->Shared->Prop)(s:Shared)(kd:SortKind)(R:Keyed->Keyed->Bool)(S:Keyed->Prop):Prop where
 lt:∀{st:SortSt} {x y:Keyed} {Q:Option Bool->SortSt->Prop},kindOf st=kd->S x->S y->Q (some (R x y)) st->wpS (model prog w) A E s (lt' x y) Q st
 tot:∀{x y:Keyed},S x->S y->x≠y->R x y=false->R y x=true
 tr:∀{x y z:Keyed},R x y=true->R y z=true->R x z=true
 irr:∀x:Keyed,R x x=false
section
variable{prog:Program}{w:World}{A:Around}{E:Value->Shared->Prop}{s:Shared}{kd:SortKind}{R:Keyed->Keyed->Bool}{S:Keyed->Prop}{st:SortSt}
theorem Cp.asy(C:Cp prog w A E s kd R S)(h:R x y=true):R y x=false:=by
 cases e:R y x with
 |false=>rfl
 |true=>have:=C.tr h e;rw[C.irr] at this;grind
theorem el(h:a[i]?=some x)(q:Q x st):wpS (model prog w) A E s (elem' a i) Q st:=by
 rw[elem'_eq,h];exact wpS_pure q
theorem byd(C:Cp prog w A E s kd R S)(f:kindOf st=kd)(h:b[j]?=some x)(c:S x)(d:S key)(g:x≠key)(q:Q (some (R x key)) st):
  wpS (model prog w) A E s (elem' b j >>= λx=>if a=true then lt' x key else lt' key x >>= λr=>pure (r.map λx=>!x)) Q st:=by
 refine wpS_bind (el h ?_);cases a with
 |true=>exact C.lt f c d q
 |false=>
  refine wpS_bind (C.lt f d c (wpS_pure ?_));have:(some (R key x)).map (λx=>!x)=some (R x key):=by
   cases e:R key x with
   |true=>rw[C.asy e];rfl
   |false=>rw[C.tot d c (Ne.symm g) e];rfl
  rw[this];exact q
theorem Zd(C:Cp prog w A E s kd R S)(Z:kindOf st=kd){F:Bool}{key:Keyed}{H:Array Keyed}{P:Nat->Bool}{Q:Option Nat->SortSt->Prop}(hP:∀i,i<n->∃x,H[G+i]?=some x/\S x/\x≠key/\R x key=P i)(sk:S key)(mo:∀i j,i<=j->j<n->P j=true->P i=true)(hh:a<n)
  (q:∀k,k<=n->(∀i,i<n->(P i=true↔i<k))->Q (some k) st):wpS (model prog w) A E s (gal F key H G n a) Q st:=by
 have D:∀{i:Nat} {Q:Option Bool->SortSt->Prop},i<n->Q (some (P i)) st->wpS (model prog w) A E s (elem' H (G+i) >>= λx=>if F=true then lt' x key else lt' key x >>= λr=>pure (r.map λx=>!x)) Q st:=λ{i Q} f z=>by
  obtain⟨x,e,sx,ne,r⟩:=hP i f;exact byd C Z e sx sk ne (by rw[r];exact z)
 have U:∀i j,i<=j->j<n->P i=false->P j=false:=λi j m M g=>by
  cases e:P j with
  |false=>rfl
  |true=>rw[mo i j m M e] at g;cases g
 refine wpS_bind (D hh ?_);cases Y:P a with
 |true=>
  dsimp only;rw[if_pos rfl];refine wpS_bind (wpS_mono (wpS_forRange (I:=λi c d=>d=st/\∃l o:Nat,c=(none,l,o)/\l<o/\i<o/\l<n-a/\P (a+l)=true) (Q:=λc d=>d=st/\∃l o:Nat,c=(none,l,o)/\l<o/\l<n-a/\P (a+l)=true/\(n-a<=o∨P (a+o)=false)) ?_ ?_ ⟨rfl,0,1,rfl,by lia,by lia,by lia,Y⟩) ?_)
  ·rintro i c d _ f ⟨rfl,l,o,rfl,m,M,g,p⟩;dsimp only;by_cases t:o ≥ n-a
   ·rw[if_pos t];exact wpS_pure ⟨rfl,l,o,rfl,m,g,p,.inl t⟩
   ·rw[if_neg t];refine wpS_bind (D (by lia) ?_);cases e:P (a+o) with
    |true=>exact wpS_pure ⟨rfl,o,2 * o+1,rfl,by lia,by lia,by lia,e⟩
    |false=>exact wpS_pure ⟨rfl,l,o,rfl,m,g,p,.inr e⟩
  ·rintro c d ⟨rfl,l,o,rfl,m,M,g,p⟩;exact⟨rfl,l,o,rfl,m,g,p,.inl (by lia)⟩
  ·rintro c d ⟨rfl,l,o,rfl,m,g,p,V⟩;dsimp only;have N:∀i,i<a+l+1->P i=true:=λi f=>mo i (a+l) (by lia) (by lia) p;have O:∀i,a+min o (n-a)<=i->i<n->P i=false:=λi f J=>by
    rcases V with z|z
    ·lia
    ·exact U (a+o) i (by lia) J z
   have L:a+l+1<=a+min o (n-a):=by lia
   have T:a+min o (n-a)<=n:=by lia
   generalize a+l+1=lo at N L;generalize a+min o (n-a)=f at O L T;refine wpS_bind (wpS_mono (wpS_forRange (I:=λi c b=>b=d/\∃l h:Nat,c=(none,l,h)/\l<=h/\h<=n/\h-l<=n-i/\(∀i,i<l->P i=true)/\∀i,h<=i->i<n->P i=false) (Q:=λc b=>b=d/\∃h:Nat,c=(none,h,h)/\h<=n/\(∀i,i<h->P i=true)/\∀i,h<=i->i<n->P i=false) ?_ ?_ ⟨rfl,lo,f,rfl,L,T,by lia,N,O⟩) ?_)
   ·rintro i c b _ f ⟨rfl,l,h,rfl,W,u,X,v,B⟩;dsimp only;by_cases t:l ≥ h
    ·rw[if_pos t];have:l=h:=by lia
     subst this;exact wpS_pure ⟨rfl,l,rfl,u,v,B⟩
    ·rw[if_neg t];refine wpS_bind (D (i:=l+(h-l) / 2) (by lia) ?_);cases e:P (l+(h-l) / 2) with
     |true=>exact wpS_pure ⟨rfl,_,h,rfl,by lia,u,by lia,λi f=>mo i _ (by lia) (by lia) e,B⟩
     |false=>exact wpS_pure ⟨rfl,l,_,rfl,by lia,by lia,by lia,v,λi f J=>U _ i f J e⟩
   ·rintro c b ⟨rfl,l,h,rfl,W,u,X,v,B⟩;have:l=h:=by lia
    subst this;exact⟨rfl,l,rfl,u,v,B⟩
   ·rintro c b ⟨rfl,h,rfl,u,v,B⟩;exact wpS_pure (q h u λi f=>⟨λz=>Nat.lt_of_not_le λy=>(by rw[B i y f] at z;cases z),v i⟩)
 |false=>
  dsimp only;rw[if_neg (by decide)];refine wpS_bind (wpS_mono (wpS_forRange (I:=λi c d=>d=st/\∃l o:Nat,c=(none,l,o)/\l<o/\i<o/\l<=a/\P (a-l)=false) (Q:=λc d=>d=st/\∃l o:Nat,c=(none,l,o)/\l<o/\l<=a/\P (a-l)=false/\(a+1<=o∨P (a-o)=true)) ?_ ?_ ⟨rfl,0,1,rfl,by lia,by lia,by lia,Y⟩) ?_)
  ·rintro i c d _ f ⟨rfl,l,o,rfl,m,M,g,p⟩;dsimp only;by_cases t:o ≥ a+1
   ·rw[if_pos t];exact wpS_pure ⟨rfl,l,o,rfl,m,g,p,.inl t⟩
   ·rw[if_neg t];refine wpS_bind (D (by lia) ?_);cases e:P (a-o) with
    |true=>exact wpS_pure ⟨rfl,l,o,rfl,m,g,p,.inr e⟩
    |false=>exact wpS_pure ⟨rfl,o,2 * o+1,rfl,by lia,by lia,by lia,e⟩
  ·rintro c d ⟨rfl,l,o,rfl,m,M,g,p⟩;exact⟨rfl,l,o,rfl,m,g,p,.inl (by lia)⟩
  ·rintro c d ⟨rfl,l,o,rfl,m,g,p,V⟩;dsimp only;have N:∀i,i<a+1-min o (a+1)->P i=true:=λi f=>by
    rcases V with z|z
    ·lia
    ·exact mo i (a-o) (by lia) (by lia) z
   have O:∀i,a-l<=i->i<n->P i=false:=λi f J=>U (a-l) i f J p;have L:a+1-min o (a+1)<=a-l:=by lia
   have T:a-l<=n:=by lia
   generalize a+1-min o (a+1)=lo at N L;generalize a-l=f at O L T;refine wpS_bind (wpS_mono (wpS_forRange (I:=λi c b=>b=d/\∃l h:Nat,c=(none,l,h)/\l<=h/\h<=n/\h-l<=n-i/\(∀i,i<l->P i=true)/\∀i,h<=i->i<n->P i=false) (Q:=λc b=>b=d/\∃h:Nat,c=(none,h,h)/\h<=n/\(∀i,i<h->P i=true)/\∀i,h<=i->i<n->P i=false) ?_ ?_ ⟨rfl,lo,f,rfl,L,T,by lia,N,O⟩) ?_)
   ·rintro i c b _ f ⟨rfl,l,h,rfl,W,u,X,v,B⟩;dsimp only;by_cases t:l ≥ h
    ·rw[if_pos t];have:l=h:=by lia
     subst this;exact wpS_pure ⟨rfl,l,rfl,u,v,B⟩
    ·rw[if_neg t];refine wpS_bind (D (i:=l+(h-l) / 2) (by lia) ?_);cases e:P (l+(h-l) / 2) with
     |true=>exact wpS_pure ⟨rfl,_,h,rfl,by lia,u,by lia,λi f=>mo i _ (by lia) (by lia) e,B⟩
     |false=>exact wpS_pure ⟨rfl,l,_,rfl,by lia,by lia,by lia,v,λi f J=>U _ i f J e⟩
   ·rintro c b ⟨rfl,l,h,rfl,W,u,X,v,B⟩;have:l=h:=by lia
    subst this;exact⟨rfl,l,rfl,u,v,B⟩
   ·rintro c b ⟨rfl,h,rfl,u,v,B⟩;exact wpS_pure (q h u λi f=>⟨λz=>Nat.lt_of_not_le λy=>(by rw[B i y f] at z;cases z),v i⟩)
end
section
variable{α:Type}{R:α->α->Prop}{T o x y z:List α}
structure J(R:α->α->Prop)(T o x y:List α):Prop where
 po:o.Pairwise R
 px:x.Pairwise R
 py:y.Pairwise R
 ox:∀u∈o,∀v∈x,R u v
 oy:∀u∈o,∀v∈y,R u v
 pm:(o++x++y).Perm T
theorem J.swap(h:J R T o x y):J R T o y x:=⟨h.po,h.py,h.px,h.oy,h.ox,by rw[AAk];exact(List.Perm.append_left o List.perm_append_comm).trans (by rw[←AAk];exact h.pm)⟩
theorem J.len(h:J R T o x y):o.length+x.length+y.length=T.length:=by
 have:=h.pm.length_eq;rw[AAG,AAG] at this;exact this
theorem J.take(h:J R T o x y)(k:Nat)(c:∀u∈x.take k,∀v∈y,R u v):J R T (o++x.take k) (x.drop k) y:=by
 have e  := List.take_append_drop k x;have d:=h.px;rw[←e] at d;obtain⟨f,g,i⟩:=List.pairwise_append.mp d;refine⟨List.pairwise_append.mpr ⟨h.po,f,λu b v a=>h.ox u b v (List.mem_of_mem_take a)⟩,g,h.py,λu b v a=>?_,λu b v a=>?_,?_⟩
 ·rcases AAJ.mp b with z|z
  ·exact h.ox u z v (List.mem_of_mem_drop a)
  ·exact i u z v a
 ·rcases AAJ.mp b with z|z
  ·exact h.oy u z v a
  ·exact c u z v a
 ·rw[AAk o,e];exact h.pm
theorem J.one(e:∀{p q r:α},R p q->R q r->R p r)(h:J R T o (a::x) (b::y))(c:R a b):J R T (o++[a]) x (b::y):=by
 refine h.take 1 λu f v d=>?_;rw[AAK.mp f];rcases AAI.mp d with rfl|d
 ·exact c
 ·exact e c ((AAw.mp h.py).1 v d)
theorem J.end_(h:J R T o x y)(c:∀u∈x,∀v∈y,R u v):(o++x++y).Pairwise R/\(o++x++y).Perm T:=by
 refine⟨List.pairwise_append.mpr ⟨List.pairwise_append.mpr ⟨h.po,h.px,h.ox⟩,h.py,λu b v a=>?_⟩,h.pm⟩;rcases AAJ.mp b with z|z
 ·exact h.oy u z v a
 ·exact c u z v a
end
def Same(st a:SortSt):Prop:=kindOf a=kindOf st/\arrOf a=arrOf st/\pendingOf a=pendingOf st/\failedOf a=failedOf st
theorem Same.rfl{st:SortSt}:Same st st:=⟨Eq.refl _,Eq.refl _,Eq.refl _,Eq.refl _⟩
theorem Same.trans(h:Same a b)(g:Same b c):Same a c:=⟨g.1.trans h.1,g.2.1.trans h.2.1,g.2.2.1.trans h.2.2.1,g.2.2.2.trans h.2.2.2⟩
theorem Hl(a:Array Keyed)(i k:Nat):(a.extract i (i+k)).toList=(a.toList.drop i).take k:=by simp
theorem GB(a:Array Keyed)(i:Nat):(a.extract i).toList=a.toList.drop i:=by
 rw[Array.toList_extract];exact List.take_of_length_le (by simp)
theorem EQ{a:Array Keyed}(h:i<a.size):∃x,a[i]?=some x/\a.toList.drop i=x::a.toList.drop (i+1):=⟨a[i],Array.getElem?_eq_getElem h,by rw[List.drop_eq_getElem_cons h,Array.getElem_toList]⟩
noncomputable def mlo:Array Keyed->Array Keyed->StateT SortSt Sem (Array Keyed):=sortPriv% PySem.Builtin.mergeLo
section
variable{prog:Program}{w:World}{A:Around}{E:Value->Shared->Prop}{s:Shared}{kd:SortKind}{R:Keyed->Keyed->Bool}{S:Keyed->Prop}{st:SortSt}
abbrev Lt(R:Keyed->Keyed->Bool)(x y:Keyed):Prop:=R x y=true
theorem DF{a:Array Keyed}(h:x∈a.toList.drop i):x∈a.toList:=List.mem_of_mem_drop h
theorem SZ{l:List Keyed}(h:∀i,i<l.length->((∃x,l[i]?=some x/\R x key=true)↔i<k)):(∀u∈l.take k,R u key=true)/\∀u∈l.drop k,R u key=false:=by
 constructor
 ·intro u a;obtain⟨i,b,e⟩:=List.mem_iff_getElem.mp a
  grind
 ·intro u a;obtain⟨i,b,e⟩:=List.mem_iff_getElem.mp a;rw[List.getElem_drop] at e;rw[List.length_drop] at b;cases z:R u key with
  |false=>rfl
  |true=>
   have:=(h (k+i) (by grind)).mp ⟨u,by grind,z⟩
   grind
theorem Ek(C:Cp prog w A E s kd R S)(o:kindOf st=kd){f:Bool}{key:Keyed}(l:List Keyed)(F:(b.toList.drop a).take n=l)(T:l.length=n)(p:∀u∈l,S u/\u≠key)(t:S key)(G:l.Pairwise (Lt R))(H:g<n)
  (q:∀k,k<=n->(∀u∈l.take k,R u key=true)->(∀u∈l.drop k,R key u=true)->Q (some k) st):wpS (model prog w) A E s (gal f key b a n g) Q st:=by
 have c:∀i,i<n->∃x,b[a+i]?=some x/\l[i]?=some x/\x∈l:=λi m=>by
  have d:i<l.length:=by grind
  refine⟨l[i],?_,AAr d,List.getElem_mem d⟩;have e:l[i]?=b.toList[a+i]?:=by rw[←F,List.getElem?_take_of_lt m,List.getElem?_drop]
  simp_all
 refine Zd C o (P:=λi=>match l[i]? with|some x=>R x key|none=>false) (λi m=>?_) t (λi j I L v=>?_) H λk o m=>?_
 ·obtain⟨x,M,h,B⟩:=c i m;exact⟨x,M,(p x B).1,(p x B).2,by rw[h]⟩
 ·obtain⟨x,_,h,_⟩:=c i (by lia);obtain⟨y,_,r,_⟩:=c j L;rw[h];rw[r] at v;rcases Nat.lt_or_ge i j with z|z
  ·have:Lt R x y:=by
    have:=List.pairwise_iff_getElem.mp G i j (by lia) (by lia) z;rw[AAr (by lia)] at h r;cases h;cases r;exact this
   exact C.tr this v
  grind
 ·have:=SZ (R:=R) (l:=l) (key:=key) (k:=k) λi d=>by simp_all
  refine q k o this.1 λu D=>?_;obtain⟨N,O⟩:=p u (List.mem_of_mem_drop D);exact C.tot N t O (this.2 u D)
def FU(R:Keyed->Keyed->Bool)(T:List Keyed)(r:Array Keyed):Prop:=r.toList.Pairwise (Lt R)/\r.toList.Perm T
theorem iS {c : Prop} [Decidable c] {α : Type} {x y : StateT SortSt Sem α} {Q : α → SortSt → Prop} (hp : c → wpS (model prog w) A E s x Q st) (hn : ¬c → wpS (model prog w) A E s y Q st) : wpS (model prog w) A E s (if c then x else y) Q st := by
  split
  · exact hp ‹_›
  · exact hn ‹_›
theorem bSq {m n : Nat} {α : Type} {x y : StateT SortSt Sem α} {Q : α → SortSt → Prop} (hp : m = n → wpS (model prog w) A E s x Q st) (hn : ¬m = n → wpS (model prog w) A E s y Q st) : wpS (model prog w) A E s (if (m == n) = true then x else y) Q st := iS (fun h => hp (by simpa using h)) fun h => hn (by simpa using h)
theorem jS {α γ δ : Type} {x : StateT SortSt Sem α} {Q : α → SortSt → Prop} (I : γ → δ → Prop) (f : Unit → γ → δ → StateT SortSt Sem α) (hv : ∀ b c, I b c → wpS (model prog w) A E s (f () b c) Q st) (h : (∀ {b c}, I b c → wpS (model prog w) A E s (f () b c) Q st) → wpS (model prog w) A E s x Q st) : wpS (model prog w) A E s x Q st := h fun i => hv _ _ i
theorem kS {α γ : Type} {Q : α → SortSt → Prop} (f : Unit → γ → StateT SortSt Sem α) (hv : ∀ b, wpS (model prog w) A E s (f () b) Q st) {c : Prop} [Decidable c] {m n : γ} : wpS (model prog w) A E s (if c then f () m else f () n) Q st := iS (fun _ => hv _) fun _ => hv _
theorem ZJ(C:Cp prog w A E s kd R S)(hk:kindOf st=kd){a b:Array Keyed}(sa:∀u∈a.toList,S u)(sb:∀u∈b.toList,S u)(ne:∀u∈a.toList,∀v∈b.toList,u≠v)(pa:a.toList.Pairwise (Lt R))(pb:b.toList.Pairwise (Lt R))(b0:0<b.size)(a0:0<a.size)
  (first:∀x y,a[0]?=some x->b[0]?=some y->R y x=true) (last:∀x,a[a.size-1]?=some x->∀v∈b.toList,R v x=true)
  (q:∀r l,FU R (a.toList++b.toList) r->Same st l->Q r l):wpS (model prog w) A E s (mlo a b) Q st:=by
 have tr:∀ {p q r:Keyed},Lt R p q->Lt R q r->Lt R p r:=λh g=>C.tr h g
 have dn:∀ {o:Array Keyed} {ia ib:Nat},J (Lt R) (a.toList++b.toList) o.toList (a.toList.drop ia) (b.toList.drop ib)->ib=b.size->FU R (a.toList++b.toList) (o++a.extract ia++b.extract ib):=λ{o ia ib} j e=>by
  have:b.toList.drop ib=[]:=List.drop_eq_nil_of_le (by rw [Array.length_toList];lia)
  unfold FU
  rw [Array.toList_append,Array.toList_append,GB,GB]
  exact j.end_ λu hu v hv=>by rw [this] at hv;cases hv
 have la:∀ {o:Array Keyed} {ia ib:Nat},J (Lt R) (a.toList++b.toList) o.toList (a.toList.drop ia) (b.toList.drop ib)->ia + 1=a.size->FU R (a.toList++b.toList) (o++b.extract ib++a.extract ia):=λ{o ia ib} j e=>by
  obtain ⟨x,e1,e2⟩:=EQ (a:=a) (i:=ia) (by lia)
  have e3:a.toList.drop (ia + 1)=[]:=List.drop_eq_nil_of_le (by rw [Array.length_toList];lia)
  unfold FU
  rw [Array.toList_append,Array.toList_append,GB,GB]
  refine j.swap.end_ λu hu v hv=>?_
  rw [e2,e3] at hv
  rw [List.mem_singleton.mp hv]
  exact last x (by rw [show a.size - 1=ia by lia];exact e1) u (DF hu)
 have lens:∀ {o:Array Keyed} {ia ib:Nat},J (Lt R) (a.toList++b.toList) o.toList (a.toList.drop ia) (b.toList.drop ib)->ia<=a.size->ib<=b.size->o.size + (a.size - ia) + (b.size - ib)=a.size + b.size:=λ{o ia ib} j h1 h2=>by
  have:=j.len
  rw [List.length_drop,List.length_drop,List.length_append,Array.length_toList,Array.length_toList,Array.length_toList] at this
  exact this
 have pushB:∀ {o:Array Keyed} {ia ib:Nat} {x y:Keyed},J (Lt R) (a.toList++b.toList) o.toList (a.toList.drop ia) (b.toList.drop ib)->a.toList.drop ia=x :: a.toList.drop (ia + 1)->b.toList.drop ib=y :: b.toList.drop (ib + 1)->R y x=true->J (Lt R) (a.toList++b.toList) (o.push y).toList (a.toList.drop ia) (b.toList.drop (ib + 1)):=λ{o ia ib x y} j e1 e2 c=>by
  rw [Array.toList_push]
  have j':=j.swap
  rw [e1,e2] at j'
  rw [e1]
  exact (J.one (R:=Lt R) (a:=y) (b:=x) tr j' c).swap
 have pushA:∀ {o:Array Keyed} {ia ib:Nat} {x y:Keyed},J (Lt R) (a.toList++b.toList) o.toList (a.toList.drop ia) (b.toList.drop ib)->a.toList.drop ia=x :: a.toList.drop (ia + 1)->b.toList.drop ib=y :: b.toList.drop (ib + 1)->R x y=true->J (Lt R) (a.toList++b.toList) (o.push x).toList (a.toList.drop (ia + 1)) (b.toList.drop ib):=λ{o ia ib x y} j e1 e2 c=>by
  rw [Array.toList_push]
  rw [e1,e2] at j
  rw [e2]
  exact J.one (R:=Lt R) (a:=x) (b:=y) tr j c
 have J0:J (Lt R) (a.toList++b.toList) [] (a.toList.drop 0) (b.toList.drop 0):=⟨.nil,pa,pb, (λ_ h=>nomatch h), (λ_ h=>nomatch h),List.Perm.refl _⟩
 obtain ⟨x0,f1,f2⟩:=EQ a0
 obtain ⟨y0,g1,g2⟩:=EQ b0
 have J1 :=pushB (o:=#[]) J0 f2 g2 (first x0 y0 f1 g1)
 refine wpS_bind (wpS_lift (wpAny_rule ⟨rfl,?_⟩))
 refine wpS_bind (el g1 ?_)
 dsimp -zeta only
 by_cases h1:1=b.size
 ·rw [if_pos (by simpa using h1)]
  exact wpS_pure (q _ _ (dn J1 h1) .rfl)
 rw [if_neg (by simpa using h1)]
 by_cases h2:0 + 1=a.size
 ·rw [if_pos (by simpa using h2)]
  exact wpS_pure (q _ _ (la J1 h2) .rfl)
 rw [if_neg (by simpa using h2)]
 refine wpS_bind (wpS_get ?_)
 refine wpS_bind (wpS_mono (wpS_forRange (I:=λi c st'=>Same st st'/\∃ (o:Array Keyed) (ia ib g:Nat),c=(none,o,ia,ib,g)/\J (Lt R) (a.toList++b.toList) o.toList (a.toList.drop ia) (b.toList.drop ib)/\ia + 1 < a.size/\ib < b.size/\i + 1<=o.size) (Q:=λc st'=>Same st st'/\∃ r z,c=(some r,z)/\FU R (a.toList++b.toList) r) ?_ ?_ ⟨.rfl, #[y0],0,1,_,rfl,J1,by lia,by lia,Nat.le_refl _⟩) ?_)
 ·rintro i c st' _ hi ⟨sm,o,ia,ib,g,rfl,j,r1,r2,o1⟩
  dsimp -zeta only
  have hk':kindOf st'=kd:=sm.1.trans hk
  refine wpS_bind (wpS_mono (wpS_forRange (I:=λi' c st''=>st''=st'/\∃ (o':Array Keyed) (ia ib ac bc:Nat),c=(none,o',ia,ib,ac,bc)/\J (Lt R) (a.toList++b.toList) o'.toList (a.toList.drop ia) (b.toList.drop ib)/\ia + 1 < a.size/\ib < b.size/\o.size + i'<=o'.size) (Q:=λc st''=>st''=st'/\((∃ r z,c=(some r,z)/\FU R (a.toList++b.toList) r) ∨ ∃ (o':Array Keyed) (ia ib ac bc:Nat),c=(none,o',ia,ib,ac,bc)/\J (Lt R) (a.toList++b.toList) o'.toList (a.toList.drop ia) (b.toList.drop ib)/\ia + 1 < a.size/\ib < b.size/\o.size + 1<=o'.size)) ?_ ?_ ⟨rfl,o,ia,ib,0,0,rfl,j,r1,r2,Nat.le_refl _⟩) ?_)
  ·rintro i' c st'' _ hi' ⟨rfl,o',ia,ib,ac,bc,rfl,j,r1,r2,o2⟩
   dsimp -zeta only
   obtain ⟨x,e1,e2⟩:=EQ (a:=a) (i:=ia) (by lia)
   obtain ⟨y,e3,e4⟩:=EQ (a:=b) (i:=ib) r2
   have mx:x∈a.toList:=DF (i:=ia) (by rw [e2];exact List.mem_cons_self)
   have my:y∈b.toList:=DF (i:=ib) (by rw [e4];exact List.mem_cons_self)
   refine wpS_bind (el e3 (wpS_bind (el e1 (wpS_bind (C.lt hk' (sb y my) (sa x mx) ?_)))))
   cases c1:R y x with
   | true =>
    dsimp -zeta only
    rw [if_pos rfl]
    refine wpS_bind (el e3 ?_)
    have j2:=pushB j e2 e4 c1
    by_cases z:ib + 1=b.size
    ·rw [if_pos (by simpa using z)]
     exact wpS_pure ⟨rfl,.inl ⟨_,_,rfl,dn j2 z⟩⟩
    ·rw [if_neg (by simpa using z)]
     split
     ·exact wpS_pure ⟨rfl,.inr ⟨_,_,_,_,_,rfl,j2,r1,by lia,by rw [Array.size_push];lia⟩⟩
     ·exact wpS_pure ⟨rfl,_,_,_,_,_,rfl,j2,r1,by lia,by rw [Array.size_push];lia⟩
   | false =>
    dsimp -zeta only
    rw [if_neg (by decide)]
    refine wpS_bind (el e1 ?_)
    have j2:=pushA j e2 e4 (C.tot (sb y my) (sa x mx) (Ne.symm (ne x mx y my)) c1)
    by_cases z:ia + 1 + 1=a.size
    ·rw [if_pos (by simpa using z)]
     exact wpS_pure ⟨rfl,.inl ⟨_,_,rfl,la j2 z⟩⟩
    ·rw [if_neg (by simpa using z)]
     split
     ·exact wpS_pure ⟨rfl,.inr ⟨_,_,_,_,_,rfl,j2,by lia,r2,by rw [Array.size_push];lia⟩⟩
     ·exact wpS_pure ⟨rfl,_,_,_,_,_,rfl,j2,by lia,r2,by rw [Array.size_push];lia⟩
  ·rintro c st'' ⟨rfl,o',ia,ib,ac,bc,rfl,j,r1,r2,o2⟩
   have:=lens j (by lia) (by lia)
   lia
  ·rintro c st'' ⟨rfl,h | ⟨o',ia,ib,ac,bc,rfl,j,r1,r2,o2⟩⟩
   ·obtain ⟨r,z,rfl,gd⟩:=h
    dsimp -zeta only
    exact wpS_pure ⟨sm,r,_,rfl,gd⟩
   dsimp -zeta only
   refine wpS_bind (wpS_lift (wpAny_rule ⟨rfl,?_⟩))
   refine wpS_bind (wpS_mono (wpS_forRange (I:=λi' c st3=>Same st st3/\∃ (o3:Array Keyed) (ia ib g ac bc:Nat),c=(none,o3,ia,ib,g,ac,bc)/\J (Lt R) (a.toList++b.toList) o3.toList (a.toList.drop ia) (b.toList.drop ib)/\ia + 1 < a.size/\ib < b.size/\o'.size<=o3.size) (Q:=λc st3=>Same st st3/\((∃ r z,c=(some r,z)/\FU R (a.toList++b.toList) r) ∨ ∃ (o3:Array Keyed) (ia ib g ac bc:Nat),c=(none,o3,ia,ib,g,ac,bc)/\J (Lt R) (a.toList++b.toList) o3.toList (a.toList.drop ia) (b.toList.drop ib)/\ia + 1 < a.size/\ib < b.size/\o'.size<=o3.size)) ?_ ?_ ⟨sm,o',ia,ib,_,ac,bc,rfl,j,r1,r2,Nat.le_refl _⟩) ?_)
   ·rintro i' c st3 _ hi' ⟨sm3,o3,ia,ib,g,ac,bc,rfl,j,r1,r2,o4⟩
    dsimp -zeta only
    obtain ⟨y,e3,e4⟩:=EQ (a:=b) (i:=ib) r2
    have my:y∈b.toList:=DF (i:=ib) (by rw [e4];exact List.mem_cons_self)
    have sm4:∀ {g:Nat},Same st (SortSt.mk' (kindOf st3) (arrOf st3) (pendingOf st3) g (failedOf st3)):=λ{g}=>sm3.trans ⟨rfl,rfl,rfl,rfl⟩
    have py:=j.py
    rw [e4] at py
    extract_lets -underBinder s1 o8 s2 i8 s3 k8 s4 g8 s5 c8 d8 jp h8
    revert h8 jp
    dsimp -zeta only [s1,o8,s2,i8,s3,k8,s4,g8,s5,c8,d8]
    intro jp h8
    generalize hf:jp=f
    refine kS f λg=>?_
    subst hf
    refine wpS_bind (wpS_modify (wpS_bind (el e3 (wpS_bind (Ek C (sm4.1.trans hk) (a.toList.drop ia) (List.take_of_length_le (by rw [List.length_drop,Array.length_toList];lia)) (by rw [List.length_drop,Array.length_toList]) (λu hu=>⟨sa u (DF hu),ne u (DF hu) y my⟩) (sb y my) j.px (by lia) λk kn ku kv=>?_)))))
    clear h8 jp
    dsimp -zeta only
    extract_lets -underBinder c9 jp o9 i9
    generalize hf:jp=f
    refine jS (λo5 ia5=>J (Lt R) (a.toList++b.toList) o5.toList (a.toList.drop ia5) (b.toList.drop ib)/\(∀ u∈a.toList.drop ia5,R y u=true)/\ia5 + 1 < a.size/\o'.size<=o5.size) f (λo5 ia5 ⟨j2,kv',r5,os⟩=>?_) λhg=>?_
    ·subst hf
     obtain ⟨x,e1,e2⟩:=EQ (a:=a) (i:=ia5) (by lia)
     have mx:x∈a.toList:=DF (i:=ia5) (by rw [e2];exact List.mem_cons_self)
     have j3:=pushB j2 e2 e4 (kv' x (by rw [e2];exact List.mem_cons_self))
     refine wpS_bind (el e3 (bSq (λz3=>wpS_pure ⟨sm4,.inl ⟨_,_,rfl,dn j3 z3⟩⟩) λz3=>wpS_bind (el e1 (wpS_bind (Ek C (sm4.1.trans hk) (b.toList.drop (ib + 1)) (List.take_of_length_le (by rw [List.length_drop,Array.length_toList];lia)) (by rw [List.length_drop,Array.length_toList]) (λu hu=>⟨sb u (DF hu),Ne.symm (ne x mx u (DF hu))⟩) (sa x mx) j3.py (by lia) λk2 kn2 ku2 kv2=>?_)))))
     clear jp
     dsimp -zeta only
     extract_lets -underBinder c7 jp o7 i7
     generalize hf:jp=f
     have px:=j3.px
     rw [e2] at px
     refine jS (λo6 ib6=>J (Lt R) (a.toList++b.toList) o6.toList (a.toList.drop ia5) (b.toList.drop ib6)/\(∀ u∈b.toList.drop ib6,R x u=true)/\ib6 < b.size/\o'.size<=o6.size) f (λo6 ib6 ⟨j4,kv3,r6,os2⟩=>?_) λhg=>?_
     ·subst hf
      obtain ⟨y',e5,e6⟩:=EQ (a:=b) (i:=ib6) r6
      have j5:=pushA j4 e2 e6 (kv3 y' (by rw [e6];exact List.mem_cons_self))
      have os3:o'.size<=(o6.push x).size:=by rw [Array.size_push];lia
      exact wpS_bind (el e1 (bSq (λz5=>wpS_pure ⟨sm4,.inl ⟨_,_,rfl,la j5 z5⟩⟩) λz5=>iS (λ_=>wpS_pure ⟨sm4,.inr ⟨_,_,_,_,_,_,rfl,j5,by lia,r6,os3⟩⟩) λ_=>wpS_pure ⟨sm4,_,_,_,_,_,_,rfl,j5,by lia,r6,os3⟩))
     have kv3:∀ u∈b.toList.drop (ib + 1 + k2),R x u=true:=λu hu=>kv2 u (by rw [List.drop_drop];exact hu)
     refine iS (λk3=>?_) λk3=>hg ⟨j3,by rwa [show ib + 1 + k2=ib + 1 by lia] at kv3,by lia,by rw [Array.size_push];lia⟩
     have j4:J (Lt R) (a.toList++b.toList) (o5.push y++b.extract (ib + 1) (ib + 1 + k2)).toList (a.toList.drop ia5) (b.toList.drop (ib + 1 + k2)):=by
      have:=j3.swap.take k2 λu hu v hv=>by
       rw [e2] at hv
       rcases List.mem_cons.mp hv with rfl | hv
       ·exact ku2 u hu
       ·exact tr (ku2 u hu) ((List.pairwise_cons.mp px).1 v hv)
      rw [List.drop_drop] at this
      rw [Array.toList_append,Hl]
      exact this.swap
     exact bSq (λz4=>wpS_pure ⟨sm4,.inl ⟨_,_,rfl,dn j4 z4⟩⟩) λz4=>hg ⟨j4,kv3,by lia,by rw [Array.size_append,Array.size_push];lia⟩
    have kv':∀ u∈a.toList.drop (ia + k),R y u=true:=λu hu=>kv u (by rw [List.drop_drop];exact hu)
    refine iS (λk0=>?_) λk0=>hg ⟨j,by rwa [show ia + k=ia by lia] at kv',r1,o4⟩
    have j2:J (Lt R) (a.toList++b.toList) (o3++a.extract ia (ia + k)).toList (a.toList.drop (ia + k)) (b.toList.drop ib):=by
     have:=j.take k λu hu v hv=>by
      rw [e4] at hv
      rcases List.mem_cons.mp hv with rfl | hv
      ·exact ku u hu
      ·exact tr (ku u hu) ((List.pairwise_cons.mp py).1 v hv)
     rw [List.drop_drop] at this
     rw [Array.toList_append,Hl]
     exact this
    refine bSq (λz1=>wpS_pure ⟨sm4,.inl ⟨_,_,rfl,la j2 z1⟩⟩) λz1=>bSq (λz2=>wpS_pure ⟨sm4,.inl ⟨_,_,rfl,?_⟩⟩) λz2=>hg ⟨j2,kv',by lia,by rw [Array.size_append];lia⟩
    unfold FU
    rw [Array.toList_append,Array.toList_append,GB,GB]
    exact j2.end_ λu hu v hv=>by rw [List.drop_eq_nil_of_le (by rw [Array.length_toList];lia)] at hu;cases hu
   ·rintro c st3 ⟨sm3,h⟩
    exact ⟨sm3,.inr h⟩
   ·rintro c st3 ⟨sm3,h | ⟨o3,ia,ib,g,ac,bc,rfl,j,r1,r2,o4⟩⟩
    ·obtain ⟨r,z,rfl,gd⟩:=h
     dsimp -zeta only
     exact wpS_pure ⟨sm3,r,_,rfl,gd⟩
    dsimp -zeta only
    refine wpS_bind (wpS_modify (wpS_pure ?_))
    exact ⟨sm3.trans ⟨rfl,rfl,rfl,rfl⟩,o3,ia,ib,_,rfl,j,r1,r2,by lia⟩
 ·rintro c st' ⟨sm,o,ia,ib,g,rfl,j,r1,r2,o1⟩
  have:=lens j (by lia) (by lia)
  lia
 ·rintro c st' ⟨sm,r,z,rfl,gd⟩
  dsimp -zeta only
  exact wpS_pure (q _ _ gd sm)
end
noncomputable def mhi:Array Keyed->Array Keyed->StateT SortSt Sem (Array Keyed):=sortPriv% PySem.Builtin.mergeHi
abbrev Gt(R:Keyed->Keyed->Bool)(x y:Keyed):Prop:=R y x=true
noncomputable abbrev bk(a:Array Keyed)(n:Nat):List Keyed:=(a.toList.take n).reverse
theorem IP(c:1<=n)(h:n<=a.size):∃x,a[n-1]?=some x/\bk a n=x::bk a (n-1):=by
 obtain⟨m,rfl⟩:∃m,n=m+1:=⟨n-1,by lia⟩;have b:m<a.toList.length:=by grind
 refine⟨a[m],by grind,?_⟩;unfold bk;rw[List.take_succ_eq_append_getElem b,List.reverse_append];rfl
theorem KA(h:x∈bk a n):x∈a.toList:=List.mem_of_mem_take (List.mem_reverse.mp h)
theorem U0(h:n<=a.size):(bk a n).length=n:=by grind
theorem MM(h:n<=a.size)(b:m<=n):(bk a n).take (n-m)=((a.toList.take n).drop m).reverse:=by
 rw[List.take_reverse,List.length_take,Array.length_toList,show min n a.size-(n-m)=m by lia]
theorem Qd(h:n<=a.size)(b:m<=n):(bk a n).drop (n-m)=bk a m:=by
 rw[List.drop_reverse,List.length_take,Array.length_toList,show min n a.size-(n-m)=m by lia,List.take_take,Nat.min_eq_left b]
theorem Io(h:n<=a.size)(b:m<=n):(a.extract m n).reverse.toList=(bk a n).take (n-m):=by
 rw[MM h b,Array.toList_reverse,Array.toList_extract];rw[List.drop_take]
section
variable{prog:Program}{w:World}{A:Around}{E:Value->Shared->Prop}{s:Shared}{kd:SortKind}{R:Keyed->Keyed->Bool}{S:Keyed->Prop}{st:SortSt}
theorem Jm{T:List Keyed}{z:List Keyed}(e:r.toList=z.reverse)(h:z.Pairwise (Gt R)/\z.Perm T):FU R T r:=by
 unfold FU;rw[e];exact⟨List.pairwise_reverse.mpr h.1,(List.reverse_perm z).trans h.2⟩
theorem ZL(C:Cp prog w A E s kd R S)(hk:kindOf st=kd){a b:Array Keyed}{Q:Array Keyed->SortSt->Prop}(sa:∀u∈a.toList,S u)(sb:∀u∈b.toList,S u)(ne:∀u∈a.toList,∀v∈b.toList,u≠v)(pa:a.toList.Pairwise (Lt R))(pb:b.toList.Pairwise (Lt R))(b0:0<b.size)(a0:0<a.size)
  (first:∀y,b[0]?=some y->∀u∈a.toList,R y u=true) (last:∀x y,a[a.size-1]?=some x->b[b.size-1]?=some y->R y x=true)
  (q:∀r m,FU R (a.toList++b.toList) r->Same st m->Q r m):wpS (model prog w) A E s (mhi a b) Q st:=by
 have tr:∀ {p q r:Keyed},Gt R p q->Gt R q r->Gt R p r:=λh g=>C.tr g h
 have dn:∀ {o:Array Keyed} {na nb:Nat},J (Gt R) (a.toList++b.toList) o.toList (bk a na) (bk b nb)->na=0->FU R (a.toList++b.toList) (a.extract 0 na++b.extract 0 nb++o.reverse):=λ{o na nb} j e=>by
  subst e
  refine Jm (z:=o.toList++bk b nb++bk a 0) ?_ (j.swap.end_ λu hu v hv=>nomatch hv)
  rw [Array.toList_append,Array.toList_append,Array.toList_reverse,Array.toList_extract,Array.toList_extract]
  show (a.toList.drop 0).take (0 - 0)++(b.toList.drop 0).take (nb - 0)++_=_
  simp [bk]
 have fb:∀ {o:Array Keyed} {na nb:Nat},J (Gt R) (a.toList++b.toList) o.toList (bk a na) (bk b nb)->nb=1->FU R (a.toList++b.toList) (b.extract 0 nb++a.extract 0 na++o.reverse):=λ{o na nb} j e=>by
  subst e
  obtain ⟨y,e1,e2⟩:=IP (a:=b) (n:=1) (Nat.le_refl _) b0
  refine Jm (z:=o.toList++bk a na++bk b 1) ?_ (j.end_ λu hu v hv=>?_)
  ·rw [Array.toList_append,Array.toList_append,Array.toList_reverse,Array.toList_extract,Array.toList_extract]
   show (b.toList.drop 0).take (1 - 0)++(a.toList.drop 0).take (na - 0)++_=_
   simp [bk]
  ·rw [e2] at hv
   rw [List.mem_singleton.mp hv]
   exact first y e1 u (KA hu)
 have lens:∀ {o:Array Keyed} {na nb:Nat},J (Gt R) (a.toList++b.toList) o.toList (bk a na) (bk b nb)->na<=a.size->nb<=b.size->o.size + na + nb=a.size + b.size:=λ{o na nb} j h1 h2=>by
  have:=j.len
  rw [U0 h1,U0 h2,List.length_append,Array.length_toList,Array.length_toList,Array.length_toList] at this
  exact this
 have pushA:∀ {o:Array Keyed} {na nb:Nat} {x y:Keyed},J (Gt R) (a.toList++b.toList) o.toList (bk a na) (bk b nb)->bk a na=x :: bk a (na - 1)->bk b nb=y :: bk b (nb - 1)->R y x=true->J (Gt R) (a.toList++b.toList) (o.push x).toList (bk a (na - 1)) (bk b nb):=λ{o na nb x y} j e1 e2 c=>by
  rw [Array.toList_push]
  rw [e1,e2] at j
  rw [e2]
  exact J.one (R:=Gt R) (a:=x) (b:=y) tr j c
 have pushB:∀ {o:Array Keyed} {na nb:Nat} {x y:Keyed},J (Gt R) (a.toList++b.toList) o.toList (bk a na) (bk b nb)->bk a na=x :: bk a (na - 1)->bk b nb=y :: bk b (nb - 1)->R x y=true->J (Gt R) (a.toList++b.toList) (o.push y).toList (bk a na) (bk b (nb - 1)):=λ{o na nb x y} j e1 e2 c=>by
  rw [Array.toList_push]
  have j':=j.swap
  rw [e1,e2] at j'
  rw [e1]
  exact (J.one (R:=Gt R) (a:=y) (b:=x) tr j' c).swap
 have J0:J (Gt R) (a.toList++b.toList) [] (bk a a.size) (bk b b.size):=by
  have e1:bk a a.size=a.toList.reverse:=by unfold bk;rw [List.take_of_length_le (by rw [Array.length_toList];exact Nat.le_refl _)]
  have e2:bk b b.size=b.toList.reverse:=by unfold bk;rw [List.take_of_length_le (by rw [Array.length_toList];exact Nat.le_refl _)]
  rw [e1,e2]
  exact ⟨.nil,List.pairwise_reverse.mpr pa,List.pairwise_reverse.mpr pb, (λ_ h=>nomatch h), (λ_ h=>nomatch h), (List.reverse_perm _).append (List.reverse_perm _)⟩
 obtain ⟨x0,f1,f2⟩:=IP a0 (Nat.le_refl _)
 obtain ⟨y0,g1,g2⟩:=IP b0 (Nat.le_refl _)
 have J1:J (Gt R) (a.toList++b.toList) (#[x0]:Array Keyed).toList (bk a (a.size - 1)) (bk b b.size):=pushA (o:=#[]) J0 f2 g2 (last x0 y0 f1 g1)
 refine wpS_bind (wpS_lift (wpAny_rule ⟨rfl,?_⟩))
 refine wpS_bind (el f1 ?_)
 dsimp -zeta only
 by_cases h1:a.size - 1=0
 ·rw [if_pos (by simpa using h1)]
  exact wpS_pure (q _ _ (dn J1 h1) .rfl)
 rw [if_neg (by simpa using h1)]
 by_cases h2:b.size=1
 ·rw [if_pos (by simpa using h2)]
  exact wpS_pure (q _ _ (fb J1 h2) .rfl)
 rw [if_neg (by simpa using h2)]
 refine wpS_bind (wpS_get ?_)
 refine wpS_bind (wpS_mono (wpS_forRange (I:=λi c st'=>Same st st'/\∃ (na nb:Nat) (o:Array Keyed) (g:Nat),c=(none,na,nb,o,g)/\J (Gt R) (a.toList++b.toList) o.toList (bk a na) (bk b nb)/\(1<=na/\na<=a.size)/\(2<=nb/\nb<=b.size)/\i + 1<=o.size) (Q:=λc st'=>Same st st'/\∃ r z,c=(some r,z)/\FU R (a.toList++b.toList) r) ?_ ?_ ⟨.rfl,_,_, #[x0],_,rfl,J1,⟨by lia,by lia⟩,⟨by lia,Nat.le_refl _⟩,Nat.le_refl _⟩) ?_)
 ·rintro i c st' _ hi ⟨sm,na,nb,o,g,rfl,j,r1,r2,o1⟩
  dsimp -zeta only
  have hk':kindOf st'=kd:=sm.1.trans hk
  refine wpS_bind (wpS_mono (wpS_forRange (I:=λi' c st''=>st''=st'/\∃ (na nb:Nat) (o':Array Keyed) (ac bc:Nat),c=(none,na,nb,o',ac,bc)/\J (Gt R) (a.toList++b.toList) o'.toList (bk a na) (bk b nb)/\(1<=na/\na<=a.size)/\(2<=nb/\nb<=b.size)/\o.size + i'<=o'.size) (Q:=λc st''=>st''=st'/\((∃ r z,c=(some r,z)/\FU R (a.toList++b.toList) r) ∨ ∃ (na nb:Nat) (o':Array Keyed) (ac bc:Nat),c=(none,na,nb,o',ac,bc)/\J (Gt R) (a.toList++b.toList) o'.toList (bk a na) (bk b nb)/\(1<=na/\na<=a.size)/\(2<=nb/\nb<=b.size)/\o.size + 1<=o'.size)) ?_ ?_ ⟨rfl,na,nb,o,0,0,rfl,j,r1,r2,Nat.le_refl _⟩) ?_)
  ·rintro i' c st'' _ hi' ⟨rfl,na,nb,o',ac,bc,rfl,j,r1,r2,o2⟩
   dsimp -zeta only
   obtain ⟨x,e1,e2⟩:=IP (a:=a) r1.1 r1.2
   obtain ⟨y,e3,e4⟩:=IP (a:=b) (n:=nb) (by lia) r2.2
   have mx:x∈a.toList:=KA (n:=na) (by rw [e2];exact List.mem_cons_self)
   have my:y∈b.toList:=KA (n:=nb) (by rw [e4];exact List.mem_cons_self)
   refine wpS_bind (el e3 (wpS_bind (el e1 (wpS_bind (C.lt hk' (sb y my) (sa x mx) ?_)))))
   cases c1:R y x with
   | true =>
    dsimp -zeta only
    rw [if_pos rfl]
    refine wpS_bind (el e1 ?_)
    have j2:=pushA j e2 e4 c1
    by_cases z:na - 1=0
    ·rw [if_pos (by simpa using z)]
     exact wpS_pure ⟨rfl,.inl ⟨_,_,rfl,dn j2 z⟩⟩
    ·rw [if_neg (by simpa using z)]
     split
     ·exact wpS_pure ⟨rfl,.inr ⟨_,_,_,_,_,rfl,j2,⟨by lia,by lia⟩,r2,by rw [Array.size_push];lia⟩⟩
     ·exact wpS_pure ⟨rfl,_,_,_,_,_,rfl,j2,⟨by lia,by lia⟩,r2,by rw [Array.size_push];lia⟩
   | false =>
    dsimp -zeta only
    rw [if_neg (by decide)]
    refine wpS_bind (el e3 ?_)
    have j2:=pushB j e2 e4 (C.tot (sb y my) (sa x mx) (Ne.symm (ne x mx y my)) c1)
    by_cases z:nb - 1=1
    ·rw [if_pos (by simpa using z)]
     exact wpS_pure ⟨rfl,.inl ⟨_,_,rfl,fb j2 z⟩⟩
    ·rw [if_neg (by simpa using z)]
     split
     ·exact wpS_pure ⟨rfl,.inr ⟨_,_,_,_,_,rfl,j2,r1,⟨by lia,by lia⟩,by rw [Array.size_push];lia⟩⟩
     ·exact wpS_pure ⟨rfl,_,_,_,_,_,rfl,j2,r1,⟨by lia,by lia⟩,by rw [Array.size_push];lia⟩
  ·rintro c st'' ⟨rfl,na,nb,o',ac,bc,rfl,j,r1,r2,o2⟩
   have:=lens j r1.2 r2.2
   lia
  ·rintro c st'' ⟨rfl,h | ⟨na,nb,o',ac,bc,rfl,j,r1,r2,o2⟩⟩
   ·obtain ⟨r,z,rfl,gd⟩:=h
    dsimp -zeta only
    exact wpS_pure ⟨sm,r,_,rfl,gd⟩
   dsimp -zeta only
   refine wpS_bind (wpS_lift (wpAny_rule ⟨rfl,?_⟩))
   refine wpS_bind (wpS_mono (wpS_forRange (I:=λi' c st3=>Same st st3/\∃ (na nb:Nat) (o3:Array Keyed) (g ac bc:Nat),c=(none,na,nb,o3,g,ac,bc)/\J (Gt R) (a.toList++b.toList) o3.toList (bk a na) (bk b nb)/\(1<=na/\na<=a.size)/\(2<=nb/\nb<=b.size)/\o'.size<=o3.size) (Q:=λc st3=>Same st st3/\((∃ r z,c=(some r,z)/\FU R (a.toList++b.toList) r) ∨ ∃ (na nb:Nat) (o3:Array Keyed) (g ac bc:Nat),c=(none,na,nb,o3,g,ac,bc)/\J (Gt R) (a.toList++b.toList) o3.toList (bk a na) (bk b nb)/\(1<=na/\na<=a.size)/\(2<=nb/\nb<=b.size)/\o'.size<=o3.size)) ?_ ?_ ⟨sm,na,nb,o',_,ac,bc,rfl,j,r1,r2,Nat.le_refl _⟩) ?_)
   ·rintro i' c st3 _ hi' ⟨sm3,na,nb,o3,g,ac,bc,rfl,j,r1,r2,o4⟩
    dsimp -zeta only
    obtain ⟨y,e3,e4⟩:=IP (a:=b) (n:=nb) (by lia) r2.2
    have my:y∈b.toList:=KA (n:=nb) (by rw [e4];exact List.mem_cons_self)
    have sm4:∀ {g:Nat},Same st (SortSt.mk' (kindOf st3) (arrOf st3) (pendingOf st3) g (failedOf st3)):=λ{g}=>sm3.trans ⟨rfl,rfl,rfl,rfl⟩
    have py:=j.py
    rw [e4] at py
    have tm:∀ {c:Array Keyed} {n:Nat},c.toList.Pairwise (Lt R)->(c.toList.take n).Pairwise (Lt R):=λh=>h.sublist (List.take_sublist _ _)
    extract_lets -underBinder s1 o8 s2 i8 s3 k8 s4 g8 s5 c8 d8 jp h8
    revert h8 jp
    dsimp -zeta only [s1,o8,s2,i8,s3,k8,s4,g8,s5,c8,d8]
    intro jp h8
    generalize hf:jp=f
    refine kS f λg=>?_
    subst hf
    refine wpS_bind (wpS_modify (wpS_bind (el e3 (wpS_bind (Ek C (sm4.1.trans hk) (a.toList.take na) (by rw [List.drop_zero]) (by rw [List.length_take,Array.length_toList];lia) (λu hu=>⟨sa u (List.mem_of_mem_take hu),ne u (List.mem_of_mem_take hu) y my⟩) (sb y my) (tm pa) (by lia) λk kn ku kv=>?_)))))
    clear h8 jp
    dsimp -zeta only
    extract_lets -underBinder k9 c9 jp o9 i9
    generalize hf:jp=f
    have ku':∀ u∈bk a k,R u y=true:=λu hu=>ku u (by rw [List.take_take,Nat.min_eq_left kn];exact List.mem_reverse.mp hu)
    refine jS (λna5 o5=>J (Gt R) (a.toList++b.toList) o5.toList (bk a na5) (bk b nb)/\(∀ u∈bk a na5,R u y=true)/\(1<=na5/\na5<=a.size)/\o'.size<=o5.size) f (λna5 o5 ⟨j2,ku',r5,os⟩=>?_) λhg=>?_
    ·subst hf
     obtain ⟨x,e1,e2⟩:=IP (a:=a) (n:=na5) r5.1 r5.2
     have mx:x∈a.toList:=KA (n:=na5) (by rw [e2];exact List.mem_cons_self)
     have j3:=pushB j2 e2 e4 (ku' x (by rw [e2];exact List.mem_cons_self))
     refine wpS_bind (el e3 (bSq (λz3=>wpS_pure ⟨sm4,.inl ⟨_,_,rfl,fb j3 z3⟩⟩) λz3=>wpS_bind (el e1 (wpS_bind (Ek C (sm4.1.trans hk) (b.toList.take (nb - 1)) (by rw [List.drop_zero]) (by rw [List.length_take,Array.length_toList];lia) (λu hu=>⟨sb u (List.mem_of_mem_take hu),Ne.symm (ne x mx u (List.mem_of_mem_take hu))⟩) (sa x mx) (tm pb) (by lia) λk2 kn2 ku2 kv2=>?_)))))
     clear jp
     dsimp -zeta only
     extract_lets -underBinder k7 c7 jp o7 i7
     generalize hf:jp=f
     have px:=j3.px
     rw [e2] at px
     have nb1:nb - 1<=b.size:=by lia
     have ku3:∀ u∈bk b k2,R u x=true:=λu hu=>ku2 u (by rw [List.take_take,Nat.min_eq_left kn2];exact List.mem_reverse.mp hu)
     refine jS (λnb6 o6=>J (Gt R) (a.toList++b.toList) o6.toList (bk a na5) (bk b nb6)/\(∀ u∈bk b nb6,R u x=true)/\(2<=nb6/\nb6<=b.size)/\o'.size<=o6.size) f (λnb6 o6 ⟨j4,ku3,r6,os2⟩=>?_) λhg=>?_
     ·subst hf
      obtain ⟨y',e5,e6⟩:=IP (a:=b) (n:=nb6) (by lia) r6.2
      have j5:=pushA j4 e2 e6 (ku3 y' (by rw [e6];exact List.mem_cons_self))
      have os3:o'.size<=(o6.push x).size:=by rw [Array.size_push];lia
      exact wpS_bind (el e1 (bSq (λz5=>wpS_pure ⟨sm4,.inl ⟨_,_,rfl,dn j5 z5⟩⟩) λz5=>iS (λ_=>wpS_pure ⟨sm4,.inr ⟨_,_,_,_,_,_,rfl,j5,⟨by lia,by lia⟩,r6,os3⟩⟩) λ_=>wpS_pure ⟨sm4,_,_,_,_,_,_,rfl,j5,⟨by lia,by lia⟩,r6,os3⟩))
     refine iS (λk3=>?_) λk3=>have:k2=nb - 1:=by lia
      hg ⟨j3,by rwa [this] at ku3,by lia,by rw [Array.size_push];lia⟩
     have j4:J (Gt R) (a.toList++b.toList) (o5.push y++(b.extract k2 (nb - 1)).reverse).toList (bk a na5) (bk b k2):=by
      have:=j3.swap.take (nb - 1 - k2) λu hu v hv=>by
       have hu:=kv2 u (by rw [MM nb1 kn2] at hu;exact List.mem_reverse.mp hu)
       rw [e2] at hv
       rcases List.mem_cons.mp hv with rfl | hv
       ·exact hu
       ·exact tr hu ((List.pairwise_cons.mp px).1 v hv)
      rw [Qd nb1 kn2] at this
      rw [Array.toList_append,Io nb1 kn2]
      exact this.swap
     refine bSq (λz4=>wpS_pure ⟨sm4,.inl ⟨_,_,rfl,fb j4 z4⟩⟩) λz4=>bSq (λz6=>wpS_pure ⟨sm4,.inl ⟨_,_,rfl,?_⟩⟩) λz6=>hg ⟨j4,ku3,by lia,by rw [Array.size_append,Array.size_push];lia⟩
     subst z6
     refine Jm (z:=(o5.push y++(b.extract 0 (nb - 1)).reverse).toList++bk b 0++bk a na5) ?_ (j4.swap.end_ λu hu v hv=>nomatch hu)
     rw [Array.toList_append,Array.toList_append,Array.toList_reverse,Array.toList_extract (xs:=a),Array.toList_extract (xs:=b) (start:=0) (stop:=0)]
     show (a.toList.drop 0).take (na5 - 0)++(b.toList.drop 0).take (0 - 0)++_=_
     simp [bk,o7]
    refine iS (λk0=>?_) λk0=>have:k=na:=by lia
     hg ⟨j,by rwa [this] at ku',r1,o4⟩
    have j2:J (Gt R) (a.toList++b.toList) (o3++(a.extract k na).reverse).toList (bk a k) (bk b nb):=by
     have:=j.take (na - k) λu hu v hv=>by
      have hu:=kv u (by rw [MM r1.2 kn] at hu;exact List.mem_reverse.mp hu)
      rw [e4] at hv
      rcases List.mem_cons.mp hv with rfl | hv
      ·exact hu
      ·exact tr hu ((List.pairwise_cons.mp py).1 v hv)
     rw [Qd r1.2 kn] at this
     rw [Array.toList_append,Io r1.2 kn]
     exact this
    exact bSq (λz1=>wpS_pure ⟨sm4,.inl ⟨_,_,rfl,dn j2 z1⟩⟩) λz1=>hg ⟨j2,ku',by lia,by rw [Array.size_append];lia⟩
   ·rintro c st3 ⟨sm3,h⟩
    exact ⟨sm3,.inr h⟩
   ·rintro c st3 ⟨sm3,h | ⟨na,nb,o3,g,ac,bc,rfl,j,r1,r2,o4⟩⟩
    ·obtain ⟨r,z,rfl,gd⟩:=h
     dsimp -zeta only
     exact wpS_pure ⟨sm3,r,_,rfl,gd⟩
    dsimp -zeta only
    refine wpS_bind (wpS_modify (wpS_pure ?_))
    exact ⟨sm3.trans ⟨rfl,rfl,rfl,rfl⟩,na,nb,o3,_,rfl,j,r1,r2,by lia⟩
 ·rintro c st' ⟨sm,na,nb,o,g,rfl,j,r1,r2,o1⟩
  have:=lens j r1.2 r2.2
  lia
 ·rintro c st' ⟨sm,r,z,rfl,gd⟩
  dsimp -zeta only
  exact wpS_pure (q _ _ gd sm)
end
theorem ai:∀(m b q r:List Keyed) (a:Array Keyed) (s j:Nat),m.length=b.length->a.toList=q++b++r->q.length=s+j->((m.zipIdx j).foldl (λa p=>a.setIfInBounds (s+p.2) p.1) a).toList=q++m++r
 |[],[],q,r,a,s,j,_,h,_=>h
 |[],_::_,_,_,_,_,_,h,_,_=>by cases h
 |_::_,[],_,_,_,_,_,h,_,_=>by cases h
 |x::m,u::b,q,r,a,s,j,h,e,c=>by
  rw[List.zipIdx_cons,List.foldl_cons];have d:=ai m b (q++[x]) r (a.setIfInBounds (s+j) x) s (j+1) (by simpa using h) (by simp_all) (by rw[AAG,c];rfl);rw[d];simp
section
variable{prog:Program}{w:World}{A:Around}{E:Value->Shared->Prop}{s:Shared}{kd:SortKind}{R:Keyed->Keyed->Bool}{S:Keyed->Prop}{st:SortSt}
theorem Vd(h:Q ⟨⟩ a):wpS (model prog w) A E s (set a:StateT SortSt Sem PUnit) Q st:=AAB ⟨rfl,h⟩
theorem Os{a:Array Keyed}{p x z:List Keyed}(h:a.toList=p++x++z)(e:x[i]?=some u):a[p.length+i]?=some u:=by
 have b:=(AAT.mp e).1;rw[←Array.getElem?_toList,h,AAk,AAR (by lia),Nat.add_sub_cancel_left,AAS b];exact e
theorem Uk{l p x z:List Keyed}(h:l=p++x++z):(l.drop p.length).take x.length=x:=by simp_all
theorem We(h:x≠[]):∃u,x[x.length-1]?=some u/\u∈x:=⟨x.getLast h,by rw[←List.getLast?_eq_getElem?,List.getLast?_eq_some_getLast h],by simp_all⟩
theorem P1{x:List Keyed}(b:x.Pairwise (Lt R))(e:x[x.length-1]?=some u)(h:v∈x):v=u∨R v u=true:=by
 obtain⟨i,a,rfl⟩:=List.mem_iff_getElem.mp h;rcases Nat.lt_or_ge i (x.length-1) with z|z
 ·right;have:=List.pairwise_iff_getElem.mp b i (x.length-1) a (by omega) z;rw[AAr (by omega)] at e;cases e;exact this
 ·left;have:i=x.length-1:=by omega
  subst this;rw[AAr a] at e;exact Option.some.inj e
theorem ZM(C:Cp prog w A E s kd R S)(G:kindOf st=kd)(hf:failedOf st=none){T p x y z:List Keyed}(sT:∀u∈T,S u)(nT:T.Nodup)(H:(arrOf st).toList=p++x++y++z)(hp:(arrOf st).toList.Perm T)(D:x.Pairwise (Lt R))(I:y.Pairwise (Lt R))(x0:x≠[])(y0:y≠[])
  (h1:(pendingOf st)[i]?=some (p.length,x.length,pw)) (h2:(pendingOf st)[i+1]?=some (p.length+x.length,y.length,pw'))
  (q:∀(l:SortSt) (m:List Keyed),kindOf l=kd->failedOf l=none->pendingOf l=((pendingOf st).setIfInBounds i (p.length,x.length+y.length,pw)).eraseIdxIfInBounds (i+1)->(arrOf l).toList=p++m++z->m.Pairwise (Lt R)->m.Perm (x++y)->Q true l):wpS (model prog w) A E s (mergeAt' i) Q st:=by
 have tr:∀{p q r:Keyed},Lt R p q->Lt R q r->Lt R p r:=λh g=>C.tr h g;have nd:(p++x++y++z).Nodup:=by rw[←H];exact hp.nodup_iff.mpr nT
 have sx:∀u∈x,S u:=λu f=>sT u (hp.mem_iff.mp (by rw[H];simp[f]));have sy:∀u∈y,S u:=λu f=>sT u (hp.mem_iff.mp (by rw[H];simp[f]));have ne:∀u∈x,∀v∈y,u≠v:=λu f v n=>by
  have:=(List.nodup_append.mp (List.nodup_append.mp nd).1).2.2;exact this u (AAZ _ f) v n
 have L:(arrOf st).toList=p++x++(y++z):=by rw[H];simp
 have M:(arrOf st).toList=(p++x)++y++z:=H;obtain⟨j,t,rfl⟩:∃j t,y=j::t:=by cases y with|nil=>exact absurd rfl y0|cons a b=>exact⟨a,b,rfl⟩
 obtain⟨py1,py2⟩:=AAw.mp I;have W:∀v∈j::t,v=j∨R j v=true:=λv n=>(AAI.mp n).imp id (py1 v);have ey:=Os (i:=0) (u:=j) M rfl;have lp:(p++x).length=p.length+x.length:=AAG;rw[Nat.add_zero,lp] at ey;obtain⟨xl,xe,xm⟩:=We x0;have ex:=Os (i:=x.length-1) L xe;have X:0<x.length:=List.length_pos_iff.mpr x0;have cx:=Uk L;have cy:=Uk M;rw[lp] at cy;refine wpS_bind (wpS_get ?_);rw[h1,h2];dsimp only;refine wpS_bind (Vd ?_);refine wpS_bind (el ey ?_);refine wpS_bind (Ek C (by exact G) x cx rfl (λu f=>⟨sx u f,ne u f j AAP⟩) (sy j AAP) D X λk kn ku kv=>?_);dsimp only;have F:(∀u∈x,∀v∈j::t,R u v=true)->∀l:SortSt,kindOf l=kd->failedOf l=none->pendingOf l=((pendingOf st).setIfInBounds i (p.length,x.length+(j::t).length,pw)).eraseIdxIfInBounds (i+1)->arrOf l=arrOf st->Q true l:=λc l a1 a2 a3 a4=>q l (x++j::t) a1 a2 a3 (by rw[a4,H];simp) (List.pairwise_append.mpr ⟨D,I,c⟩) (List.Perm.refl _);by_cases z1:x.length-k=0
 ·rw[if_pos (by simpa using z1)];refine wpS_pure (F (λu f v n=>?_) _ G hf rfl rfl);have:=ku u (by rw[List.take_of_length_le (by lia)];exact f);rcases W v n with rfl|h
  ·exact this
  ·exact tr this h
 rw[if_neg (by simpa using z1)];rw[show p.length+k+(x.length-k)-1=p.length+(x.length-1) by lia];refine wpS_bind (el ex ?_);refine wpS_bind (Ek C (by exact G) (j::t) cy rfl (λu f=>⟨sy u f,Ne.symm (ne xl xm u f)⟩) (sx xl xm) I (by rw[AAH];lia) λo kn2 ku2 N=>?_);dsimp only;by_cases z2:o=0
 ·rw[if_pos (by simpa using z2)];refine wpS_pure (F (λu f v n=>?_) _ G hf rfl rfl);have:=N v (by rw[z2];exact n);rcases P1 D xe f with rfl|h
  ·exact this
  ·exact tr h this
 rw[if_neg (by simpa using z2)];have O:((arrOf st).extract (p.length+k) (p.length+x.length)).toList=x.drop k:=by
  rw[show p.length+x.length=p.length+k+(x.length-k) by lia,Hl,←List.drop_drop,L,AAk,List.drop_left,List.drop_append_of_le_length kn];exact List.take_left' (by rw[List.length_drop])
 have P:((arrOf st).extract (p.length+x.length) (p.length+x.length+o)).toList=(j::t).take o:=by
  rw[Hl,M,AAk (p++x),←lp,List.drop_left,List.take_append_of_le_length kn2]
 have kv':∀u∈x.drop k,R j u=true:=kv;have fin:∀(r:Array Keyed) (d:SortSt),FU R (x.drop k++(j::t).take o) r->Same (SortSt.mk' (kindOf st) (arrOf st) (((pendingOf st).setIfInBounds i (p.length,x.length+(j::t).length,pw)).eraseIdxIfInBounds (i+1)) (gallopOf st) (failedOf st)) d->∀B:SortSt,kindOf B=kindOf d->failedOf B=failedOf d->pendingOf B=pendingOf d->arrOf B=(r.toList.zipIdx).foldl (λa p'=>a.setIfInBounds (p.length+k+p'.2) p'.1) (arrOf d)->Q true B:=λr d gd sm B b1 b2 b3 b4=>by
  have rl:r.toList.length=(x.drop k++(j::t).take o).length:=gd.2.length_eq;have hq:(p++x.take k).length=p.length+k+0:=by rw[AAG,List.length_take];lia
  have e0:(arrOf d).toList=(p++x.take k)++(x.drop k++(j::t).take o)++((j::t).drop o++z):=by
   rw[sm.2.1];show (arrOf st).toList=_;rw[H];have U:=List.take_append_drop k x;have V:=List.take_append_drop o (j::t)
   calc p++x++(j::t)++z=p++(x.take k++x.drop k)++((j::t).take o++(j::t).drop o)++z:=by rw[U,V]
    _=_:=by simp only[AAk]
  have e3:=ai r.toList _ _ _ (arrOf d) (p.length+k) 0 rl e0 hq;refine q B (x.take k++r.toList++(j::t).drop o) (b1.trans (sm.1.trans G)) (b2.trans (sm.2.2.2.trans hf)) (b3.trans sm.2.2.1) (by rw[b4,e3];simp only[AAk]) ?_ ?_
  ·have mr:∀{v},v∈r.toList->v∈x.drop k∨v∈(j::t).take o:=λn=>AAJ.mp (gd.2.mem_iff.mp n);have tk:∀u∈x.take k,∀v∈j::t,R u v=true:=λu f v n=>by
    rcases W v n with rfl|h
    ·exact ku u f
    ·exact tr (ku u f) h
   have xtd:∀u∈x.take k,∀v∈x.drop k,R u v=true:=by
    rw[←List.take_append_drop k x] at D;exact(List.pairwise_append.mp D).2.2
   have ytd  := by
    rw[←List.take_append_drop o (j::t)] at I;exact(List.pairwise_append.mp I).2.2
   refine List.pairwise_append.mpr ⟨List.pairwise_append.mpr ⟨D.sublist (List.take_sublist _ _),gd.1,λu f v n=>?_⟩,I.sublist (List.drop_sublist _ _),λu f v n=>?_⟩
   ·rcases mr n with h|h
    ·exact xtd u f v h
    ·exact tk u f v (List.mem_of_mem_take h)
   ·rcases AAJ.mp f with h|h
    ·exact tk u h v (List.mem_of_mem_drop n)
    ·rcases mr h with h|h
     ·rcases P1 D xe (List.mem_of_mem_drop h) with rfl|g
      ·exact N v n
      ·exact tr g (N v n)
     ·exact ytd u h v n
  ·have:=((gd.2.append_left (x.take k)).append_right ((j::t).drop o));refine this.trans ?_;rw[←AAk,List.take_append_drop,AAk,List.take_append_drop]
 have Y:∀u∈((arrOf st).extract (p.length+k) (p.length+x.length)).toList,S u:=λu f=>sx u (List.mem_of_mem_drop (by rw[O] at f;exact f));have Z:∀u∈((arrOf st).extract (p.length+x.length) (p.length+x.length+o)).toList,S u:=λu f=>sy u (List.mem_of_mem_take (by rw[P] at f;exact f));have ne':∀u∈((arrOf st).extract (p.length+k) (p.length+x.length)).toList,∀v∈((arrOf st).extract (p.length+x.length) (p.length+x.length+o)).toList,u≠v:=λu f v n=>ne u (List.mem_of_mem_drop (by rw[O] at f;exact f)) v (List.mem_of_mem_take (by rw[P] at n;exact n));have px':((arrOf st).extract (p.length+k) (p.length+x.length)).toList.Pairwise (Lt R):=by rw[O];exact D.sublist (List.drop_sublist _ _)
 have py':((arrOf st).extract (p.length+x.length) (p.length+x.length+o)).toList.Pairwise (Lt R):=by rw[P];exact I.sublist (List.take_sublist _ _)
 have lx:((arrOf st).extract (p.length+k) (p.length+x.length)).size=x.length-k:=by rw[←Array.length_toList,O,List.length_drop]
 have ly:((arrOf st).extract (p.length+x.length) (p.length+x.length+o)).size=o:=by rw[←Array.length_toList,P,List.length_take];lia
 have lx0:0<((arrOf st).extract (p.length+k) (p.length+x.length)).size:=by rw[lx];lia
 have ly0:0<((arrOf st).extract (p.length+x.length) (p.length+x.length+o)).size:=by rw[ly];lia
 have fy:∀v,((arrOf st).extract (p.length+x.length) (p.length+x.length+o))[0]?=some v->v=j:=λv e=>by
  rw[←Array.getElem?_toList,P,List.getElem?_take_of_lt (by lia)] at e;exact(Option.some.inj e).symm
 have lxe:∀u,((arrOf st).extract (p.length+k) (p.length+x.length))[((arrOf st).extract (p.length+k) (p.length+x.length)).size-1]?=some u->u=xl:=λu e=>by
  rw[←Array.getElem?_toList,O,lx,List.getElem?_drop,show k+(x.length-k-1)=x.length-1 by lia,xe] at e;exact(Option.some.inj e).symm
 have mx:∀{u},u∈((arrOf st).extract (p.length+k) (p.length+x.length)).toList->R j u=true:=λf=>kv' _ (by rw[O] at f;exact f);have my:∀{u},u∈((arrOf st).extract (p.length+x.length) (p.length+x.length+o)).toList->R u xl=true:=λf=>ku2 _ (by rw[P] at f;exact f);by_cases z3:x.length-k<=o
 case' pos=>
  rw[if_pos z3];refine wpS_bind (ZJ C (by exact G) Y Z ne' px' py' (by exact ly0) (by exact lx0) (λu v U V=>?_) (λu U v n=>?_) λr d gd sm=>?_)
  ·rw[fy v V];exact mx (Array.mem_toList_iff.mpr (Array.mem_of_getElem? U))
  ·rw[lxe u U];exact my n
 case' neg=>
  rw[if_neg z3];refine wpS_bind (ZL C (by exact G) Y Z ne' px' py' (by exact ly0) (by exact lx0) (λv V u f=>?_) (λu v U V=>?_) λr d gd sm=>?_)
  ·rw[fy v V];exact mx f
  ·rw[lxe u U];exact my (Array.mem_toList_iff.mpr (Array.mem_of_getElem? V))
 all_goals
  rw[O,P] at gd;refine wpS_bind (wpS_modify ?_);refine wpS_bind (wpS_get ?_);refine wpS_pure ?_;have fn:failedOf d=none:=sm.2.2.2.trans hf;show Q (failedOf d).isNone _;rw[fn];exact fin r d gd sm _ rfl rfl rfl rfl
end
def Kept(st a:SortSt):Prop:=kindOf a=kindOf st/\pendingOf a=pendingOf st/\failedOf a=failedOf st
theorem Kept.rfl{st:SortSt}:Kept st st:=⟨Eq.refl _,Eq.refl _,Eq.refl _⟩
theorem up1{T:Keyed->Keyed->Prop}(j:∀{p q r:Keyed},T p q->T q r->T p r){u:List Keyed}(h:(u.take n).Pairwise T)(ev:u[n]?=some v)(k:u[n-1]?=some w)(c:T w v):(u.take (n+1)).Pairwise T:=by
 rw[List.take_add_one,ev];refine List.pairwise_append.mpr ⟨h,List.pairwise_singleton _ _,λa d b f=>?_⟩;rw[AAK.mp f];obtain⟨i,g,e⟩:=List.mem_iff_getElem.mp d;have l:=(AAT.mp ev).1;rw[List.getElem_take] at e;rcases Nat.lt_or_ge i (n-1) with z|z
 ·have:=List.pairwise_iff_getElem.mp h i (n-1) g (by grind) z
  grind
 grind
theorem KZ{a:Array Keyed}{p u:List Keyed}(h:a.toList=p++u)(e:u[i]?=some v):a[p.length+i]?=some v:=Os (by rw[AAY];exact h) e
theorem mir(h:a.toList=p++u)(hn:n<=u.length):(mirror a p.length (p.length+n) ((p.length+n-p.length) / 2)).toList=p++((u.take n).reverse++u.drop n):=by
 have b:a.size=p.length+u.length:=by rw[←Array.length_toList,h,AAG]
 refine List.ext_getElem? λk=>?_;rw[Array.getElem?_toList,getElem?_mirror_all (by lia)];rcases Nat.lt_or_ge k p.length with z|z
 ·rw[if_neg (by lia),←Array.getElem?_toList,h,AAS z,AAS z]
 ·rw[AAR z];rcases Nat.lt_or_ge k (p.length+n) with y|y
  ·rw[if_pos ⟨z,y⟩,←Array.getElem?_toList,h,AAR (by lia),AAS (by rw[List.length_reverse,List.length_take];lia),List.getElem?_reverse (by rw[List.length_take];lia),List.length_take,List.getElem?_take_of_lt (by lia)]
   grind
  ·rw[if_neg (by lia),←Array.getElem?_toList,h,AAR z,AAR (by grind),List.length_reverse,List.length_take,List.getElem?_drop]
   grind
section
variable{prog:Program}{w:World}{A:Around}{E:Value->Shared->Prop}{s:Shared}{kd:SortKind}{R:Keyed->Keyed->Bool}{S:Keyed->Prop}{st:SortSt}
theorem lta(C:Cp prog w A E s kd R S)(a:kindOf st=kd)(b:(arrOf st)[i]?=some x)(c:(arrOf st)[j]?=some y)(d:S x)(e:S y)(q:Q (some (R x y)) st):wpS (model prog w) A E s (ltAt' i j) Q st:=wpS_bind (wpS_get (wpS_bind (el b (wpS_bind (el c (C.lt a d e q))))))
theorem Zp(C:Cp prog w A E s kd R S)(N:kindOf st=kd){p u:List Keyed}(G:(arrOf st).toList=p++u)(t:∀v∈u,S v)(O:u.Nodup)(u0:u≠[])
  (q:∀(d:SortSt) (n:Nat) (u':List Keyed),Kept st d->(arrOf d).toList=p++u'->1<=n->n<=u.length->u'.Perm u->(u'.take n).Pairwise (Lt R)->Q (some n) d):wpS (model prog w) A E s (countRun' p.length u.length) Q st:=by
 have tr:∀{p q r:Keyed},Lt R p q->Lt R q r->Lt R p r:=λh g=>C.tr h g;have up:0<u.length:=List.length_pos_iff.mpr u0;have m:∀{u:List Keyed} {i:Nat},i<u.length->∃v,u[i]?=some v/\v∈u:=λ{u i} L=>⟨u[i],AAr L,List.getElem_mem L⟩;have un:∀{u:List Keyed} {i j:Nat} {v w:Keyed},u.Nodup->u[i]?=some v->u[j]?=some w->i≠j->v≠w:=λ{u i j v w} O e f ne z=>by
  obtain⟨h1,e⟩:=AAT.mp e;obtain⟨h2,f⟩:=AAT.mp f;exact ne ((List.getElem_inj O).mp (e.trans (z.trans f.symm)))
 have P:(u.take 1).Pairwise (Lt R):=by cases u with|nil=>exact .nil|cons a l=>exact List.pairwise_singleton _ _
 refine wpS_bind (wpS_mono (wpS_forRange (I:=λi c d=>d=st/\c=(none,i)/\1<=i/\(u.take i).Pairwise (Lt R)) (Q:=λc d=>d=st/\∃n,c=(none,n)/\1<=n/\n<=u.length/\(u.take n).Pairwise (Lt R)/\(n=u.length∨∃v w,u[n]?=some v/\u[n-1]?=some w/\R v w=true)) ?_ ?_ ⟨rfl,rfl,AAE _,P⟩) ?_)
 ·rintro i c d _ L ⟨rfl,rfl,o,k⟩;dsimp only;obtain⟨v,e,D⟩:=m (u:=u) L;obtain⟨x,f,y⟩:=m (u:=u) (i:=i-1) (by omega);refine wpS_bind (lta C N (KZ G e) (by rw[show p.length+i-1=p.length+(i-1) by omega];exact KZ G f) (t v D) (t x y) ?_);cases c:R v x with
  |true=>exact wpS_pure ⟨rfl,i,rfl,o,by omega,k,.inr ⟨v,x,e,f,c⟩⟩
  |false=>exact wpS_pure ⟨rfl,rfl,by omega,up1 (T:=Lt R) tr k e f (C.tot (t v D) (t x y) (un O e f (by omega)) c)⟩
 ·rintro c d ⟨rfl,rfl,o,k⟩;have:max 1 u.length=u.length:=by omega
  rw[this] at k o ⊢;exact⟨rfl,_,rfl,o,AAE _,k,.inl rfl⟩
 rintro c d ⟨rfl,n,rfl,n1,n2,k,h⟩;dsimp only;by_cases z1:n=u.length
 ·rw[if_pos (by simpa using z1)];exact wpS_pure (q _ n u .rfl G n1 n2 (List.Perm.refl _) k)
 rw[if_neg (by simpa using z1)];by_cases z2:n > 1
 ·rw[if_pos z2];obtain⟨v,e,D⟩:=m (u:=u) up;obtain⟨x,f,y⟩:=m (u:=u) (i:=n-1) (by omega);have U:=KZ G e;rw[Nat.add_zero] at U;refine wpS_bind (lta C N U (by rw[show p.length+n-1=p.length+(n-1) by omega];exact KZ G f) (t v D) (t x y) ?_);have:R v x=true:=by
   have:=List.pairwise_iff_getElem.mp k 0 (n-1) (by rw[List.length_take];omega) (by rw[List.length_take];omega) (by omega);rw[List.getElem_take,List.getElem_take] at this;rw[AAr (by omega)] at e f;cases e;cases f;exact this
  rw[this];exact wpS_pure (q _ n u .rfl G n1 n2 (List.Perm.refl _) k)
 rw[if_neg z2];have n1':n=1:=by omega
 subst n1';obtain⟨v,x,e,f,c1⟩:=h.resolve_left z1;have gt:∀{p q r:Keyed},Gt R p q->Gt R q r->Gt R p r:=λh g=>C.tr g h;have pg  := up1 (T:=Gt R) (n:=1) gt (by cases u with|nil=>exact .nil|cons a l=>exact List.pairwise_singleton _ _) e f c1;refine wpS_bind (wpS_lift (wpAny_rule ⟨rfl,?_⟩));refine wpS_bind (wpS_mono (wpS_forRange (I:=λi c b=>b=d/\c=(none,i,0)/\2<=i/\(u.take i).Pairwise (Gt R)) (Q:=λc b=>b=d/\∃n,c=(none,n,0)/\2<=n/\n<=u.length/\(u.take n).Pairwise (Gt R)) ?_ ?_ ⟨rfl,rfl,AAE _,pg⟩) ?_)
 ·rintro i c b _ L ⟨rfl,rfl,o,k⟩;dsimp only;obtain⟨v,e,D⟩:=m (u:=u) L;obtain⟨x,f,y⟩:=m (u:=u) (i:=i-1) (by omega);have g1:=KZ G e;have g2:(arrOf b)[p.length+i-1]?=some x:=by rw[show p.length+i-1=p.length+(i-1) by omega];exact KZ G f
  refine wpS_bind (lta C N g1 g2 (t v D) (t x y) ?_);cases c:R v x with
  |true=>exact wpS_pure ⟨rfl,rfl,by omega,up1 (T:=Gt R) gt k e f c⟩
  |false=>
   dsimp only;rw[if_neg (by decide)];refine wpS_bind (lta C N g2 g1 (t x y) (t v D) ?_);rw[C.tot (t v D) (t x y) (un O e f (by omega)) c];exact wpS_pure ⟨rfl,i,rfl,o,by omega,k⟩
 ·rintro c b ⟨rfl,rfl,o,k⟩;have l2:2<=u.length:=(AAT.mp e).1;have:max (1+1) u.length=u.length:=by omega
  rw[this] at k o ⊢;exact⟨rfl,_,rfl,o,AAE _,k⟩
 rintro c b ⟨rfl,n,rfl,D,y,pw'⟩;dsimp only;rw[if_neg (by omega)];refine wpS_bind (wpS_modify ?_);have hm:=mir G y;have tk:((u.take n).reverse++u.drop n).take n=(u.take n).reverse:=List.take_left' (by rw[List.length_reverse,List.length_take];omega);have V:((u.take n).reverse++u.drop n).Perm u:=((List.reverse_perm _).append_right _).trans (by rw[List.take_append_drop]);have W:(((u.take n).reverse++u.drop n).take n).Pairwise (Lt R):=by rw[tk];exact List.pairwise_reverse.mpr pw'
 have X:=V.nodup_iff.mpr O;have F  := λv hv=>t v (V.mem_iff.mp hv);have ln:=V.length_eq;generalize (u.take n).reverse++u.drop n=M at hm V W X F ln;have kp:Kept b (setArr b (mirror (arrOf b) p.length (p.length+n) ((p.length+n-p.length) / 2))):=⟨rfl,rfl,rfl⟩;have Y:kindOf (setArr b (mirror (arrOf b) p.length (p.length+n) ((p.length+n-p.length) / 2)))=kd:=N;show wpS _ _ _ _ _ _ (setArr b (mirror (arrOf b) p.length (p.length+n) ((p.length+n-p.length) / 2)));have H:(arrOf (setArr b (mirror (arrOf b) p.length (p.length+n) ((p.length+n-p.length) / 2)))).toList=p++M:=hm;generalize setArr b (mirror (arrOf b) p.length (p.length+n) ((p.length+n-p.length) / 2))=Z at kp Y H;refine wpS_bind (wpS_mono (wpS_forRange (I:=λi c B=>B=Z/\c=(none,i)/\1<=i/\(M.take i).Pairwise (Lt R)) (Q:=λc B=>B=Z/\∃n,c=(none,n)/\1<=n/\n<=u.length/\(M.take n).Pairwise (Lt R)) ?_ ?_ ⟨rfl,rfl,by omega,W⟩) ?_)
 ·rintro i c B _ L ⟨rfl,rfl,o,k⟩;dsimp only;obtain⟨v,e,D⟩:=m (u:=M) (i:=i) (by omega);obtain⟨x,f,y⟩:=m (u:=M) (i:=i-1) (by omega);refine wpS_bind (lta C Y (KZ H e) (by rw[show p.length+i-1=p.length+(i-1) by omega];exact KZ H f) (F v D) (F x y) ?_);cases c:R v x with
  |true=>exact wpS_pure ⟨rfl,i,rfl,o,by omega,k⟩
  |false=>exact wpS_pure ⟨rfl,rfl,by omega,up1 (T:=Lt R) tr k e f (C.tot (F v D) (F x y) (un X e f (by omega)) c)⟩
 ·rintro c B ⟨rfl,rfl,o,k⟩;have:max n u.length=u.length:=by omega
  rw[this] at k o ⊢;exact⟨rfl,_,rfl,o,AAE _,k⟩
 rintro c B ⟨rfl,n3,rfl,k1,k2,pw3⟩;exact wpS_pure (q _ n3 M kp H k1 k2 V pw3)
end
noncomputable def ins(u:List Keyed)(k m:Nat)(v:Keyed):List Keyed:=u.take m++v::((u.take k).drop m++u.drop (k+1))
theorem bub(h:a.toList=p++u)(ev:u[k]?=some v)(d:m<=k):(bubble a (p.length+k) (p.length+k-(p.length+m))).toList=p++ins u k m v:=by
 have f:=(AAT.mp ev).1;have g:a.size=p.length+u.length:=by rw[←Array.length_toList,h,AAG]
 have A:∀i,a[i]?=if i<p.length then p[i]? else u[i-p.length]?:=λi=>by
  rw[←Array.getElem?_toList,h];split
  ·rename_i z;rw[AAS z]
  ·rename_i z;rw[AAR (by lia)]
 refine List.ext_getElem? λj=>?_;rw[Array.getElem?_toList,getElem?_bubble (by lia) _ (by lia),A,A,A];unfold ins;rcases Nat.lt_or_ge j p.length with z|z
 ·rw[AAS z,if_neg (by lia),if_neg (by lia),if_pos z]
 ·rw[AAR z];obtain⟨i,rfl⟩:∃i,j=p.length+i:=⟨j-p.length,by lia⟩;rw[show p.length+i-p.length=i by lia,show p.length+k-p.length=k by lia];have b:(u.take m).length=m:=by rw[List.length_take];lia
  have c:((u.take k).drop m).length=k-m:=by rw[List.length_drop,List.length_take];lia
  rcases Nat.lt_or_ge i m with y|y
  ·rw[AAS (by lia),List.getElem?_take_of_lt y,if_neg (by lia),if_neg (by lia),if_neg (by lia)]
  ·rw[AAR (by lia),b];by_cases e:i=m
   ·subst e;rw[AAt,List.getElem?_cons_zero,if_pos (by lia),if_neg (by lia)];exact ev
   ·obtain⟨t,rfl⟩:∃t,i=m+(t+1):=⟨i-m-1,by lia⟩;rw[show m+(t+1)-m=t+1 by lia,List.getElem?_cons_succ,if_neg (by lia)];rcases Nat.lt_or_ge t (k-m) with x|x
    ·rw[AAS (by lia),List.getElem?_drop,List.getElem?_take_of_lt (by lia),if_pos (by lia),if_neg (by lia)];congr 1;lia
    ·rw[AAR (by lia),c,List.getElem?_drop,if_neg (by lia),if_neg (by lia)];congr 1;lia
theorem UH(ev:u[k]?=some v)(a:m<=k):(ins u k m v).Perm u:=by
 obtain⟨b,e⟩:=AAT.mp ev;have c:u=u.take k++v::u.drop (k+1):=by rw[←e,←List.drop_eq_getElem_cons b,List.take_append_drop]
 have d  := by
  have:=List.take_append_drop m (u.take k);rw[List.take_take,Nat.min_eq_left a] at this;exact this.symm
 have f:u=u.take m++((u.take k).drop m++v::u.drop (k+1)):=by
  rw[←AAk,←d];exact c
 unfold ins;exact List.Perm.trans (List.Perm.append_left _ List.perm_middle.symm) (List.Perm.of_eq f.symm)
section
variable{prog:Program}{w:World}{A:Around}{E:Value->Shared->Prop}{s:Shared}{kd:SortKind}{R:Keyed->Keyed->Bool}{S:Keyed->Prop}{st:SortSt}
theorem Kept.trans(h:Kept a b)(g:Kept b c):Kept a c:=⟨g.1.trans h.1,g.2.1.trans h.2.1,g.2.2.trans h.2.2⟩
theorem Zu(C:Cp prog w A E s kd R S)(hk:kindOf st=kd)(ha:(arrOf st).toList=p++u)(su:∀v∈u,S v)(nu:u.Nodup)(o1:1<=W)(on:W<=n)(nl:n<=u.length)(pw:(u.take W).Pairwise (Lt R))
  (q:∀(f:SortSt) (d:List Keyed),Kept st f->(arrOf f).toList=p++d->d.Perm u->(d.take n).Pairwise (Lt R)->Q true f):wpS (model prog w) A E s (binarySort' p.length n W) Q st:=by
 have tr:∀{p q r:Keyed},Lt R p q->Lt R q r->Lt R p r:=C.tr;refine wpS_bind (wpS_mono (wpS_forRange (I:=λk c f=>c=(none,())/\Kept st f/\∃d,(arrOf f).toList=p++d/\d.Perm u/\(d.take k).Pairwise (Lt R)) (Q:=λc f=>c=(none,())/\Kept st f/\∃d,(arrOf f).toList=p++d/\d.Perm u/\(d.take n).Pairwise (Lt R)) ?_ ?_ ⟨rfl,.rfl,u,ha,List.Perm.refl _,by rw[Nat.max_eq_left o1];exact pw⟩) ?_)
 ·rintro k c f k1 kn ⟨rfl,kp,d,o,H,B⟩;dsimp only;have Y:kindOf f=kd:=kp.1.trans hk;have ln:=H.length_eq;have Z:=H.nodup_iff.mpr nu;have G:∀v∈d,S v:=λv hv=>su v (H.mem_iff.mp hv);have T:k<d.length:=by lia
  obtain⟨v,X,mv⟩:∃v,d[k]?=some v/\v∈d:=⟨d[k],AAr T,List.getElem_mem T⟩;have at_:∀{i:Nat},i<k->∃x,d[i]?=some x/\x∈d/\x≠v:=λ{i} hi=>⟨d[i],AAr (by lia),List.getElem_mem _,λz=>by
   obtain⟨U,D⟩:=AAT.mp X;have:=(List.getElem_inj Z).mp (z.trans D.symm);lia⟩
  have V:∀{i j:Nat} {x y:Keyed},i<j->j<k->d[i]?=some x->d[j]?=some y->R x y=true:=λ{i j x y} U F D e2=>by
   have:=List.pairwise_iff_getElem.mp B i j (by rw[List.length_take];lia) (by rw[List.length_take];lia) U;rw[List.getElem_take,List.getElem_take] at this;rw[AAr (by lia)] at D e2;cases D;cases e2;exact this
  refine wpS_bind (wpS_mono (wpS_forRange (I:=λi c g=>g=f/\∃l r,c=(none,l,r)/\l<=r/\r<=k/\r-l<=k-i/\(∀j x,j<l->d[j]?=some x->R x v=true)/\(∀j x,r<=j->j<k->d[j]?=some x->R v x=true)) (Q:=λc g=>g=f/\∃l,c=(none,l,l)/\l<=k/\(∀j x,j<l->d[j]?=some x->R x v=true)/\(∀j x,l<=j->j<k->d[j]?=some x->R v x=true)) ?_ ?_ ⟨rfl,0,k,rfl,AAi _,AAE _,by lia,(λj x h=>absurd h (Nat.not_lt_zero j)),λj x U F=>by lia⟩) ?_)
  ·rintro i c g _ hi ⟨rfl,l,r,rfl,U,F,h3,M,N⟩;dsimp only;by_cases z:l ≥ r
   ·rw[if_pos z];have:l=r:=by lia
    subst this;exact wpS_pure ⟨rfl,l,rfl,F,M,N⟩
   ·rw[if_neg z];obtain⟨x,D,m1,ne⟩:=at_ (i:=(l+r) / 2) (by lia);refine wpS_bind (lta C Y (KZ o X) (KZ o D) (G v mv) (G x m1) ?_);cases c:R v x with
    |true=>
     refine wpS_pure ⟨rfl,l,_,rfl,by lia,by lia,by lia,M,λj y j1 j2 L=>?_⟩;rcases Nat.lt_or_ge ((l+r) / 2) j with t|t
     ·exact tr c (V t j2 D L)
     ·have:j=(l+r) / 2:=by lia
      subst this;rw[D] at L;cases L;exact c
    |false=>
     have c':=C.tot (G v mv) (G x m1) (Ne.symm ne) c;refine wpS_pure ⟨rfl,_,r,rfl,by lia,F,by lia,λj y j1 L=>?_,N⟩;rcases Nat.lt_or_ge j ((l+r) / 2) with t|t
     ·exact tr (V t (by lia) L D) c'
     ·have:j=(l+r) / 2:=by lia
      subst this;rw[D] at L;cases L;exact c'
  ·rintro c g ⟨rfl,l,r,rfl,U,F,h3,M,N⟩;have:l=r:=by lia
   subst this;exact⟨rfl,l,rfl,F,M,N⟩
  ·rintro c g ⟨rfl,m,rfl,F,M,N⟩;dsimp only;refine wpS_bind (wpS_modify (wpS_pure ⟨rfl,kp.trans ⟨rfl,rfl,rfl⟩,ins d k m v,bub o X F,(UH X F).trans H,?_⟩));have l1:(d.take m).length=m:=by rw[List.length_take];lia
   have l2:((d.take k).drop m).length=k-m:=by rw[List.length_drop,List.length_take];lia
   have tk:(ins d k m v).take (k+1)=d.take m++v::(d.take k).drop m:=by
    unfold ins;rw[←List.cons_append,←AAk];exact List.take_left' (by rw[AAG,AAH,l1,l2];lia)
   rw[tk];have sp:(d.take m++(d.take k).drop m).Pairwise (Lt R):=by
    have:=List.take_append_drop m (d.take k);rw[List.take_take,Nat.min_eq_left F] at this;rw[this];exact B
   obtain⟨s1,s2,s3⟩:=List.pairwise_append.mp sp;have f1:∀a∈d.take m,R a v=true:=λa O=>by
    obtain⟨i,hi,e⟩:=List.mem_iff_getElem.mp O;rw[List.getElem_take] at e;exact M i a (by lia) (by rw[AAr (by lia),e])
   have f2:∀a∈(d.take k).drop m,R v a=true:=λa O=>by
    obtain⟨i,hi,e⟩:=List.mem_iff_getElem.mp O;rw[List.getElem_drop,List.getElem_take] at e;exact N (m+i) a (by lia) (by lia) (by rw[AAr (by lia),e])
   refine List.pairwise_append.mpr ⟨s1,AAw.mpr ⟨f2,s2⟩,λa O b mb=>?_⟩;rcases AAI.mp mb with rfl|mb
   ·exact f1 a O
   ·exact s3 a O b mb
 ·rintro c f ⟨rfl,kp,d,o,H,B⟩;refine⟨rfl,kp,d,o,H,?_⟩;rw[show max (max W 1) n=n by lia] at B;exact B
 ·rintro c f ⟨rfl,kp,d,o,H,B⟩;exact wpS_pure (q f d kp o H B)
end
noncomputable def D5:Nat->List (List Keyed)->List (Nat×Nat)
 |_,[]=>[]
 |o,r::a=>(o,r.length)::D5 (o+r.length) a
theorem GW:∀(o:Nat) (a:List (List Keyed)),(D5 o a).length=a.length
 |_,[]=>rfl
 |o,r::a=>congrArg _ (GW _ a)
theorem Ex:∀(o:Nat) (a b:List (List Keyed)),D5 o (a++b)=D5 o a++D5 (o+a.flatten.length) b
 |_,[],_=>rfl
 |o,r::a,b=>by
  show _::D5 _ (a++b)=_::(D5 _ a++_);rw[Ex _ a b,List.flatten_cons,AAG,Nat.add_assoc]
noncomputable abbrev k2(t:Nat×Nat×Nat):Nat×Nat:=(t.1,t.2.1)
structure Iv(kd:SortKind)(R:Keyed->Keyed->Bool)(T:List Keyed)(st:SortSt)(rs:List (List Keyed))(rest:List Keyed):Prop where
 kd:kindOf st=kd
 fl:failedOf st=none
 pm:(arrOf st).toList.Perm T
 ar:(arrOf st).toList=rs.flatten++rest
 pd:(pendingOf st).toList.map k2=D5 0 rs
 sr:∀r∈rs,r≠[]/\r.Pairwise (Lt R)
section
variable{prog:Program}{w:World}{A:Around}{E:Value->Shared->Prop}{s:Shared}{kd:SortKind}{R:Keyed->Keyed->Bool}{S:Keyed->Prop}{st:SortSt}{T rest:List Keyed}{rs:List (List Keyed)}
theorem Iv.size(v:Iv kd R T st rs rest):(pendingOf st).size=rs.length:=by
 have:=congrArg List.length v.pd;rw[AAF,GW] at this;exact this
theorem Sg(h:i+1<l.length):∃a x y b,l=a++x::y::b/\a.length=i/\l[i]?=some x/\l[i+1]?=some y:=by
 refine⟨l.take i,l[i],l[i+1],l.drop (i+2),?_,by grind,AAr _,AAr _⟩
 simp_all
theorem RY:((a++x::y::b).set a.length z).eraseIdx (a.length+1)=a++z::b:=by
 rw[AAe _ _ (AAE _),AAt,List.eraseIdx_append_of_length_le (by lia),Nat.add_sub_cancel_left];rfl
theorem bH(C:Cp prog w A E s kd R S)(t:∀u∈T,S u)(B:T.Nodup)(v:Iv kd R T st rs rest)(hi:i+1<rs.length)(q:∀c d,Iv kd R T c d rest->d.flatten.length=rs.flatten.length->d.length+1=rs.length->Q true c):wpS (model prog w) A E s (mergeAt' i) Q st:=by
 obtain⟨a,x,y,b,e,al,_,_⟩:=Sg hi;subst e;obtain⟨pa,D,F,pb,e,G,H,I⟩:=Sg (i:=i) (by rw[Array.length_toList,v.size];exact hi);have j:=v.pd;rw[e,Ex,AAX] at j;obtain⟨L,k⟩:=List.append_inj j (by rw[AAF,GW];lia);rw[Nat.zero_add,AAW,AAW] at k;obtain⟨M,f⟩:=List.cons.inj k;obtain⟨f,N⟩:=List.cons.inj f;obtain⟨a1,a2,a3⟩:=D;obtain⟨b1,b2,b3⟩:=F;cases M;cases f;obtain⟨l,O⟩:=v.sr x (by simp);obtain⟨P,U⟩:=v.sr y (by simp);have g:=v.ar;rw[List.flatten_append,List.flatten_cons,List.flatten_cons] at g;refine ZM C v.kd v.fl t B (p:=a.flatten) (x:=x) (z:=b.flatten++rest) (by rw[g];simp only[AAk]) v.pm O U l P (by rw[←Array.getElem?_toList];exact H) (by rw[←Array.getElem?_toList];exact I) λc m V W X n Y o=>?_;have h  := by have:=o.length_eq;rw[AAG] at this;exact this
 refine q c (a++m::b) ⟨V,W,?_,by rw[n,List.flatten_append,List.flatten_cons];simp only[AAk],?_,λr Z=>?_⟩ ?_ ?_
 ·refine List.Perm.trans ?_ v.pm;rw[n,g];have:=((o.append_left a.flatten).append_right (b.flatten++rest));refine this.trans (List.Perm.of_eq ?_);simp only[AAk]
 ·rw[X,Array.toList_eraseIdxIfInBounds,Array.toList_setIfInBounds,e,←G,RY,Ex,AAX,AAW,L];show _=D5 0 a++(_,m.length)::D5 _ b;rw[h,Nat.zero_add,←Nat.add_assoc,←N]
 ·rcases AAJ.mp Z with z|z
  ·exact v.sr r (AAa _ z)
  ·rcases AAI.mp z with rfl|z
   ·exact⟨λe=>by rw[e] at h;exact l (List.eq_nil_of_length_eq_zero (by simp at h;lia)),Y⟩
   ·exact v.sr r (by simp[z])
 ·rw[List.flatten_append,List.flatten_cons,List.flatten_append,List.flatten_cons,List.flatten_cons];simp only[AAG];lia
 ·rw[AAG,AAG,AAH,AAH,AAH];lia
end
section
variable{prog:Program}{w:World}{A:Around}{E:Value->Shared->Prop}{s:Shared}{kd:SortKind}{R:Keyed->Keyed->Bool}{S:Keyed->Prop}{st:SortSt}{T rest:List Keyed}{rs:List (List Keyed)}
theorem k2_modify{a:Array (Nat×Nat×Nat)}:(a.modify i λx=>(x.1,x.2.1,b)).toList.map k2=a.toList.map k2:=by
 rw[Array.toList_modify];refine List.ext_getElem? λj=>?_;rw[AAV,AAV,List.getElem?_modify];cases a.toList[j]? with
 |none=>rfl
 |some t=>
  by_cases e:i=j
  ·simp_all
  ·simp[e]
theorem QG:∀{rs:List (List Keyed)},(∀r∈rs,r≠[]/\r.Pairwise (Lt R))->rs.length<=rs.flatten.length
 |[],_=>AAE _
 |r::rs,h=>by
  have b:=QG λx a=>h x (AAQ _ a);have:=List.length_pos_iff.mpr (h r AAP).1
  grind
theorem sort_of(C:Cp prog w A E s kd R S)(hk:kindOf st=kd)(hf:failedOf st=none)(hp:pendingOf st=#[])(Y:(arrOf st).toList=T)(Z:∀u∈T,S u)(nT:T.Nodup){Q:Unit->SortSt->Prop}
  (q:∀d,(arrOf d).toList.Perm T->(arrOf d).toList.Pairwise (Lt R)->failedOf d=none->Q () d):wpS (model prog w) A E s sortRuns' Q st:=by
 have sz:(arrOf st).size=T.length:=by rw[←Array.length_toList,Y]
 have fl:∀{st:SortSt} {rs:List (List Keyed)} {rest:List Keyed},Iv kd R T st rs rest->rs.flatten.length+rest.length=T.length:=λ{st rs rest} v=>by
  have:=v.pm.length_eq;rw[v.ar,AAG] at this;exact this
 refine wpS_bind (wpS_get ?_);dsimp only;rw[sz];generalize (sortPriv% PySem.Builtin.minRun) T.length T.length 0=U;refine wpS_bind (wpS_mono (wpS_forRange (I:=λi c d=>∃rs rest,c=(none,rs.flatten.length)/\Iv kd R T d rs rest/\i<=rs.flatten.length) (Q:=λc d=>∃rs,c=(none,T.length)/\Iv kd R T d rs []) ?_ ?_ ⟨[],T,rfl,⟨hk,hf,by rw[Y],Y,by rw[hp];rfl,(λr h=>nomatch h)⟩,AAE _⟩) ?_)
 ·rintro i c d _ hi ⟨rs,rest,rfl,v,il⟩;dsimp only;have m:=fl v;by_cases z:rs.flatten.length ≥ T.length
  ·rw[if_pos z];have r0:rest=[]:=List.eq_nil_of_length_eq_zero (by lia);subst r0;rw[List.length_nil] at m;exact wpS_pure ⟨rs,by rw[←m,Nat.add_zero],v⟩
  rw[if_neg z];have rne:rest≠[]:=λe=>by rw[e,List.length_nil] at m;lia
  have lr:T.length-rs.flatten.length=rest.length:=by lia
  have nd:(rs.flatten++rest).Nodup:=by rw[←v.ar];exact v.pm.nodup_iff.mpr nT
  have V:∀u∈rest,S u:=λu hu=>Z u (v.pm.mem_iff.mp (by rw[v.ar];exact AAZ _ hu));have nr:=(List.nodup_append.mp nd).2.1;have o:∀{j:SortSt} {u:List Keyed},Kept d j->(arrOf j).toList=rs.flatten++u->u.Perm rest->Iv kd R T j rs u:=λ{j u} kp L h2=>⟨kp.1.trans v.kd,kp.2.2.trans v.fl,by rw[L];exact((h2.append_left rs.flatten).trans (by rw[←v.ar])).trans v.pm,L,by rw[kp.2.1];exact v.pd,v.sr⟩;have M:∀{f:SortSt} {k:List (List Keyed)} {u:List Keyed} {n:Nat},Iv kd R T f k u->k.flatten.length=rs.flatten.length->1<=n->n<=u.length->(u.take n).Pairwise (Lt R)->∃p B,((none:Option Unit),rs.flatten.length+n)=(none,List.length (List.flatten p))/\Iv kd R T (SortSt.mk' (kindOf f) (arrOf f) ((pendingOf f).push (rs.flatten.length,n,0)) (gallopOf f) (failedOf f)) p B/\i+1<=(List.flatten p).length:=λ{f k u n} F l5 G H D=>by
   have W:(u.take n).length=n:=by rw[List.length_take];lia
   have lf:(k++[u.take n]).flatten.length=rs.flatten.length+n:=by rw[List.flatten_append,AAG,List.flatten_cons,List.flatten_nil,AAY,W,l5]
   refine⟨k++[u.take n],u.drop n,by rw[lf],⟨F.kd,F.fl,F.pm,?_,?_,λr hr=>?_⟩,by rw[lf];lia⟩
   ·show (arrOf f).toList=_;rw[F.ar,List.flatten_append,List.flatten_cons,List.flatten_nil,AAY,AAk,List.take_append_drop]
   ·show ((pendingOf f).push (rs.flatten.length,n,0)).toList.map k2=_;rw[Array.toList_push,AAX,F.pd,Ex,Nat.zero_add,l5];show _=D5 0 k++[(_,(u.take n).length)];rw[W];rfl
   ·rcases AAJ.mp hr with y|y
    ·exact F.sr r y
    ·rw[AAK.mp y];exact⟨λe=>by rw[e] at W;simp at W;lia,D⟩
  rw[lr];refine wpS_bind (Zp C v.kd v.ar V nr rne λj n u kp L G H N D=>?_);dsimp only;have X:=o kp L N;have lu:u.length=rest.length:=N.length_eq;have H:n<=u.length:=by lia
  by_cases z2:n<U
  case' pos=>
   rw[if_pos z2];refine wpS_bind (wpS_lift (wpAny_rule ⟨rfl,?_⟩));refine wpS_bind (Zu C X.kd L (λx hx=>V x (N.mem_iff.mp hx)) (N.nodup_iff.mpr nr) G (by lia) (by lia) D λj u kp2 h2 O D=>?_);rw[if_neg (by decide)];have X:=o (kp.trans kp2) h2 (O.trans N);have lu2:=O.length_eq;have H:min rest.length U<=u.length:=by lia
   have G:1<=min rest.length U:=by lia
   generalize min rest.length U=n at G H D ⊢
  case' neg=>rw[if_neg z2]
  all_goals
   refine wpS_bind (wpS_get ?_);cases hb:(pendingOf j).back? with
   |none=>
    exact wpS_bind (wpS_modify (wpS_pure (M X rfl G H D)))
   |some t=>
    obtain⟨s1,m1,x⟩:=t;dsimp only;refine wpS_bind (wpS_mono (wpS_forRange (I:=λ_ c b=>c=(none,())/\∃g,Iv kd R T b g u/\g.flatten.length=rs.flatten.length) (Q:=λc b=>c=(none,())/\∃g,Iv kd R T b g u/\g.flatten.length=rs.flatten.length) ?_ (λc b h=>h) ⟨rfl,rs,X,rfl⟩) ?_)
    ·rintro i' c b _ _ ⟨rfl,g,l,P⟩;refine wpS_bind (wpS_get ?_);have ps:=l.size;by_cases y:(pendingOf b).size > 1
     ·rw[if_pos y];rw[show (pendingOf b)[(pendingOf b).size-2]?=some (pendingOf b)[(pendingOf b).size-2] from Array.getElem?_eq_getElem _];dsimp only;split
      ·exact wpS_pure ⟨rfl,g,l,P⟩
      ·refine wpS_bind (bH C Z nT l (by show (pendingOf b).size-2+1<_;lia) λst4 rs4 v4 l4 _=>?_);rw[if_neg (by decide)];exact wpS_pure ⟨rfl,rs4,v4,l4.trans P⟩
     ·rw[if_neg y];exact wpS_pure ⟨rfl,g,l,P⟩
    ·rintro c b ⟨rfl,g,l,P⟩;dsimp only;refine wpS_bind (wpS_modify ?_);refine wpS_bind (wpS_modify (wpS_pure ?_));exact M ⟨l.kd,l.fl,l.pm,l.ar,k2_modify.trans l.pd,l.sr⟩ P G H D
 ·rintro c d ⟨rs,rest,rfl,v,il⟩;have m:=fl v;have r0:rest=[]:=List.eq_nil_of_length_eq_zero (by lia);subst r0;rw[List.length_nil] at m;exact⟨rs,by rw[←m,Nat.add_zero],v⟩
 rintro c d ⟨rs,rfl,v⟩;dsimp only;have m:=fl v;refine wpS_bind (wpS_mono (wpS_forRange (I:=λi c a=>c=(none,())/\∃rs,Iv kd R T a rs []/\(rs.length<=1∨rs.length+i<=T.length)) (Q:=λc a=>c=(none,())/\∃rs,Iv kd R T a rs []/\rs.length<=1) ?_ ?_ ⟨rfl,rs,v,.inr (by have:=QG v.sr;rw[List.length_nil] at m;lia)⟩) ?_)
 ·rintro i c a _ hi ⟨rfl,rs,v,h⟩;refine wpS_bind (wpS_get ?_);have ps:=v.size;by_cases z:(pendingOf a).size<=1
  ·rw[if_pos z];exact wpS_pure ⟨rfl,rs,v,by lia⟩
  rw[if_neg z];refine wpS_bind (bH C Z nT v ?_ λb rs3 v3 l1 l2=>?_)
  ·have:∀(c:Bool),(if c=true then (pendingOf a).size-2-1 else (pendingOf a).size-2)+1<rs.length:=λc=>by cases c<;>simp<;>lia
   exact this _
  ·rw[if_neg (by decide)];exact wpS_pure ⟨rfl,rs3,v3,by lia⟩
 ·rintro c a ⟨rfl,rs,v,h⟩;exact⟨rfl,rs,v,by lia⟩
 ·rintro c a ⟨rfl,rs,v,h⟩;refine wpS_pure (q a v.pm ?_ v.fl);rw[v.ar,AAY]
  match rs,h,v.sr with
  |[],_,_=>exact .nil
  |[r],_,V=>rw[List.flatten_cons,List.flatten_nil,AAY];exact(V r AAP).2
end
end Tm
namespace Nk
open PySem PySem.Spec PyProof.Rows HT
open Classical in
noncomputable def cd(h:Heap)(ks:List Cs)(v:Value):Cs:=if z:∃k,k∈ks/\At h (csK k) v then choose z else cq
theorem QZ(m:k∈ks)(a:At h (csK k) v):cd h ks v=k:=by
 have z:∃k,k∈ks/\At h (_) v:=⟨k,m,a⟩;unfold cd;rw[dif_pos z];exact GE (At.inj (Classical.choose_spec z).2 a)
theorem Ats.cds(c:∀k v,At h k v->At g k v):∀{js:List Cs} {b:List Value},(∀j∈js,j∈ks)->Ats h (js.map csK) b->b.map (cd g ks)=js
 |[],_,_,a=>by
  subst a;rfl
 |j::js,_,m,a=>by
  obtain⟨v,b,rfl,d,e⟩:=a;rw[AAW,QZ (m j AAP) (c _ _ d),Ats.cds c (λx f=>m x (AAQ _ f)) e]
theorem Ats.mem{h:Heap}{ks:List Cs}(a:Ats h (ks.map csK) c)(d:v∈c):∃k∈ks,At h (csK k) v:=by
 obtain⟨i,f,e⟩:=List.mem_iff_getElem.mp d;have j  := by have:=a.len;simpa using this
 obtain⟨l,b,g⟩:=a.get i _ (by rw[AAV,AAr (by lia)];rfl);rw[AAr f,e] at b;cases b;exact⟨_,List.getElem_mem _,g⟩
theorem FB:∀{xs:List α},(xs.map f).Nodup->xs.Nodup
 |[],_=>List.nodup_nil
 |x::xs,h=>by
  obtain⟨a,b⟩:=List.nodup_cons.mp h;exact List.nodup_cons.mpr ⟨λz=>a (AAL.mpr ⟨x,z,rfl⟩),FB b⟩
theorem Op{α c:Type}{f:α->c}{xs:List α}(h:(xs.map f).Nodup){a b:α}(d:a∈xs)(g:b∈xs)(e:f a=f b):a=b:=by
 obtain⟨i,k,rfl⟩:=List.mem_iff_getElem.mp d;obtain⟨j,l,rfl⟩:=List.mem_iff_getElem.mp g;have  := (List.getElem_inj (h₀:=by rw[AAF];exact k) (h₁:=by rw[AAF];exact l) h).mp (by rw[List.getElem_map,List.getElem_map];exact e);subst this;rfl
section
variable{prog:Program}{w:World}{A:Around}{E:Value->Shared->Prop}{s:Shared}
theorem bi{ks:List Cs}{g:List Value}(k:A.units+8<cLine)(c:Ats s.heap (ks.map csK) g)(l:ks.Nodup):Tm.Cp prog w A E s (tuples' true) (λx y=>cLt (cd s.heap ks x.1) (cd s.heap ks y.1)) (λx=>x.1=x.2/\x.1∈g) where
 lt:=λ{st x y Q} d sx sy q=>by
  obtain⟨a,o,h⟩:=c.mem sx.2;obtain⟨b,p,i⟩:=c.mem sy.2;rw[QZ o h,QZ p i] at q;rw[lt'_eq];refine wpS_bind (wpS_get ?_);rw[d];exact wpS_bind (wpS_lift (wpAny_attempt (bh k h i ⟨rfl,wpS_pure q⟩)))
 tot:=λ{x y} sx sy r q=>by
  have t:=c.cds (λ_ _ z=>z) λ_ z=>z;have f  := λe=>r (by
   have:=Op (by rw[t];exact l) sx.2 sy.2 e;exact Prod.ext this (by rw[←sx.1,←sy.1];exact this))
  exact(L3 λz=>f (NW z)).elim (λz=>by have j  := q;rw[show cLt _ _=true from z] at j;cases j) id
 tr:=Oe
 irr:=λx=>Ih _
theorem Si{a:Addr}{j:List Value}(U:A.units+8<cLine)(I:s.heap.get? a=some (seqObj "list" j.toArray n))(S:Ats s.heap (ks.map csK) j)(nd:ks.Nodup)(hle:j.length<=1000)
  (h:∀(l:List Value) (F:List Cs),Ats s.heap (F.map csK) l->F.Perm ks->F.Pairwise (λx y=>cLt x y=true)->(∀v∈l,v∈j)->P (.done (.ret .none)) { s with heap:=sortedHeap s.heap a j l.toArray }) :
  wpAny (model prog w) A (Builtin.«list.sort» ⟨[.ref a],[]⟩) P E s:=by
 have J  := by have:=S.len;simpa using this
 have ha  := Heap.lt_size I;have L:=get?_update_seq I (λ_=>#[]);rw[list_sort_plain];refine AAA (listItems_at I rfl (AAA (listUpdate_at I rfl ?_ (by rw[List.size_toArray,sizeLine_eq];lia) (AAi _))));refine AAA (seqEpoch_at L rfl (AAA (wpAny_newTuple ?_ (by show j.length<=_;rw[sizeLine_eq];lia))));refine AAA (wpAny_newList ?_ (AAi _));refine AAn ?_;generalize V:((s.heap.update a (Obj.mapSeq λ_=>(#[]:Array Value))).push (seqObj "tuple" j.toArray 0)).push (seqObj "list" #[] 0)=G;have p:G.get? a=(s.heap.update a (Obj.mapSeq λ_=>#[])).get? a:=by
  rw[←V,Heap.get?_push_ne _ _ _ (by rw[size_push',Heap.size_update];exact AAc (AAg ha)),Heap.get?_push_ne _ _ _ (by rw[Heap.size_update];exact AAc ha)]
 rw[L] at p;have kp:∀b o q m,s.heap.get? b=some o->o.cls=.type "tuple" -> o.data=.seq q m->G.get? b=some o:=λb o q m e c _=>by
  have hb  := Heap.lt_size e;have W:b≠a:=λz=>by
   subst z;rw[I] at e;cases e;exact absurd (show (Value.type "list")=.type "tuple" from c) (by decide)
  rw[←V,Heap.get?_push_ne _ _ _ (by rw[size_push',Heap.size_update];exact AAc (AAg hb)),Heap.get?_push_ne _ _ _ (by rw[Heap.size_update];exact AAc hb),Heap.get?_update_ne _ _ _ _ W];exact e
 have H  := S.kept kp;have M:∀l:List Value,sortedHeap s.heap a j l.toArray=G.update a (Obj.mapSeq λ_=>l.toArray):=λl=>by rw[←V];rfl
 dsimp only;by_cases r:j.toArray.size<2
 ·rw[if_pos r,if_pos r];have X  := by simpa using r
  refine AAA (AAB ?_);rw[StateT.run_pure];refine AAA (AAB ?_);dsimp only;have ex  := by
   show (j.toArray.zip j.toArray).map (·.2)=j.toArray;apply Array.toList_inj.mp;rw[Array.toList_map,Array.toList_zip];exact List.map_snd_zip (by simp)
  refine AAA (seqEpoch_at p rfl (AAA (listUpdate_at p rfl ?_ (AAi _) (by rw[ex,List.size_toArray,sizeLine_eq];lia))));simp only[bne_self_eq_false,Bool.false_eq_true,if_false];have:=h j ks S (List.Perm.refl _) (by
   match ks,J with
   |[],_=>exact List.Pairwise.nil
   |[x],_=>exact List.pairwise_singleton _ _
   |_::_::_,e=>simp at e;lia) (λ_ z=>z)
  rw[M j] at this;refine AAB ?_;rw[ex];exact this
 ·rw[if_neg r,if_neg r];have X  := by simpa using r
  obtain⟨fs,fl,ft,fi⟩:=CS (s:={ s with heap:=G }) H;refine AAA (PySem.W.kat_kind ft (by lia) (λv Y=>by
   obtain⟨i,t,rfl⟩:=fi v Y;exact PySem.W.Looks.of_pure rfl) rfl ?_)
  have ev:=H.cds (ks:=ks) (g:=G) (λ_ _ z=>z) λ_ z=>z;have Z  := FB (by rw[ev];exact nd);have tl:(j.toArray.zip j.toArray).toList=j.map λv=>(v,v):=by
   rw[Array.toList_zip];show j.zip j=_;rw[List.zip_eq_zipWith];exact List.zipWith_self
  have C:=bi (prog:=prog) (w:=w) (E:=E) (s:={ s with heap:=G }) U H nd;refine AAA (AAh (Tm.sort_of (Q:=λ_ d=>(arrOf d).toList.Perm (j.map λv=>(v,v))/\(arrOf d).toList.Pairwise (Tm.Lt λx y=>cLt (cd G ks x.1) (cd G ks y.1))/\failedOf d=none) C rfl rfl rfl tl (λu U=>by obtain⟨v,Y,rfl⟩:=AAL.mp U;exact⟨rfl,Y⟩) (FB (f:=Prod.fst) (by rw[List.map_map];show (j.map id).Nodup;rw[List.map_id];exact Z)) λd N r T=>⟨N,r,T⟩) ?_ λ_ _ e=>e);rintro⟨⟨⟩,d⟩ s' ⟨rfl,N,r,T⟩;dsimp only at N r T ⊢;have O:(arrOf d).map (·.2)=((arrOf d).toList.map (·.2)).toArray:=by apply Array.toList_inj.mp;rw[Array.toList_map]
  have po  := by
   have:=N.map Prod.snd;rw[List.map_map,show j.map (Prod.snd ∘ λv=>(v,v))=j from List.map_id j] at this;exact this
  have hsz:((arrOf d).map (·.2)).size=j.length:=by rw[O,List.size_toArray,po.length_eq]
  refine AAA (seqEpoch_at p rfl (AAA (listUpdate_at p rfl ?_ (AAi _) (by rw[hsz,sizeLine_eq];lia))));rw[T];simp only[bne_self_eq_false,Bool.false_eq_true,if_false];have D:∀x∈(arrOf d).toList,x.1=x.2:=λx R=>by
   obtain⟨v,_,rfl⟩:=AAL.mp (N.mem_iff.mp R);rfl
  have B:∀v∈(arrOf d).toList.map (·.2),v∈j:=λv=>po.mem_iff.mp;have oa:Ats s.heap ((((arrOf d).toList.map (·.2)).map (cd G ks)).map csK) ((arrOf d).toList.map (·.2)):=by
   generalize (arrOf d).toList.map (·.2)=l at B
   induction l with
   |nil=>unfold List.map Ats;rfl
   |cons v l ih=>
    obtain⟨k,mk,ak⟩:=S.mem (B v AAP);rw[AAW,AAW];unfold Ats;exact⟨v,l,rfl,by rw[QZ mk (ak.kept kp)];exact ak,ih λx R=>B x (AAQ _ R)⟩
  have:=h _ _ oa (by have:=po.map (cd G ks);rw[ev] at this;exact this) (by
   rw[List.map_map,List.pairwise_map];refine List.Pairwise.imp_of_mem (λ{x y} R hy z=>?_) r;show cLt (cd G ks x.2) (cd G ks y.2)=true;rw[←D x R,←D y hy];exact z) B
  rw[M _,←O] at this;exact AAB this
end
section
variable{prog:Program}{w:World}{A:Around}{E:Value->Shared->Prop}{s:Shared}
theorem Lk(J:A.handled=none)(hu:A.units+16<cLine)(lo:(d==sysModules)=false)(L:s.heap.get? d=some o)(M:o.ExactDict)(N:o.data=.dict es ep)
  (O:Ats s.heap (ks.map csK) (es.toList.map (·.key))) (y:ks.Nodup) (P:es.size<=1000)
  (q:∀(a r:Heap) R c (f:List Value) (h:List Cs),(∀b o,s.heap.get? b=some o->a.get? b=some o)->(∀b o,a.get? b=some o->r.get? b=some o)->r.get? a.objs.size=some (seqObj "list" f.toArray c)->Ats a (h.map csK) f->h=Li ks->(∀v∈f,v∈es.toList.map (·.key))->Q (.ref a.objs.size) { s with heap:=r,toks:=R }) :
  wpAny (model prog w) A (call (.builtin "sorted") [.ref d]) Q E s:=by
 refine Calls.call_function_entry kind_sorted plain_sorted entry_sorted (args_sorted1 _) ?_;refine AAA (wpAny_of_eq rfl (AAA (PySem.W.kdu_collect (Mp lo M N) J L (by rw[sizeLine_eq];lia) λa S g z it=>?_)));have B:=Jj it;have C:g.toList.length=es.size:=by rw[Array.length_toList];exact it.1
 refine AAA (wpAny_newList ?_ (by rw[sizeLine_eq];lia));have t:(a.push (seqObj "list" g.toList.toArray 0)).get? a.objs.size=some (seqObj "list" g.toList.toArray 0):=AAD _ rfl;have p:∀b o,a.get? b=some o->(a.push (seqObj "list" g.toList.toArray 0)).get? b=some o:=λb o=>AAC _;have m:Ats a (ks.map csK) g.toList:=by rw[B];exact O.kept λb o l n e _ _=>z b o e
 have u  := m.kept λb o l n e _ _=>p b o e;refine AAA (AAn (AAb slot_list_sort ⟨_,t,rfl⟩ entry_list_sort (Si (s:={ s with heap:=a.push (seqObj "list" g.toList.toArray 0),toks:=S }) (by show A.units+1+1+8<cLine;lia) t u y (by lia) λf h D U V F=>⟨_,rfl,?_⟩) (args_list_sort _)));obtain⟨c,W⟩:=sortedHeap_at t;have X:=Vw y U V;have x:Ats a (h.map csK) f:=by
  refine Ats.of_get (by have:=D.len;simpa using this) λi k v Y G=>?_;obtain⟨v',H,Z⟩:=D.get i k Y;rw[G] at H;cases H;obtain⟨j,mj,I⟩:=m.mem (F v (AAU G));have same:=At.inj (I.kept λb o l n e _ _=>p b o e) Z;rw[←same];exact I
 exact AAB ⟨_,rfl,q a _ _ c f h z (λb o e=>by rw[sortedHeap_old (AAc (Heap.lt_size e)) (Heap.lt_size (p b o e))];exact p b o e) W x X (by rw[←B];exact F)⟩
end
end Nk
namespace Mi
open PySem L2 Ht Nk
section
variable{X:Cx}{e:Expr}
theorem Nh(v:Room k0 X.A)(w:X.calm=true):B7 X (.builtin "sorted") (λxs H Q=>∃p l Y k,xs=[.ref p]/\H p=some (Ca p l)/\(∀y∈l,Is X.kw Y k H (csD y.1) (.ref y.2.1))/\l.length<1000/\∀q a,H q=none->IsL X.kw Y k H ((Li (l.map (·.1))).map csD) a->Q (.ref q) (upd H q (.lst a))):=by
 intro w4 s O H xs x Q I r h;obtain⟨p,l,Y,k,rfl,z,g,A,q⟩:=h;obtain⟨u,rfl,B⟩:=Ea r;cases B;obtain⟨x,o,C,ep,E,F,G,J,i,K,h6,L,_⟩:=FQ I.hok z;have N  := by have:=E.length;simpa using this
 have P:C.size=l.length:=by rw[←Array.length_toList,i,AAF,List.length_zip];lia
 have j:=QU N i;refine Lk (I.ok.hd w) (by have:=v.units;lia) L F G J (by rw[j];exact Nn I g) K (by lia) λR h' S c b T m U W d Z f=>?_;subst Z;obtain⟨a,rv,n⟩:=Te I m g d (by rw[←j];exact f);have t:=I.kept (t':=S) m;have hz:a.length<=sizeLine:=by
  have:=n.length;rw[this,AAF,(Dz _).length_eq,AAF];lia
 exact⟨.ref R.objs.size,_,t.laid (o:=.lst a) U (AAE _) ⟨hz,b,c,rv,W⟩,rfl,q _ a (t.hok.fresh (AAE _)) n⟩
noncomputable def N8:List D->M D
 |[d]=>bnd (GJ d) λr=>λZ=>if r.2.length<1000 then some (.lst ((Li (r.2.map (·.1))).map csD),Z) else none
 |_=>Bj
theorem Us(g:Room x X.A)(i:X.calm=true):B7 X (.builtin "sorted") (rMA X.kw N8):=λj s O H y k Q I r h=>by
 obtain⟨Y,Z,z,d,A,R,l,e,q⟩:=h;unfold N8 at e;split at e
 ·obtain⟨B,C,m,a⟩:=AI e;obtain⟨v,rfl,n⟩:=FE l;obtain⟨o,_,E,rfl,b,t,c⟩:=Cr R n m;subst o;split at a
  ·cases a;have u  := by have:=congrArg List.length c.keys;simpa using this
   refine Nh g i j s O H _ k Q I r ⟨_,b,Y,_,rfl,t,c.at,by lia,λp F w f=>?_⟩;rw[c.keys] at f;exact K2 R f q p w
  ·cases a
 ·cases e
end
end Mi
namespace L2
open PySem PySem.Spec PyProof.Rows
section
variable{X:Cx}{scope:Scope}{tgs:List Str}{ix:List Nat}
theorem M7(co:Option Expr)(G:X.N.Nodup)(k:X.N[i]?=some y)(A:X.env.scope.names.lookup y=some .local)
  (S:BScope X scope tgs ix) (L:X.calm=true) (hi:PI X l c M) (N:∀fp C s H,PG (cxB X scope tgs fp C s H) l g) (n:GK tgs.length g)
  (p:∀fp C s H,Rn (cxB X scope tgs fp C s H) co P) (R:∀fp C s H,PE (cxB X scope tgs fp C s H) d te)
  (r:swapsWith (.ListComp d [⟨l,c,co.toList,0⟩] scope pos) (some (.Name y U)) f.line X.env=pure true:=by rfl) (Y:∀x,foldedSetIterable c X.env x=pure x:=by intro _;rfl) :
  PS X (.Assign [.Name y U] (.ListComp d [⟨l,c,co.toList,0⟩] scope pos) f) (Vv (Sd tgs ix M g P te) (IK i)):=by
 intro Z s O H D0 I h;rw[exec_Assign_Name_used _ _ _ _ r];refine AAA (wpAny_standAt (AAA (AAA (AAh (wpAny_comprehension_free rfl Y (Ep (S.cells I.ok)) S.kind S.loc (thn (hi Z s O H _ I h) λv s1 h1=>thn h1 λitv s2 h2=>?_)) (λ_ s' hq=>AAB (AAB hq)) λ_ _ e=>e))));obtain⟨it,fp,tn,J,H2,e,I2,T,t0,B,W,w0,j⟩:=h2;subst e;refine IM (Q:=λx H1=>IK i x O H1 D0.nx) S L N n p R I2 T t0 B W w0 j ?_;intro D C s' H' m J1 q hn fC;obtain⟨f0,E,B,f3,F,f5⟩:=fC;refine wpAny_assign_Name (Kk (v:=.ref D) J1 G k (.inl A) rfl (λs'' t u=>?_) (.inr A));obtain⟨a,sb,ha⟩:=u;have w:C≠a:=by
  rcases ha with z|z
  ·rw[z];exact E
  ·exact Ne.symm (F y a z)
 exact⟨m,hn.sameBut sb w,λh' sb'=>⟨_,H',t.turned (λb o hb=>(sb'.2 b hb).trans) f0 E f3 F f5,q⟩⟩
end
end L2
namespace Mi
open PySem L2
section
variable{X:Cx}{K:KW}{scope:Scope}{tgs:List Str}{ix:List Nat}{elt tg iter:Expr}{pos:Pos}{bf:D->Sl->M Sl}{g:TG}{src:Sl->M (List D)}{mc:Sl->M Bool}{me:Sl->M D}{fin:List D->M D}{n:Nat}
structure Tg(n:Nat)(K:KW)(bf:D->Sl->M Sl)(g:TG):Prop where
 gk:GK n g
 gb:∀v O H Q,tG K bf v O H Q->g v O H Q
 mu:∀d B B' Z Z',bf d B Z=some (B',Z')->Z'=Z
theorem CY(h:i<n:=by decide):Tg n K (AO i) (IK i):=⟨Wq h,λ_ _ _ _=>Lg,λd B a Z b e=>by cases e;rfl⟩
theorem SY(h:∀i∈is,i<n:=by decide):Tg n K (Cq is) (Wr K is.length (Fs is)):=⟨Zc h,λ_ _ _ _=>YZ,XA⟩
def LV(K:KW)(fin:List D->M D):Prop:=∀Y Z a H c b d (Q:VK),RelH K Y Z H->IsL K Y Z.length H c b->fin c Z=some (d,a)->(Aft K Y Z H a λf e=>∀v,Is K f a.length e d v->Q v e)->
 b.length<=sizeLine/\∀p,H p=none->Q (.ref p) (upd H p (.lst b))
theorem GH:LV K BU:=λ_ _ _ _ _ _ _ _=>Ie
def ItX(C:Mh->Mh->Prop)(K:KW)(J:It)(ds:List D)(Y:Nat->Addr)(Z:Mh)(H:Hp):Prop:=∀b (a:Mh) c,C Z a->Ext Y Z.length H b a.length c->RelH K b a c->
 (∀i,i<ds.length->J.go i c)/\J.stop ds.length c/\∀(i:Nat) x e d,ds[i]?=some d->J.yld i c x e->Ext b a.length c b a.length e/\RelH K b a e/\Is K b a.length e d x
noncomputable def tIX(C:Mh->Mh->Prop)(K:KW)(m:Sl->M (List D)):TI:=λO H R=>∃Y Z B b a,RelH K Y Z H/\RelS K Y Z.length H B O/\m B Z=some (b,a) /\
 Aft K Y Z H a λd c=>∀J,ItX C K J b d a c->R J c
theorem ap(h:RI X tg iter src):PI X tg iter (tIX (λ_ _=>True) X.kw src):=PI.wk h.pe λO H R q=>by
 obtain⟨Y,Z,B,a,b,c,S,e,q⟩:=q;exact⟨Y,Z,B,a,b,c,S,e,λd f i j J k=>q d f i j J λl m o _=>k l m o⟩
theorem XN(rf:∀a,C a a)(tr:∀a b c,C a b->C b c->C a c)(T:Tg tgs.length K bf g)(pc:∀B Z b Z',mc B Z=some (b,Z')->C Z Z')(pm:∀B Z b Z',me B Z=some (b,Z')->C Z Z')(hn:tgs.length=n)(hf:LV K fin)
  (h:tE K (Bm n ix src bf mc me fin) O H Q):Sd tgs ix (tIX C K src) g (tT K mc) (tE K me) O H Q:=by
 subst hn;obtain⟨Y,Z,B,d,Z',R,S,e,q⟩:=h;obtain⟨j,w5,I,L⟩:=AI e;obtain⟨u,N,P,s⟩:=AI L;obtain⟨zs,x6,o,e7⟩:=AI s;obtain⟨hl,U⟩:=Ei P;clear e L s;subst U;refine⟨Y,Z,B,j,_,R,S,I,λx4 H1 E1 R1 J it=>?_⟩
 let W  := λf p H=>p.length<=f/\∃(Y:Nat->Addr) (Z:Mh) (t:List D),RelH K Y Z H/\RelS K Y Z.length H B O/\ItX C K J j Y Z H/\IsL K Y Z.length H t p/\EY bf mc me (Ey tgs.length ix B) (j.drop f) t Z=some (zs,x6) /\
  Aft K Y Z H Z' λY' H'=>∀v,Is K Y' Z'.length H' d v->Q v H'
 refine⟨λf m p H=>m=j.length-f/\f<=j.length/\W f p H,⟨j.length,by simp,AAi _,AAE _,x4,_,[],R1,S.ext E1,it,.nil,o,λw9 H2 E2=>q w9 H2 (E1.trans E2)⟩,?_⟩;rintro f m p H ⟨hm,hil,hyl,Y,Z,t,R,S,it,ia,o,q⟩;obtain⟨go,w,yl⟩:=it Y Z H (rf _) R.ext0 R;by_cases k:f<j.length
 ·refine .inr ⟨go f k,by lia,W (f+1),λys' H' z=>⟨_,by lia,rfl,k,z⟩,λx H2 y=>?_⟩;obtain⟨E2,R2,ix2⟩:=yl f x H2 _ (AAr k) y;rw[List.drop_eq_getElem_cons k] at o;obtain⟨x5,w5,I,L⟩:=AI o;obtain⟨cc,N,P,s⟩:=AI L;cases T.mu _ _ _ _ _ I;have c2:=pc _ _ _ _ P;have S2:=(S.ext E2).block (tgs:=tgs) (ix:=ix);refine T.gb _ _ _ _ ⟨Y,_,_,_,x5,_,R2,S2,ix2,I,λv9 H0 E0 R0 σ0 S0=>⟨v9,_,_,cc,N,R0,S0,P,λx8 H3 E3 R3=>?_⟩⟩;have i:=(E2.trans E0).trans E3;have ex:∀{x9 r H4},C Z r->Ext Y Z.length H x9 r.length H4->ItX C K J j x9 r H4:=λc E A v8 F c5 G=>it A v8 F (tr _ _ _ c c5) (E.trans G);cases cc with
  |false=>exact⟨by lia,x8,N,t,R3,S.ext i,ex c2 i,ia.ext i,s,λA F G=>q A F (i.trans G)⟩
  |true=>
   obtain⟨y',r,U,e8⟩:=AI s;refine⟨x8,N,_,y',r,R3,S0.ext E3,U,λx9 H4 E4 R4 v iv=>?_⟩;have l:=i.trans E4;exact⟨by simp;lia,x9,r,t++[y'],R4,S.ext l,ex (tr _ _ _ c2 (pm _ _ _ _ U)) l,(ia.ext l).append (.one iv),e8,λA F G=>q A F (l.trans G)⟩
 ·have hi':f=j.length:=by lia
  subst hi';rw[List.drop_length] at o;cases o;obtain⟨z1,z2⟩:=hf Y _ Z' H _ p d Q R ia e7 q;exact .inl ⟨w,z1,z2⟩
structure Cp(X:Cx)(scope:Scope)(tgs:List Str)(ix:List Nat)(tg elt:Expr)(co:Option Expr)(bf:D->Sl->M Sl)(mc:Sl->M Bool)(me:Sl->M D):Prop where
 S:BScope X scope tgs ix
 hc:X.calm=true
 T:∃g,Tg tgs.length X.kw bf g/\∀fp C s H,PG (cxB X scope tgs fp C s H) tg g
 t:∀fp C s H,Rn (cxB X scope tgs fp C s H) co (tT X.kw mc)
 e:∀fp C s H,RE (cxB X scope tgs fp C s H) elt me
theorem aW(d:∀a,C a a)(e:∀a b c,C a b->C b c->C a c)(f:∀B Z b Z',mc B Z=some (b,Z')->C Z Z')(h:∀B Z b Z',me B Z=some (b,Z')->C Z Z')(c:Cp X scope tgs ix tg elt co bf mc me)(hi:PI X tg iter (tIX C X.kw src))(i:LV X.kw fin)(hn:tgs.length=n)(j:∀x,foldedSetIterable iter X.env x=pure x):RE X (.ListComp elt [⟨tg,iter,co.toList,0⟩] scope pos) (Bm n ix src bf mc me fin):=by
 obtain⟨g,T,k⟩:=c.T;exact RE.wk (Tb co c.S c.hc hi k T.gk c.t (λl C s H=>(c.e l C s H).pe) j) λ_ _ _=>XN d e T f h hn i
theorem aU(m:∀a,C a a)(o:∀a b c,C a b->C b c->C a c)(p:∀B Z b Z',mc B Z=some (b,Z')->C Z Z')(r:∀B Z b Z',me B Z=some (b,Z')->C Z Z')(c:Cp X scope tgs ix tg elt co bf mc me)(hi:PI X tg iter (tIX C X.kw src))(t:LV X.kw fin)(u:X.N.Nodup)(i:X.N[k]?=some y)(w:X.env.scope.names.lookup y=some .local)(hn:tgs.length=n)
  (j:swapsWith (.ListComp elt [⟨tg,iter,co.toList,0⟩] scope pos) (some (.Name y z)) d.line X.env=pure true) (A:∀x,foldedSetIterable iter X.env x=pure x):RS X (.Assign [.Name y z] (.ListComp elt [⟨tg,iter,co.toList,0⟩] scope pos) d) (AY (Bm n ix src bf mc me fin) (AO k)):=by
 obtain⟨g,T,E⟩:=c.T;refine RS.wk (M7 co (te:=tE X.kw me) u i w c.S c.hc hi E T.gk c.t (λF C s H=>(c.e F C s H).pe) j A) λQ O H h=>?_;obtain⟨Y,Z,B,f,U,Z',R,S,e,q⟩:=h;obtain⟨x,W,G,e⟩:=AI e;obtain⟨x5,w6,I,e⟩:=AI e;cases I;cases e;exact XN m o T p r hn t ⟨Y,Z,B,x,_,R,S,G,λJ L l N v P=>q J L l N _ ((S.ext l).set k P)⟩
theorem Ls(c:Cp X scope tgs ix tg elt co bf mc me)(hi:RI X tg iter src)(a:LV X.kw fin)(hn:tgs.length=n:=by rfl)(b:∀x,foldedSetIterable iter X.env x=pure x:=by intro _;rfl):RE X (.ListComp elt [⟨tg,iter,co.toList,0⟩] scope pos) (Bm n ix src bf mc me fin):=
 aW (λ_=>trivial) (λ_ _ _ _ _=>trivial) (λ_ _ _ _ _=>trivial) (λ_ _ _ _ _=>trivial) c (ap hi) a hn b
theorem OG(c:Cp X scope tgs ix tg elt co bf mc me)(hi:RI X tg iter src)(e:LV X.kw fin)(f:X.N.Nodup)(b:X.N[k]?=some y:=by rfl)(h:X.env.scope.names.lookup y=some .local:=by rfl)(hn:tgs.length=n:=by rfl)
  (d:swapsWith (.ListComp elt [⟨tg,iter,co.toList,0⟩] scope pos) (some (.Name y i)) a.line X.env=pure true:=by rfl) (j:∀x,foldedSetIterable iter X.env x=pure x:=by intro _;rfl):RS X (.Assign [.Name y i] (.ListComp elt [⟨tg,iter,co.toList,0⟩] scope pos) a) (AY (Bm n ix src bf mc me fin) (AO k)):=
 aU (λ_=>trivial) (λ_ _ _ _ _=>trivial) (λ_ _ _ _ _=>trivial) (λ_ _ _ _ _=>trivial) c (ap hi) e f b h hn d j
end
end Mi
namespace K15
open PySem L2 Mi Nk
open K13 (BK BV Bw By CF B0 CP CG CH Ce CI Ao Ad Aw BX Ai BN Bk Bq Be CK Bf)
open K16 (Bo Bn Bg Cj BW A2 Au A4 BM CC Aj Ar An BA Bb A3 d_NONE BO Eo Co)
noncomputable def EE(a:List D->M D):Sl->M (Fl×Sl):=
  (As (AE HX (AD (AE N8 (AD (AE a (AD (AA 0) AK)) AK)) AK)))
noncomputable def B6:List D->M D:=Az .drop 1 1 (EE Bb)
noncomputable def A9:List D->M D:=Az .drop 2 2 (Au BA B6)
noncomputable def Bh:List D->M D:=Az .drop 5 4 (BM BA B6 Ad)
end K15
namespace Mi
open PySem L2
mutual
def clB(k:Nat):D->Bool
 | .tup ds=>Do k ds
 | .lst ds=>Do k ds
 | .ref n=>Nat.blt n k
 |_=>true
def Do(k:Nat):List D->Bool
 |[]=>true
 |d::ds=>match clB k d with
  |true=>Do k ds
  |false=>false
end
noncomputable def W2(k:Nat):MO->Bool
 | .lst a=>Do k a
 | .dK l=>Do k (l.map (·.2))
 | .dC l=>Do k (l.map (·.2))
 | .ins _ l=>Do k (l.map (·.2))
 | .dP l=>Do k (l.map (·.1))&&Do k (l.map (·.2))
 | .exc _ _=>true
mutual
theorem Up:∀{d:D},clB k d=true->Cl k d
 | .tup a,h=>C2 h
 | .lst a,h=>C2 h
 | .ref n,h=>Nat.blt_eq.mp h
 | .non,_ | .bl _,_ | .int _,_ | .str _,_ | .ty _,_ | .scr _,_=>by trivial
theorem C2:∀{a:List D},Do k a=true->ClL k a
 |[],_=>by trivial
 |d::a,h=>by
  unfold Do at h;cases e:clB k d with
  |true=>rw[e] at h;exact⟨Up e,C2 h⟩
  |false=>simp_all
end
theorem W0(h:W2 k o=true):ClO k o:=by
 cases o with
 |lst a=>exact C2 h
 |dK l=>exact C2 h
 |dC l=>exact C2 h
 |ins _ l=>exact C2 h
 |dP l=>
  have h:(Do k (l.map (·.1))&&Do k (l.map (·.2)))=true:=h;rw[Bool.and_eq_true] at h;exact⟨C2 h.1,C2 h.2⟩
 |exc c n=>exact trivial
noncomputable def CS(k:Nat):Nat->Mh->Option Mh
 |0,_=>some []
 |_+1,[]=>none
 |n+1,o::Z=>match W2 k o with
  |true=>match CS k n Z with
   |some r=>some (o::r)
   |none=>none
  |false=>none
theorem El:∀{n:Nat} {Z r:Mh},CS k n Z=some r->(∃g,Z=r++g)/\List.length r=n/\∀o∈r,ClO k o
 |0,Z,r,h=>by cases h;simp_all
 |_+1,[],r,h=>by cases h
 |n+1,o::Z,r,h=>by
  unfold CS at h;split at h
  ·rename_i b;split at h
   ·rename_i e c;cases h;obtain⟨⟨g,rfl⟩,f,d⟩:=El c;refine⟨⟨g,rfl⟩,by simp_all,λp a=>?_⟩;rcases AAI.mp a with rfl|a
    ·exact W0 b
    ·exact d p a
   ·cases h
  ·cases h
noncomputable def Y5(Z:Mh)(b:How)(d:D)(w6:Mh):Option (D×Mh):=match b with
 | .all=>some (d,w6)
 | .drop=>match clB (List.length Z) d with
  |true=>match CS (List.length Z) (List.length Z) w6 with
   |some r=>some (d,r)
   |none=>none
  |false=>none
 | .frz=>match d with
  | .ref n=>match Nat.ble (List.length Z) n with
   |true=>match w6[n]? with
    |some (.lst a)=>match Do (List.length Z) a with
     |true=>match CS (List.length Z) (List.length Z) w6 with
      |some r=>some (.lst a,r)
      |none=>none
     |false=>none
    |_=>none
   |false=>none
  |d=>match clB (List.length Z) d with
   |true=>match CS (List.length Z) (List.length Z) w6 with
    |some r=>some (d,r)
    |none=>none
   |false=>none
theorem WR(h:Y5 Z l d' w6=some (d,Z')):(Z'=w6/\d=d')∨Eu Z w6 Z' d' d:=by
 have i:∀{d' d:D} {Z':Mh},(match clB (List.length Z) d' with|true=>(match CS (List.length Z) (List.length Z) w6 with|some r=>some (d',r)|none=>none)|false=>none)=some (d,Z')->Eu Z w6 Z' d' d:=by
  intro d' d Z' h;split at h
  ·rename_i b;split at h
   ·rename_i r c;cases h;obtain⟨g,a,f⟩:=El c;exact⟨g,by simp_all,λn o e=>.inr (by rw[a];exact f o (AAU e)),.inl ⟨rfl,by rw[a];exact Up b⟩⟩
   ·cases h
  ·cases h
 unfold Y5 at h;split at h
 ·simp_all
 ·exact .inr (i h)
 ·split at h
  ·split at h
   ·rename_i n m;split at h
    ·rename_i j k;split at h
     ·rename_i b;split at h
      ·rename_i r c;cases h;obtain⟨g,a,f⟩:=El c;exact .inr ⟨g,by simp_all,λn o e=>.inr (by rw[a];exact f o (AAU e)),.inr ⟨_,j,rfl,k,by rw[a];simp_all,rfl,by rw[a];exact C2 b⟩⟩
      ·cases h
     ·cases h
    ·cases h
   ·cases h
  ·exact .inr (i h)
noncomputable def Xo:Fl->Bool
 | .next=>true
 | .rt _=>true
 |_=>false
theorem UG(h:Xo f=true):f=.next∨∃d,f=.rt d:=by
 cases f with
 |next=>exact .inl rfl
 |rt d=>exact .inr ⟨d,rfl⟩
 |_=>cases h
noncomputable def HJ(c:How)(n d:Nat)(e:Sl->M (Fl×Sl)):List D->M D:=λa Z=>match Nat.beq (List.length a) d with
 |true=>match e (Bc n a) Z with
  |some ((b,_),f)=>match Xo b with
   |true=>Y5 Z c (Ef b) f
   |false=>none
  |none=>none
 |false=>none
theorem J5(h:HJ i n b c ds Z=some (d,Z')):
  ds.length=b/\∃a x3 w6,c (Bc n ds) Z=some ((a,x3),w6)/\(a=.next∨∃d,a=.rt d)/\((Z'=w6/\d=Ef a)∨Eu Z w6 Z' (Ef a) d):=by
 unfold HJ at h;split at h
 ·rename_i f;split at h
  ·rename_i a x3 w6 e;split at h
   ·rename_i g;exact⟨Nat.eq_of_beq_eq_true f,a,x3,w6,e,UG g,WR h⟩
   ·cases h
  ·cases h
 ·cases h
section
variable{P:Program}{w:World}{K:PySem.W.Frag}{mg:Str->Option Value}{base:Heap}
theorem RV(J:How)(F:Fun K x g n f L)(S:Ab N o (AQ n))
  (m:∀(b:Value) (A:Around) (a:List Env) (s:Shared) (H:Hp) (E:XK),Room k (A.deeper (PyProof.Rows.envOfC g (AQ n) s.heap.objs.size f b))->RSs (HH CX0 P w K mg base N g (AQ n) f b A a s H E).nox (Cb n) O) :
  FnOk P w K mg base CX0 (k+1) f L o (spM ⟨K,w⟩ o.length (HJ J N.length o.length O)):=by
 refine F.ok S (λT H Q E h=>h.1) λb A a s H T Q E U h=>⟨_,(m b A a s H E U).pe,?_⟩;obtain⟨hl,Y,Z,ds,d,p,R,i,e,q⟩:=h;obtain⟨_,y,W,B,X,r,t⟩:=J5 e;refine⟨Y,Z,_,y,W,B,R,RelS.start i,X,λj l C R2 u5 S2=>?_⟩;have z:Ext Y Z.length H j p.length l/\RelH ⟨K,w⟩ j p l/\∀v,Is ⟨K,w⟩ j B.length l (Ef y) v->Is ⟨K,w⟩ j p.length l d v:=by
  rcases t with ⟨rfl,rfl⟩|t
  ·exact⟨C,R2,λv u=>u⟩
  ·exact Gh R C R2 t
 obtain⟨G,I,c⟩:=z;rcases r with rfl|⟨d0,rfl⟩
 ·exact q j l G I _ (c _ (by trivial))
 ·exact λv u=>q j l G I v (c v u)
theorem Jq(i:How)(F:Fun K x a e f j)(S:Ab N g (AQ e))(l:mg x=some (.ref f))(m:Binds K j g [])
  (c:∀(d:Value) (A:Around) (b:List Env) (s:Shared) (H:Hp) (E:XK),Room k (A.deeper (PyProof.Rows.envOfC a (AQ e) s.heap.objs.size f d))->RSs (HH CX0 P w K mg base N a (AQ e) f d A b s H E).nox (Cb e) n) :
  Fn P w K mg base x g (k+1) (HJ i N.length g.length n):=⟨λo Z r h=>(J5 h).1,f,j,RV i F S c,l,F.kp,m⟩
end
noncomputable def EV(w6:Mh)(k:Nat):Nat->D->D
 |0,d=>d
 |n+1,.ref j=>match Nat.ble k j with
  |true=>match w6[j]? with
   |some (.lst a)=>.lst (a.map (EV w6 k n))
   |_=>.ref j
  |false=>.ref j
 |n+1,.tup a=>.tup (a.map (EV w6 k n))
 |n+1,.lst a=>.lst (a.map (EV w6 k n))
 |_+1,d=>d
theorem Il(h:∀d v,Is K Y k H d v->Cl a (f d)->Is K Y a H (f d) v):∀{ds:List D} {e:List V},IsL K Y k H ds e->ClL a (ds.map f)->IsL K Y a H (ds.map f) e
 |[],_,i,_=>by subst i;rfl
 |d::ds,_,i,c=>by
  obtain⟨v,b,rfl,g,j⟩:=i;exact⟨v,b,rfl,h d v g c.1,Il h j c.2⟩
theorem MD(a:k<=w6.length)(R:RelH K Y w6 H):∀(n:Nat) (d:D) (v:V),Is K Y w6.length H d v->Cl k (EV w6 k n d)->Is K Y k H (EV w6 k n d) v
 |0,d,v,i,c=>i.down a c
 |n+1,.tup o,v,i,c=>by
  unfold EV at c ⊢;obtain⟨p,b,e,q,f⟩:=i;exact⟨p,b,e,q,Il (MD a R n) f c⟩
 |n+1,.lst o,v,i,c=>by
  unfold EV at c ⊢;unfold Is at i ⊢;obtain⟨p,b,e,q,r,f⟩:=i;exact⟨p,b,e,q,λm h=>r m (AAM h a),Il (MD a R n) f c⟩
 |n+1,.ref j,v,i,c=>by
  unfold EV at c ⊢;split
  ·rename_i g;rw[g] at c;have g:=Nat.le_of_ble_eq_true g;dsimp at c;split
   ·rename_i o e;rw[e] at c;obtain⟨u,q,b,rfl,f⟩:=R.obj j _ e;have l  := (AAT.mp e).1;refine⟨Y j,b,i.2,q,λm h z=>?_,Il (MD a R n) f c⟩;have:=R.inj m j (AAM h a) l z;lia
   ·rename_i s;have c:Cl k (.ref j):=by simp_all
    exact i.down a c
  ·rename_i g;rw[g] at c;exact i.down a c
 |n+1,.non,v,i,c=>i.down a c
 |n+1,.bl _,v,i,c=>i.down a c
 |n+1,.int _,v,i,c=>i.down a c
 |n+1,.str _,v,i,c=>i.down a c
 |n+1,.ty _,v,i,c=>i.down a c
 |n+1,.scr _,v,i,c=>i.down a c
open Classical in
noncomputable def J4(n f:Nat)(g:Sl->M (Fl×Sl)):List D->M D:=λe Z=>match g (Bc n e) Z with
 |some ((c,_),b)=>if e.length=f/\(c=.next∨∃d,c=.rt d)/\Eu Z b (b.take Z.length) .non .non/\Cl Z.length (EV b Z.length 8 (Ef c)) then some (EV b Z.length 8 (Ef c),b.take Z.length) else none
 |none=>none
theorem J3(h:J4 n f g ds Z=some (d,Z')):
  ds.length=f/\∃a x3 w6,g (Bc n ds) Z=some ((a,x3),w6)/\(a=.next∨∃d,a=.rt d)/\Z'.length=Z.length/\Eu Z w6 Z' .non .non/\d=EV w6 Z'.length 8 (Ef a)/\Cl Z'.length d:=by
 unfold J4 at h;split at h
 ·rename_i a x3 w6 e;split at h
  ·rename_i c;cases h;have b:(w6.take Z.length).length=Z.length:=by
    have:=c.2.2.1.le
    grind
   exact⟨c.1,a,x3,w6,e,c.2.1,b,c.2.2.1,by rw[b],by rw[b];exact c.2.2.2⟩
  ·cases h
 ·cases h
theorem Nj(e:b (Bc n ds) Z=some ((.rt d,x3),w5++g))(f:ds.length=h)(t:Eu Z (w5++g) w5 .non .non)(i:w5.length=Z.length)(c:Cl Z.length (EV (w5++g) Z.length 8 d)):
  J4 n h b ds Z=some (EV (w5++g) Z.length 8 d,w5):=by
 have a:(w5++g).take Z.length=w5:=by simp_all
 unfold J4;rw[e];dsimp;rw[if_pos ⟨f,.inr ⟨d,rfl⟩,by rw[a];exact t,c⟩,a];rfl
section
variable{P:Program}{w:World}{K:PySem.W.Frag}{mg:Str->Option Value}{base:Heap}
theorem NU(F:Fun K x j m f C)(S:Ab N p (AQ m))(U:mg x=some (.ref f))(W:Binds K C p [])
  (l:∀(b:Value) (A:Around) (a:List Env) (s:Shared) (H:Hp) (E:XK),Room k (A.deeper (PyProof.Rows.envOfC j (AQ m) s.heap.objs.size f b))->RSs (HH CX0 P w K mg base N j (AQ m) f b A a s H E).nox (Cb m) X) :
  Fn P w K mg base x p (k+1) (J4 N.length p.length X):=by
 refine⟨λds Z r h=>(J3 h).1,f,C,F.ok S (λvs H Q E h=>h.1) λb A a s H vs Q E hr h=>⟨_,(l b A a s H E hr).pe,?_⟩,U,F.kp,W⟩;obtain⟨hl,Y,Z,ds,d,G,R,i,e,q⟩:=h;obtain⟨_,I,x3,u,e2,y,J,t,ed,c⟩:=J3 e;refine⟨Y,Z,_,I,x3,u,R,RelS.start i,e2,λn o E2 R2 u5 S2=>?_⟩;obtain⟨L,O,_⟩:=Gh R E2 R2 t;have z:G.length<=u.length:=by
  obtain⟨⟨g,hg⟩,_⟩:=t;rw[hg];simp
 have T:∀v,Is ⟨K,w⟩ n u.length o (Ef I) v->Is ⟨K,w⟩ n G.length o d v:=λv B=>by
  rw[ed] at c ⊢;exact MD z R2 8 _ v B c
 rcases y with rfl|⟨d0,rfl⟩
 ·exact q n o L O _ (T _ (by unfold Ef Is;rfl))
 ·exact λv B=>q n o L O v (T v B)
end
end Mi
namespace K93
open PySem L2 Mi Nk
open K13 (BK BV Bw By CF B0 CP CG CH Ce CI Ao Ad Aw BX Ai BN Bk Bq Be CK Bf)
open K16 (Bo Bn Bg Cj BW A2 Au A4 BM CC Aj Ar An BA Bb A3 d_NONE BO Eo Co)
open K15 (EE B6 A9 Bh)
noncomputable def EI:List D->M D:=λ_=>Bj
noncomputable def BY:List D->M D:=Az .drop 4 3 (A2 Ar B6 EI)
noncomputable def BL:List D->M D:=Az .drop 4 3 (A4 Ar B6 EI Ad)
noncomputable def A8:List D->M D:=Az .drop 5 3 (Aj BY A9 BL Bh)
noncomputable def CT:List D->M D:=Az .drop 4 2 (CC Ao Ai A8)
end K93
namespace Nk
open PySem PySem.Spec PyProof.Rows Ht
section
variable{prog:Program}{w:World}{A:Around}{E:Value->Shared->Prop}{s:Shared}{d I:Addr}{o:Obj}{es:Array DictEntry}{ep:Nat}
theorem NB(N:A.handled=none)(hI:IsItemIter s.heap I d i es.size ep O P)(Z:s.heap.get? d=some o)(B:o.data=.dict es ep)
  (j:∀(hi:i<es.size) (f:Heap),IsItemIterOut f I d (i+1) es.size ep es[i].key es[i].val s.heap.objs.size->f.get? s.heap.objs.size=some { cls:=.type "tuple",data:=.seq #[es[i].key,es[i].val] }->(∀b o,b≠I->s.heap.get? b=some o->f.get? b=some o)->Q (some (.ref s.heap.objs.size)) { s with heap:=f })
  (l:es.size<=i->∀f,Heap.ExtBut I s.heap f->Q none { s with heap:=f }):wpAny (model prog w) A (pyNext (.ref I)) Q E s:=by
 have m:s.TypeIs (.ref I) "dict_itemiterator" := ⟨_,hI,rfl⟩;have C:∀{A:Around} {s:Shared} {E:Value->Shared->Prop} {R:String->Shared->Prop},s.TypeIs (.ref I) "dict_itemiterator" -> R "dict_itemiterator" s->wpAny (model prog w) A (typeNameOfWhole (.ref I)) R E s:=λt r=>wpAny_typeNameOfWhole_itemiter t r;unfold pyNext;refine AAA (wpAny_attempt (wpAny_callSpecial?_slot (name:=Str.ofString "__next__") m PySem.F.slot_dict_itemiterator_next (AAb PySem.F.slot_dict_itemiterator_next m PySem.F.entry_dict_itemiterator_next ?_ (PySem.F.args_dict_itemiterator_next_1 _))))
 wp_walk
 rw[B]
 wp_walk
 rw[B];refine AAB ?_;rw[if_neg (by simp)];refine AAB ?_;have key:(if (i:Int)<0 then none else es[(i:Int).toNat]?)=es[i]?:=by rw[if_neg (by lia),Int.toNat_natCast]
 dsimp only;rw[key];cases e:es[i]? with
 |some x=>
  have hi:i<es.size:=(Array.getElem?_eq_some_iff.mp e).1;have S:es[i]=x:=(Array.getElem?_eq_some_iff.mp e).2;refine AAA (AAA (C m (AAB ?_)));refine AAA (wpAny_isOneOf_itemiter m ?_);rw[if_pos (by decide),if_neg (by decide +kernel)];refine AAA (AAo hI (by simp) λg u s1=>?_);have T1:Shared.TypeIs { s with heap:=g } (.ref I) "dict_itemiterator" := ⟨_,u,rfl⟩;refine AAA (AAn (AAA (wpAny_isOneOf_itemiter T1 ?_)));rw[if_neg (by decide)];refine AAA (wpAny_isOneOf_itemiter T1 ?_);rw[if_neg (by decide)];unfold Builtin.Dict_items.pairFromOwner Builtin.Dict_items.ownedTupleIsFree;refine AAA (wpAny_newTuple ?_);have gp:∀{b:Addr} {h:Obj},g.get? b=some h->(g.push { cls:=.type "tuple",data:=.seq #[x.key,x.val] }).get? b=some h:=λz=>AAC _ z;have sz:g.objs.size=s.heap.objs.size:=s1.1;have n  := gp (by simpa[rawInt] using u);have J:(g.push { cls:=.type "tuple",data:=.seq #[x.key,x.val] }).get? s.heap.objs.size=some { cls:=.type "tuple",data:=.seq #[x.key,x.val] }:=by rw[←sz];exact AAD _ rfl
  have v:I<s.heap.objs.size:=Heap.lt_size hI;have L:∀b h,b≠I->s.heap.get? b=some h->(g.push { cls:=.type "tuple",data:=.seq #[x.key,x.val] }).get? b=some h:=λb h c z=>gp ((s1.2 b c).trans z);dsimp only;rw[sz];generalize g.push { cls:=.type "tuple",data:=.seq #[x.key,x.val] }=U at n J L ⊢;refine AAA (AAA (AAs n rfl (x:=.none) rfl (AAB ?_)));rw[if_pos rfl];refine AAA (AAs n rfl (x:=O) rfl (AAA (AAs n rfl (x:=P) rfl ?_)));refine AAA (AAo n (by simp) λh3 V s3=>AAA (AAo V (by simp) λh4 W s4=>AAA (AAo W (by simp) λh5 X s5=>AAA (AAo X (by simp) λy Y s6=>AAA (wpAny_letGo (AAB ?_))))));refine AAB ⟨_,rfl,AAB ?_⟩;have M:∀b,b≠I->y.get? b=U.get? b:=λb c=>(s6.2 b c).trans ((s5.2 b c).trans ((s4.2 b c).trans (s3.2 b c)));subst S;refine j hi y (by show y.get? I=_;simpa[rawInt] using Y) ((M _ (Nat.ne_of_gt v)).trans J) λb h c z=>(M b c).trans (L b h c z)
 |none=>
  refine AAA (AAA (C m (AAB ?_)));rw[if_pos (by decide)];refine AAA (AAo hI (by simp) λg u s1=>?_);refine GY (A:=A.in1) (s:={ s with heap:=g }) N λa f k t=>?_;refine AAA (wpAny_isInstance (T := "StopIteration") (b:=true) t isSubtype_stop ?_);exact AAB (l (by simpa using e) f λb o c e=>k b o (s1.extBut b o c e))
theorem IC(t:A.handled=none)(n:d≠I)(u:o.data=.dict es ep):WalksT prog w A I [I,d] [I] es.size (λi p=>∃e,es[i]?=some e/\p=#[e.key,e.val]) (λi h=>(∃c f,IsItemIter h I d i es.size ep c f)/\h.get? d=some o)
  (λi T h=>T≠I/\(∃c f,IsItemIterOut h I d (i+1) es.size ep c f T)/\h.get? d=some o) where
 sub:=λb j=>by rw[AAK.mp j];exact AAP
 frame:=λi h m st k=>by
  obtain⟨⟨c,f,st⟩,a⟩:=st;exact⟨⟨c,f,k I AAP _ st⟩,k d (by simp) _ a⟩
 item:=λi s Q E y st q=>by
  obtain⟨⟨c,f,st⟩,a⟩:=st;exact NB t st a u (λl m B C k=>q _ _ m s.toks ⟨es[i],Array.getElem?_eq_getElem l,rfl⟩ (AAE _) ⟨_,C,rfl,_,rfl⟩ ⟨Nat.ne_of_gt (Heap.lt_size st),⟨_,_,B⟩,k d o n a⟩ λb o j=>k b o (λz=>j (by rw[z];exact List.mem_singleton_self _))) λz=>absurd y (Nat.not_lt.mpr z)
 go:=λv k D i T s Q E hm q=>by
  obtain⟨G,⟨c,f,g⟩,r⟩:=hm;exact wpAny_letOwnedTupleGo_items g λm F hs=>q m ⟨⟨c,f,F⟩,(hs.2 d n).trans r⟩ λb o j=>(hs.2 b λz=>j (by rw[z];exact List.mem_singleton_self _)).trans
 apart:=λi T h hm z=>hm.1 (AAK.mp z)
 done:=λs Q E st q=>by
  obtain⟨⟨c,f,st⟩,a⟩:=st;exact NB t st a u (λl=>absurd l (AAv _)) λ_ m k=>q m s.toks λb o j=>k b o (λz=>j (by rw[z];exact List.mem_singleton_self _))
 self:=λi s Q E st q=>by
  obtain⟨⟨c,f,st⟩,a⟩:=st;exact PySem.W.kcp_self st q
end
open L2
section
variable{prog:Program}{w:World}{A:Around}{E:Value->Shared->Prop}{s:Shared}{d vw:Addr}{o:Obj}{es:Array DictEntry}{ep:Nat}
noncomputable abbrev vwO(n:String)(d:Addr):Obj:={ cls:=.type n,data:=.fields #[.ref d] }
theorem O1(lo:(d==sysModules)=false)(a:s.heap.get? d=some o)(ex:o.ExactDict)(q:Q (.ref s.heap.objs.size) { s with heap:=s.heap.push (vwO "dict_items" d) }):wpAny (model prog w) A (call (.builtin "dict.items") [.ref d]) Q E s:=by
 have b:s.TypeIs (.ref d) "dict" := ⟨o,a,ex.1⟩;refine AAb PySem.F.slot_dict_items b PySem.F.entry_dict_items ?_ (PySem.F.args_dict_items_1 _)
 wp_walk
 rw[if_neg (by rw[ex.1];decide)]
 wp_walk
 exact⟨_,rfl,q⟩
theorem UD(c:s.heap.get? vw=some (vwO "dict_items" d))(e:s.heap.get? d=some o)(a:o.data=.dict es ep)
  (q:Q (.ref s.heap.objs.size) { s with heap:=s.heap.push { cls:=.type "dict_itemiterator",data:=.fields #[.none,.bool false,.ref d,.int 0 0,.int es.size 0,.int ep 0,.none,.none] } }):wpAny (model prog w) A (pyIter (.ref vw)) Q E s:=by
 have b:s.TypeIs (.ref vw) "dict_items" := ⟨_,c,rfl⟩;refine wpAny_pyIter_slot b PySem.F.slot_dict_items_iter (AAb PySem.F.slot_dict_items_iter b PySem.F.entry_dict_items_iter ?_ (PySem.F.args_dict_items_iter_1 _))
 wp_walk
 rw[a]
 wp_walk
 rw[a]
 wp_walk
 rw[if_pos (by decide)];exact⟨_,rfl, "dict_itemiterator",_,⟨_,AAD _ rfl,rfl⟩,PySem.F.slot_dict_itemiterator_next.lookup,q⟩
end
noncomputable def itI(p:Addr)(n:Nat):It:=⟨λi H=>i<n/\∃r,r.length=n/\H p=some (Ca p r),λi H v b=>∃T a x,H T=none/\v=.ref T/\b=upd H T (.tup [.ref a,x])/\∀r,H p=some (Ca p r)->∃c,r[i]?=some (c,a,x),λi H=>i=n/\∃r,r.length=n/\H p=some (Ca p r)⟩
theorem OC{l:List (Cs×Addr×V)}{b:List Value}{es:Array DictEntry}{i:Nat}{e:DictEntry}(k:l.length=b.length)(d:es.toList=(l.zip b).map (λx=>{ key:=.ref x.1.2.1,hash:=(csK x.1.1).hash,val:=x.2 }))(f:es[i]?=some e):∃c a x,l[i]?=some (c,a,x)/\b[i]?=some e.val/\e.key=.ref a:=by
 have h:es.toList[i]?=some e:=by rw[Array.getElem?_toList];exact f
 rw[d,AAV] at h;cases z:(l.zip b)[i]? with
 |none=>simp_all
 |some y=>
  rw[z] at h;cases h;obtain⟨g,j⟩:=List.getElem?_zip_eq_some.mp z;exact⟨_,_,_,g,j,rfl⟩
theorem N2{P:Program}{w:World}{K:PySem.W.Frag}{es:List Expr}{k0:Nat}{d p:Addr}{n:Nat}(t:p≠d):
  MU P w K (.Tuple es k0 pos) (itI p n) [d] d (λi h=>∃f g,IsItemIter h d p i n n f g) where
 mem:=List.mem_singleton_self _
 obj:=λi h st b L=>by
  obtain⟨f,g,st⟩:=st;rw[AAK.mp L];exact⟨_,st,λv z=>by cases z⟩
 keep:=λi h M st k=>by
  obtain⟨f,g,st⟩:=st;exact⟨f,g,k d (List.mem_singleton_self _) _ st⟩
 item:=by
  intro X hP hw hK N i w4 s O H E I y st R;obtain⟨S,r,U,Y⟩:=R;obtain⟨f,g,st⟩:=st;obtain⟨us,o,es,Z,D,F,h2,G,J,h5,h6,h7,h8⟩:=FQ I.hok Y;have hl  := by have:=D.length;simpa using this
  have j:es.size=n:=by rw[←Array.length_toList,J,AAF,List.length_zip];lia
  have l:Z=n:=h8.trans U;subst l;have W:=IC (prog:=P) (w:=w) (A:=X.A) (I:=d) (I.ok.hd N) t G;rw[j] at W;refine W.item i s _ _ S ⟨⟨f,g,st⟩,F⟩ λT B M tk hpt hT ht hm kk=>⟨_,rfl,?_⟩;have I1:Inv X w4 O H { s with heap:=M,toks:=tk }:=I.turnedL kk y;refine W.go _ k0 pos i T _ _ _ hm λh2' m C=>?_;have I2  := I1.turnedL (t':=tk) C y;have hn  := I.hok.fresh hT;have ht2:IsTup h2' T B:=by
   obtain⟨o,e,r⟩:=ht;exact⟨o,C T o (W.apart i T _ hm) e,r⟩
  obtain⟨e,he,rfl⟩:=hpt;obtain⟨c,a,x,e1,e2,e3⟩:=OC hl J he;obtain⟨u,e4,rx⟩:=D.get (x:=x) (i:=i) (by rw[AAV,e1];rfl);rw[e2] at e4;cases e4;refine⟨.ref T,upd H T (.tup [.ref a,x]),I2.track (I.fpOk hT hn) ⟨by show 2<=sizeLine;decide,#[e.key,e.val].toList,.cons e3 (.cons rx .nil),by simpa using ht2⟩,rfl,⟨T,a,x,hn,rfl,rfl,λr' hp'=>?_⟩,?_,λb L=>?_⟩
  ·obtain⟨us',o',es',ep',g0,g1,g2,g3,g4,g5,g6,g7,g8⟩:=FQ I.hok hp';rw[F] at g1;cases g1;rw[G] at g3;cases g3;have gl  := by have:=g0.length;simpa using this
   obtain⟨c',a',x',f1,f2,f3⟩:=OC gl g4 he;obtain⟨u',f4,rx'⟩:=g0.get (x:=x') (i:=i) (by rw[AAV,f1];rfl);rw[f2] at f4;cases f4;rw[e3] at f3;cases f3;exact⟨c',by rw[f1,rx.inj rx']⟩
  ·obtain⟨m,_⟩:=m;exact m
  ·rw[AAK.mp L];have hbT:d≠T:=λz=>W.apart i T _ hm (by rw[←z];exact List.mem_singleton_self _);rw[upd_ne hbT];exact(y d (List.mem_singleton_self _)).1
 done:=by
  intro X hP hw hK N i w4 s O H E I y st R;obtain⟨S,r,U,Y⟩:=R;obtain⟨f,g,st⟩:=st;subst S;obtain⟨us,o,es,Z,D,F,h2,G,J,h5,h6,h7,h8⟩:=FQ I.hok Y;have hl:r.length=us.length:=by have:=D.length;simpa using this
  have j:es.size=i:=by rw[←Array.length_toList,J,AAF,List.length_zip];lia
  have l:Z=i:=h8.trans U;subst l;have W:=IC (prog:=P) (w:=w) (A:=X.A) (I:=d) (I.ok.hd N) t G;rw[j] at W;exact W.done s _ _ ⟨⟨f,g,st⟩,F⟩ λM tk kk=>⟨rfl,I.turnedL kk y⟩
 self:=λA i s Q E st q=>by
  obtain⟨f,g,st⟩:=st;exact PySem.W.kcp_self st q
section
variable{X:Cx}{es:List Expr}{k0:Nat}{tpos apos cpos:Pos}{o:Expr}
noncomputable def cj(b:TE):TI:=λO H R=>b O H λx a=>∃p l,x=.ref p/\a p=some (Ca p l)/\R (itI p l.length) a
theorem Qz(r:PE X o t)(c:attributeBase o "items" X.env (eval o X.env)=eval o X.env:=by rfl)(d:(apos.endLine==cpos.line)=true:=by rfl):PI X (.Tuple es k0 tpos) (.Call (.Attribute o "items" apos) [] [] cpos) (cj t):=by
 intro u s O H R I h;refine wpAny_Call_method0_late c d (thn (r u s O H _ I h) λv g ⟨x,w,i,y,z⟩=>?_);obtain⟨p,l,rfl,A,q⟩:=z;cases y;obtain⟨L,o,es,M,B,f,h2,D,E,N,P,F,G⟩:=FQ i.hok A;have Q  := by have:=B.length;simpa using this
 have j:es.size=l.length:=by rw[←Array.length_toList,E,AAF,List.length_zip];lia
 refine⟨"dict", "dict.items",PySem.F.plainAttrs_dict,PySem.F.slot_dict_items,PySem.F.type_dict_items,⟨o,f,h2.1⟩,λa e=>?_,Calls.callWith_builtin rfl (PySem.evalArgs_none (O1 F f h2 ?_))⟩
 ·cases e;exact⟨o,f,h2.2.1⟩
 subst G;have k  := Heap.lt_size f;have m:(g.heap.push (vwO "dict_items" p)).objs.size=g.heap.objs.size+1:=Heap.size_push ..;refine UD (AAD _ rfl) (AAC _ f) D ?_;have n:g.heap.objs.size<=(g.heap.push (vwO "dict_items" p)).objs.size:=by rw[m];exact Nat.le_succ _
 refine⟨_,[_],_,_,w,rfl,i.kept λb o e=>AAC _ (AAC _ e),N2 (by rw[m];exact AAc (AAg k)),⟨.none,.none,?_⟩,λb J=>?_,q⟩
 ·rw[←j];exact AAD _ rfl
 ·rw[AAK.mp J];exact i.fpOk n (i.hok.fresh n)
end
end Nk
namespace Mi
open PySem L2 Ht Nk
noncomputable def FZ(n:Nat)(l:List (Cs×D)):M Unit:=λZ=>match Z[n]? with
 |some (.dC a)=>if a=l then some ((),Z) else none
 |_=>none
theorem N7(e:FZ n l Z=some (u,Z')):Z'=Z/\Z[n]?=some (.dC l):=by
 unfold FZ at e;split at e
 ·simp_all
 ·cases e
noncomputable def NS(n:Nat)(l:List (Cs×D))(bf:D->Sl->M Sl)(a:Sl->M (Fl×Sl)):List (Cs×D)->Sl->M (Fl×Sl)
 |[],B=>bnd (FZ n l) λ_=>ret (.next,B)
 |y::r,B=>bnd (FZ n l) λ_=>bnd (bf (.tup [csD y.1,y.2]) B) λb=>bnd (a b) λr2=>match r2.1 with
   | .next=>NS n l bf a r r2.2
   | .cont=>NS n l bf a r r2.2
   | .brk=>ret (.next,r2.2)
   | .rt d=>ret (.rt d,r2.2)
   | .xc x=>ret (.xc x,r2.2)
noncomputable def Ss(m:Sl->M D)(bf:D->Sl->M Sl)(a:Sl->M (Fl×Sl)):Sl->M (Fl×Sl):=λB=>bnd (m B) λx=>bnd (GJ x) λr=>NS r.1 r.2 bf a r.2 B
theorem CVs.row:∀{l:List (Cs×D)} {r:List (Cs×Addr×V)} {i:Nat} {y:Cs×D},CVs K Y k H l r->l[i]?=some y->∃a x,r[i]?=some (y.1,a,x)/\Is K Y k H (csD y.1) (.ref a)/\Is K Y k H y.2 x
 |[],_,_,_,_,e=>by cases e
 |z::l,r,0,y,h,e=>by
  cases e;obtain⟨a,x,b,rfl,c,d,_⟩:=h;exact⟨a,x,rfl,c,d⟩
 |z::l,r,i+1,y,h,e=>by
  obtain⟨a,x,b,rfl,_,_,f⟩:=h;exact CVs.row (i:=i) f e
theorem CVs.len(h:CVs K Y k H l r):r.length=l.length:=by
 have:=congrArg List.length h.keys
 simp_all
section
variable{X:Cx}{es:List Expr}{k0:Nat}{tpos apos cpos pos:Pos}{o:Expr}{body:List Stmt}
theorem Pf(hp:PassesOwn (model X.prog X.w) X.A X.env X.xe)(hc:X.calm=true)(hi:RE X o m)(hg:RG X (.Tuple es k0 tpos) bf)(hb:RSs X body mb)
  (hs:∀x,foldedSetIterable (.Call (.Attribute o "items" apos) [] [] cpos) X.env x=pure x:=by intro _;rfl) (k:attributeBase o "items" X.env (eval o X.env)=eval o X.env:=by rfl) (p:(apos.endLine==cpos.line)=true:=by rfl):RS X (.For (.Tuple es k0 tpos) (.Call (.Attribute o "items" apos) [] [] cpos) body [] pos) (Ss m bf mb):=RS.wk (OJ hp hc (Qz hi.pe k p) hg.pe hb.pe hs) λDn O H h=>by
 obtain⟨Y,Z,B,f,j,g,R,S,e,q⟩:=h;obtain⟨x,w5,e1,e2⟩:=AI e;obtain⟨⟨n,l⟩,w6,e3,e4⟩:=AI e2;refine⟨Y,Z,B,x,w5,R,S,e1,λQ H1 E1 R1 v i1=>?_⟩;obtain⟨hm,rfl,g1,rfl,r0,g2,g3⟩:=Cr R1 i1 e3;subst hm;have hk  := (AAT.mp g1).1;refine⟨_,r0,rfl,g2,?_⟩;have el:r0.length=l.length:=g3.len
 let W  := λi m O H=>m+i=l.length/\∃Y Z B f j g,RelH X.kw Y Z H/\RelS X.kw Y Z.length H B O/\n<Z.length/\Y n=Q n/\NS n l bf mb (l.drop i) B Z=some ((f,j),g) /\
  Aft X.kw Y Z H g λY' H'=>∀O',RelS X.kw Y' g.length H' j O'->FlP X.kw Dn Y' g.length H' j O' f
 refine⟨W,⟨l.length,rfl,Q,w6,B,f,j,g,R1,S.ext E1,hk,rfl,by rw[List.drop_zero];exact e4,λw9 H2 s=>q w9 H2 (E1.trans s)⟩,?_⟩;rintro i m O H ⟨hmi,Y,Z,B,f,j,g,R,S,hn,en,e,q⟩;have C:∀{u:Unit} {t:Mh},FZ n l Z=some (u,t)->t=Z/\∃r,H (Q n)=some (Ca (Q n) r)/\CVs X.kw Y Z.length H l r:=λ{u t} z=>by
  obtain⟨z1,A⟩:=N7 z;obtain⟨w,hw,r,rfl,hr⟩:=R.obj n _ A;rw[en] at hw;exact⟨z1,r,hw,hr⟩
 cases m with
 |zero=>
  rw[List.drop_eq_nil_of_le (by lia)] at e;obtain⟨u,t,z,ee⟩:=AI e;obtain⟨rfl,r,A,U⟩:=C z;cases ee;exact .inl ⟨⟨by lia,r,by rw[U.len,el],A⟩,q Y H R.ext0 R O S⟩
 |succ m=>
  have E:i<l.length:=by lia
  rw[List.drop_eq_getElem_cons E] at e;obtain⟨u,t,z,ee⟩:=AI e;obtain⟨rfl,r,A,U⟩:=C z;refine .inr ⟨⟨by lia,r,by rw[U.len,el],A⟩,W (i+1) m,λO' H' z=>⟨_,Nat.lt_succ_self _,z⟩,λy H2 yl=>?_⟩;obtain⟨T,a,x,hT,rfl,rfl,yl⟩:=yl;obtain⟨c,F⟩:=yl r A;obtain⟨a',x',f1,f2,f3⟩:=U.row (AAr E);rw[f1] at F;cases F;obtain⟨s,R2⟩:=R.laid (.tup [.ref a,x]) hT;have it:Is X.kw Y t.length (upd H T (.tup [.ref a,x])) (.tup [csD l[i].1,l[i].2]) (.ref T):=by
   unfold Is;exact⟨T,[.ref a,x],rfl,SqT.of Br,.cons (f2.ext s) (.one (f3.ext s))⟩
  obtain⟨x5,u4,e1,ea⟩:=AI ee;obtain⟨⟨G,x3⟩,v8,e2,I⟩:=AI ea;refine⟨Y,_,B,_,x5,u4,R2,S.ext s,it,e1,λx8 H3 E3 R3 u8 S3=>⟨x8,u4,x5,G,x3,v8,R3,S3,e2,λJ H4 E4 K v7 L=>?_⟩⟩;have b:=(s.trans E3).trans E4;have N  := AAM hn b.le;have P  := (b.agree n hn).trans en;cases G with
  |next=>exact⟨by lia,J,v8,x3,f,j,g,K,L,N,P,I,λu6 H5 E5 R5=>q u6 H5 (b.trans E5) R5⟩
  |cont=>exact⟨by lia,J,v8,x3,f,j,g,K,L,N,P,I,λu6 H5 E5 R5=>q u6 H5 (b.trans E5) R5⟩
  |brk=>cases I;exact q J H4 b K v7 L
  |rt d=>cases I;exact q J H4 b K v7 L
  |xc x=>cases I;exact q J H4 b K v7 L
end
end Mi
namespace Nk
open PySem PySem.Spec PyProof.Rows Ht L2
section
variable{prog:Program}{w:World}{A:Around}{E:Value->Shared->Prop}{s:Shared}{env:Env}
noncomputable abbrev Ts:Obj:={ cls:=.type "dict",data:=.dict #[] }
theorem Ue(h:wpAny (model prog w) A (eval k env) (λa b=>wpAny (model prog w) A (eval v env) (λc d=>wpAny (model prog w) A (dictSet s.heap.objs.size a c) (λ_ f=>Q (.ref s.heap.objs.size) f) E d) E b) E { s with heap:=s.heap.push Ts }):
  wpAny (model prog w) A (eval (.Dict [some k] [v] pos) env) Q E s:=by
 rw[arm_eval_Dict,zip_pairTrees [some k] [v] env pos rfl rfl,dictDisplay_pairs _ (λz=>by cases z) (by show 1<17;decide)];refine AAA (wpAny_standAt (AAA ?_));unfold subDict;refine AAA (wpAny_alloc (AAA (AAn (AAA (pairTrees_cons_walk (AAh h (λa b g=>AAh g (λc d i=>pairTrees_nil_walk (AAn (AAA ?_))) λ_ _ e=>e) λ_ _ e=>e))))));rw[List.forIn_cons];refine AAA (AAA (AAh i (λ_ f q=>AAB ?_) λ_ _ e=>e));dsimp only;rw[List.forIn_nil];exact AAB (AAB (AAB (AAB q)))
theorem SW(lo:(d==sysModules)=false)(b:s.heap.get? d=some o)(ex:o.ExactDict)(c:o.data=.dict es h)(i:es.size<=16777216)(q:∀f,Q (es.size != 0) { s with toks:=f }):wpAny (model prog w) A (truthy (.ref d)) Q E s:=by
 have a:s.TypeIs (.ref d) "dict" := ⟨o,b,ex.1⟩;unfold truthy
 wp_walk
 rw[noBool_dict]
 wp_walk
 rw[PySem.F.slot_dict_len.lookup];refine AAB ?_;rw[if_neg (by decide)];refine AAA (wpAny_runValue (codeAny_builtin entry_len ?_));rw[Around.under_plainId plain_len _];unfold Builtin.«len»;refine AAA (AAB (AAA (wpAny_callSpecial?_slot a PySem.F.slot_dict_len (AAb PySem.F.slot_dict_len a PySem.F.entry_dict_len ?_ (PySem.F.args_dict_len_1 _)))))
 wp_walk
 rw[c]
 wp_walk
 refine⟨_,rfl,?_⟩;refine AAA (AAn (AAB (AAA (wpAny_letGo ?_))));rw[if_neg (by lia),if_neg (by lia)];refine AAA (wpAny_mkInt (AAB ?_));refine AAB ?_;have e:((es.size:Int)+((0:Nat):Int) != 0)=(es.size != 0):=by cases es.size<;>simp<;>lia
 rw[e];exact q _
end
end Nk
namespace Mi
open PySem PySem.Spec PyProof.Rows L2 Ht Nk
section
variable{X:Cx}{k v o e:Expr}{pos:Pos}
noncomputable def cM(d f:TE)(K:KW):TE:=λO H Q=>∀p,H p=none->d O (upd H p (Ca p [])) λy g=>f O g λx b=>∃c a Y k,y=.ref a/\b p=some (Ca p [])/\Is K Y k b (csD c) (.ref a)/\Q (.ref p) (upd b p (Ca p [(c,a,x)]))
theorem Ta(l:Room k0 X.A)(m:PE X k n)(p:PE X v t):PE X (.Dict [some k] [v] pos) (cM n t X.kw):=by
 intro d s O H Q I q;have w:=I.hok.fresh (AAE s.heap.objs.size);have z:Inv X d O (upd H s.heap.objs.size (Ca s.heap.objs.size [])) { s with heap:=s.heap.push Ts }:=I.laid (λ_ _=>AAC _) (AAE _)
  (QR ⟨[],_,#[],0,.nil,AAD _ rfl,⟨rfl,rfl,rfl⟩,rfl,rfl,List.nodup_nil,AAi _,AAd.mpr (Ne.symm (AAc I.big)),rfl⟩)
 refine Ue (thn (m d _ O _ _ z (q _ w)) λu A ⟨y,B,C,E,F⟩=>thn (p d A O B _ C F) λr s2 G=>?_);obtain⟨x,H2,f,J,c,a,Y,k,rfl,e,L,N⟩:=G;cases E;obtain⟨us,o,es,ep,g,P,R,S,h,nd,_,lo,T⟩:=FQ f.hok e;cases g;have b  := by
  have:=l.units;show X.A.units+8<cLine;lia
 refine XO (xs:=[]) b (isC f L) P R S h (λx U=>by cases U) List.nodup_nil rfl (by rw[sizeLine_eq];decide) λh' i j W Z sb=>⟨.ref s.heap.objs.size,_,?_,rfl,N⟩;refine HG f (by rw[e];exact True.intro) sb ⟨i,j⟩ (QR ⟨[r],i,_,_,.cons J .nil,j,W,Z,?_,?_,?_,lo,?_⟩)
 ·rw[Array.toList_push,h];rfl
 ·exact List.nodup_cons.mpr ⟨by simp,List.nodup_nil⟩
 ·rw[sizeLine_eq];show 1<=16777216;decide
 ·rw[T];rfl
noncomputable def L0(mk mv:Sl->M D):Sl->M D:=λB Z=>match (bnd (mk B) λy=>bnd (mv B) λx=>ret (y,x)) (Z++[.dC []]) with
 |some ((y,x),a)=>match a[Z.length]?,Kd y with
  |some (.dC []),some c=>some (.ref Z.length,a.set Z.length (.dC [(c,x)]))
  |_,_=>none
 |none=>none
theorem S6(g:Room k0 X.A)(J:RE X k mk)(L:RE X v mv):RE X (.Dict [some k] [v] pos) (L0 mk mv):=RE.wk (Ta g J.pe L.pe) λO H Q h=>by
 obtain⟨Y,Z,B,d,Z',R,S,e,q⟩:=h;intro p N;obtain⟨P,E0,T,U⟩:=R.grown (m:=.dC []) N ⟨[],rfl,rfl⟩;unfold L0 at e;split at e
 ·rename_i y x W em;split at e
  ·rename_i c A ec;cases e;obtain⟨y',C,e1,i⟩:=AI em;obtain⟨x',x6,e2,j⟩:=AI i;cases j;refine⟨P,Z++[.dC []],B,y,C,T,S.ext E0,e1,λx4 H1 l R1 v1 i1=>⟨x4,C,B,x,_,R1,S.ext (E0.trans l),e2,λn H2 s R2 v2 i2=>?_⟩⟩;have E  := (AAT.mp A).1;obtain⟨u,F,r,rfl,g⟩:=R2.obj Z.length _ A;have t:r=[]:=g;subst t;have w:=(E0.trans l).trans s;have f:n Z.length=p:=by rw[(l.trans s).agree Z.length (by simp),U]
   rw[f] at F;have b:=i1.ext s;rw[GF ec] at b;have z:∃a,v1=.ref a:=by
    unfold csD Is at b;obtain⟨a,vs,rfl,_⟩:=b;exact⟨a,rfl⟩
   obtain⟨a,rfl⟩:=z;refine⟨c,a,n,W.length,rfl,F,b,?_⟩;obtain⟨G,I⟩:=R2.changed (m:=.dC [(c,x)]) E (by rw[f];exact⟨_,rfl,a,v2,[],rfl,b,i2,rfl⟩);rw[f] at G I;refine q n _ (w.trans G) I _ ?_;unfold Is;exact⟨by simpa using E,by rw[f]⟩
  ·cases e
 ·cases e
end
noncomputable def JA(l:List (Cs×D))(c:Cs):Option D:=(l.find? λz=>decide (z.1=c)).map (·.2)
theorem CVs.val{K:KW}{Y:Nat->Addr}:∀{l:List (Cs×D)} {r:List (Cs×Addr×V)} {d:D} {a:List Value},CVs K Y k H l r->Vals (r.map (·.2.2)) a->JA l c=some d->∃v u p,Is K Y k H d v/\RelV v u/\atKey (FV r a) (csK c)=some (p,u)
 |[],_,d,a,h,_,e=>by cases e
 |(z,x)::l,_,d,a,h,i,e=>by
  obtain⟨b,v,E,rfl,F,j,m⟩:=h;cases i with
  |@cons _ u _ n o t=>
   by_cases f:z=c
   ·subst f;have  := by simpa[JA] using e.symm
    subst this;exact⟨v,u,b,j,o,by simp[atKey,FV]⟩
   ·have s:JA l c=some d:=by simpa[JA,f] using e
    obtain⟨w,y,p,A,B,C⟩:=CVs.val m t s;refine⟨w,y,p,A,B,?_⟩;have g:¬csK z=csK c:=λq=>f (GE q);simpa[atKey,FV,g] using C
section
variable{X:Cx}{o i e:Expr}{pos:Pos}
noncomputable def HI(d y:D):M D:=bnd (GJ d) λr=>λZ=>((Kd y).bind (JA r.2)).map λv=>(v,Z)
theorem Pj{mo mi:Sl->M D}(hr:Room k X.A)(ho:RE X o mo)(hi:RE X i mi)(hs:XE i:=by exact λ_ _=>rfl):RE X (.Subscript o i pos) (mOp HI mo mi):=by
 refine RE.wk (t:=λO H Q=>tE X.kw mo O H λx g=>tE X.kw mi O g λy f=>∃(p:Addr) (l:List (Cs×D)×List (Cs×Addr×V)) (c:Cs) (d:D) (a:Addr) (Y:Nat->Addr) (k:Nat),x=.ref p/\y=.ref a/\f p=some (Ca p l.2)/\CVs X.kw Y k f l.1 l.2/\Is X.kw Y k f (csD c) (.ref a)/\JA l.1 c=some d/\∀v,Is X.kw Y k f d v->Q v f) (λJ s O H Q I h=>?_) λO H Q h=>?_
 ·refine Pc PySem.F.slot_dict_getitem.lookup hs (thn (ho.pe J s O H _ I h) λu s1 ⟨x,g,I1,rx,q1⟩=>thn (hi.pe J s1 O g _ I1 q1) λL s2 zq=>?_);obtain⟨y,f,j,ry,p,l,c,d,a,Y,k,ex,ey,e,N,ic,vd,q2⟩:=zq;subst ex ey;cases rx;cases ry;obtain⟨us,hl,m,P,_,_,lo⟩:=Na j e N.at;obtain⟨v,uu,pp,L,rv,n⟩:=N.val m vd;exact⟨P.typeIs,wpAny_getItem_heap (JS hr) (isC j ic) P n ⟨v,f,j.tok _,rv,q2 v L⟩⟩
 ·obtain⟨Y,Z,B,d,Z',R,S,e,q⟩:=h;obtain⟨x,T,e1,w⟩:=AI e;obtain⟨y,w6,e2,z⟩:=AI w;obtain⟨r,x6,e3,b⟩:=AI z;refine⟨Y,Z,B,x,T,R,S,e1,λx4 g U R1 v1 i1=>⟨x4,T,B,y,w6,R1,S.ext U,e2,λW f E2 R2 v2 A=>?_⟩⟩;obtain⟨hm,_,g1,rfl,C,g2,g3⟩:=Cr R2 (i1.ext E2) e3;subst hm;cases E:Kd y with
  |none=>rw[E] at b;cases b
  |some c=>
   rw[E,Option.bind_some] at b;cases F:JA r.2 c with
   |none=>rw[F] at b;cases b
   |some dv=>
    rw[F] at b;cases b;rw[GF E] at A;have G:=A;obtain⟨pa,_,rfl,_⟩:=G;exact⟨_,(r.2,C),c,_,pa,W,_,rfl,rfl,g2,g3,A,F,q W f (U.trans E2) R2⟩
noncomputable def NJ(m:Sl->M D):Sl->M Bool:=λB=>bnd (m B) λd=>bnd (GJ d) λr=>ret (!r.2.isEmpty)
theorem V2(h:RE X e m)(C:∀c,isTrue e X.env c=(do let v ←c;standAt e.pos;holding [v] (truthy v)):=by intro _;rfl):RT X e (NJ m):=by
 refine RT.wk (t:=λO H Q=>tE X.kw m O H λx u=>∃p l,x=.ref p/\u p=some (Ca p l)/\Q (!l.isEmpty) u) (λE s O H Q I d=>isTrue_plain (thn (h.pe E s O H _ I d) λv s1 F=>?_) (C _)) λO H Q q=>?_;obtain⟨x,f,w,G,p,l,J,L,y⟩:=F
 ·subst J;cases G;obtain⟨us,o,N,ep,P,T,d,U,W,h5,h6,h7,h8⟩:=FQ w.hok L;have hl  := by have:=P.length;simpa using this
  have g:N.size=l.length:=by rw[←Array.length_toList,W,AAF,List.length_zip];lia
  refine SW h7 T d U (by rw[sizeLine_eq] at h6;lia) λtk=>⟨f,w.kept λ_ _ z=>z,?_⟩;rw[g];cases l with
  |nil=>exact y
  |cons a l=>exact y
 ·obtain⟨Y,Z,B,b,Z',R,S,e,q⟩:=q;obtain⟨x,w5,e1,j⟩:=AI e;obtain⟨r,w6,e2,k⟩:=AI j;cases k;refine⟨Y,Z,B,x,w5,R,S,e1,λx4 f E1 A v1 i1=>?_⟩;obtain⟨hm,_,g1,rfl,n,g2,g3⟩:=Cr A i1 e2;subst hm;refine⟨_,n,rfl,g2,?_⟩;have em:∀{a:List (Cs×Addr×V)} {b:List (Cs×D)},a.length=b.length->a.isEmpty=b.isEmpty:=λ{a b} h=>by cases a<;>cases b<;>first|rfl|cases h
  rw[em g3.len];exact q x4 f E1 A
end
end Mi
namespace Nk
open PySem PySem.Spec PyProof.Rows Ht L2
noncomputable def itV(d:Addr)(i n a:Nat):Obj:={ cls:=.type "dict_valueiterator",data:=.fields #[.ref d,.int i 0,.int n 0,.int a 0] }
section
variable{prog:Program}{w:World}{A:Around}{E:Value->Shared->Prop}{s:Shared}{d I vw:Addr}{o:Obj}{es:Array DictEntry}{ep:Nat}
theorem Pp(p:A.handled=none)(j:s.heap.get? I=some (itV d i es.size ep))(y:s.heap.get? d=some o)(n:o.data=.dict es ep)
  (g:∀(hi:i<es.size) (f:Heap),f.get? I=some (itV d (i+1) es.size ep)->Heap.SameBut I s.heap f->Q (some es[i].val) { s with heap:=f })
  (h:es.size<=i->∀f,Heap.ExtBut I s.heap f->Q none { s with heap:=f }):wpAny (model prog w) A (pyNext (.ref I)) Q E s:=by
 have l:s.TypeIs (.ref I) "dict_valueiterator" := ⟨_,j,rfl⟩;unfold pyNext;refine AAA (wpAny_attempt (wpAny_callSpecial?_slot (name:=Str.ofString "__next__") l PySem.F.slot_dict_valueiterator_next (AAb PySem.F.slot_dict_valueiterator_next l PySem.F.entry_dict_valueiterator_next ?_ (PySem.F.args_dict_valueiterator_next_1 _))))
 wp_walk
 rw[n]
 wp_walk
 rw[n];refine AAB ?_;rw[if_neg (by simp)];refine AAB ?_;have m:(if (i:Int)<0 then none else es[(i:Int).toNat]?)=es[i]?:=by rw[if_neg (by lia),Int.toNat_natCast]
 dsimp only;rw[m];cases e:es[i]? with
 |some x=>
  wp_walk
  have hi:i<es.size:=(Array.getElem?_eq_some_iff.mp e).1;have q:es[i]=x:=(Array.getElem?_eq_some_iff.mp e).2;refine⟨_,rfl,AAB ?_⟩;rw[←q];refine g hi _ ?_ (Heap.SameBut.update ..);rw[if_neg (by decide +kernel),if_neg (by decide +kernel)];rw[Heap.get?_update_self _ j (by rfl)];simp[itV,rawInt,Obj.mapFields]
 |none=>
  refine AAA (AAA (wpAny_typeNameOfWhole_valiter l (AAB ?_)));rw[if_neg (by decide +kernel)];refine AAA (AAo j (by simp) λr z t=>?_);refine GY (A:=A.in1) (s:={ s with heap:=r }) p λa f k u=>?_;refine AAA (wpAny_isInstance (T := "StopIteration") (b:=true) u isSubtype_stop ?_);exact AAB (h (by simpa using e) f λb o v e=>k b o (t.extBut b o v e))
theorem Nf(lo:(d==sysModules)=false)(a:s.heap.get? d=some o)(ex:o.ExactDict)(q:Q (.ref s.heap.objs.size) { s with heap:=s.heap.push (vwO "dict_values" d) }):wpAny (model prog w) A (call (.builtin "dict.values") [.ref d]) Q E s:=by
 have b:s.TypeIs (.ref d) "dict" := ⟨o,a,ex.1⟩;refine AAb PySem.F.slot_dict_values b PySem.F.entry_dict_values ?_ (PySem.F.args_dict_values_1 _)
 wp_walk
 rw[if_neg (by rw[ex.1];decide)]
 wp_walk
 exact⟨_,rfl,q⟩
theorem Wl(c:s.heap.get? vw=some (vwO "dict_values" d))(e:s.heap.get? d=some o)(a:o.data=.dict es ep)(q:Q (.ref s.heap.objs.size) { s with heap:=s.heap.push (itV d 0 es.size ep) }):wpAny (model prog w) A (pyIter (.ref vw)) Q E s:=by
 have b:s.TypeIs (.ref vw) "dict_values" := ⟨_,c,rfl⟩;refine wpAny_pyIter_slot b PySem.F.slot_dict_values_iter (AAb PySem.F.slot_dict_values_iter b PySem.F.entry_dict_values_iter ?_ (PySem.F.args_dict_values_iter_1 _))
 wp_walk
 rw[a]
 wp_walk
 rw[a]
 wp_walk
 rw[if_neg (by decide)];exact⟨_,rfl, "dict_valueiterator",_,⟨_,AAD _ rfl,rfl⟩,PySem.F.slot_dict_valueiterator_next.lookup,q⟩
theorem Ny(l:A.handled=none)(j:d≠I)(m:o.data=.dict es ep):Walks prog w A I [I,d] [I] es.size (λi v=>∃e,es[i]?=some e/\v=e.val) (λi h=>h.get? I=some (itV d i es.size ep)/\h.get? d=some o):=by
 refine⟨λb c=>?_,λi h f st k=>⟨k I (by simp) _ st.1,k d (by simp) _ st.2⟩,λi s Q E n st q=>?_,λs Q E st q=>?_,λi s Q E st=>wpAny_pyIter_valiter ⟨_,st.1,rfl,rfl⟩⟩
 ·rw[AAK] at c;rw[c];simp
 ·refine Pp l st.1 st.2 m (λa f g sb=>q _ f s.toks ⟨es[i],Array.getElem?_eq_getElem a,rfl⟩ ⟨g,(sb.2 d j).trans st.2⟩ λb o c e=>?_) λz=>absurd n (Nat.not_lt.mpr z);exact(sb.2 b λz=>c (by rw[z];simp)).trans e
 ·exact Pp l st.1 st.2 m (λa=>absurd a (AAv _)) λ_ f k=>q f s.toks λb o c=>k b o λz=>c (by rw[z];simp)
theorem Sf(c:o.ExactDict)(a:o.data=.dict es ep):PySem.W.KdlSrc prog w "dict_values" vw d es.size (λi v=>∃e,es[i]?=some e/\v=e.val) (λh=>h.get? vw=some (vwO "dict_values" d)/\h.get? d=some o):=⟨λs h=>⟨_,h.1,rfl⟩,λh e=>⟨Heap.lt_size e.1,Heap.lt_size e.2⟩,λh f e k=>⟨k vw (.inl rfl) _ e.1,k d (.inr rfl) _ e.2⟩,by decide,by decide,λA E s Q e=>PySem.W.kdl_hint_values ⟨_,e.1,rfl⟩,λA s b e=>⟨itV d 0 es.size ep,_,λE Q=>Wl e.1 e.2 a,Ny b (AAc (Heap.lt_size e.2)) a,AAD _ rfl,AAC _ e.2⟩⟩
end
end Nk
namespace Mi
open PySem PySem.Spec PyProof.Rows L2 Ht Nk
section
variable{X:Cx}{o:Expr}{apos cpos pos p2:Pos}
noncomputable def vwC(p a:Addr):HO:=.ext λh=>h.get? a=some (vwO "dict_values" p)
theorem ON(j:PE X o m)(b:attributeBase o "values" X.env (eval o X.env)=eval o X.env:=by rfl)(c:(apos.endLine==cpos.line)=true:=by rfl):PE X (.Call (.Attribute o "values" apos) [] [] cpos) (λO H Q=>m O H λx d=>∃p l,x=.ref p/\d p=some (Ca p l)/\∀q,d q=none->Q (.ref q) (upd d q (vwC p q))):=by
 intro n s O H Q I h;refine wpAny_Call_method0_late b c (thn (j n s O H _ I h) λv r ⟨x,d,g,t,u⟩=>?_);obtain⟨p,l,rfl,w,q⟩:=u;cases t;obtain⟨A,o,B,C,E,f,h2,F,G,J,L,y,N⟩:=FQ g.hok w;refine⟨"dict", "dict.values",PySem.F.plainAttrs_dict,PySem.F.slot_dict_values,PySem.F.type_dict_values,⟨o,f,h2.1⟩,λa e=>?_,Calls.callWith_builtin rfl (PySem.evalArgs_none (Nf y f h2 ⟨.ref r.heap.objs.size,_,g.laid (λ_ _=>AAC _) (AAE _) ?_,rfl,q _ (g.hok.fresh (AAE _))⟩))⟩
 ·cases e;exact⟨o,f,h2.2.1⟩
 ·exact⟨AAD _ rfl,⟨_,AAD _ rfl⟩,λf h2 z k=>k _ z⟩
theorem O0(m:X.calm=true):B7 X (.type "list") (λxs H Q=>∃p f l,xs=[.ref f]/\H f=some (vwC p f)/\H p=some (Ca p l)/\∀q,H q=none->Q (.ref q) (upd H q (.lst (l.map λy=>y.2.2)))):=by
 intro S s O H xs g Q I r h;obtain⟨p,f,l,rfl,n,t,q⟩:=h;obtain⟨u,rfl,v⟩:=Ea r;cases v;obtain⟨g,o,w,T,j,z,A,B,k,U,C,W,_⟩:=FQ I.hok t;have E  := (I.hok f _ n).1;have F  := by have:=j.length;simpa using this
 have G:w.size=l.length:=by rw[←Array.length_toList,k,AAF,List.length_zip];lia
 refine PySem.W.kdl_call (Sf A B) (I.ok.hd m) ⟨E,z⟩ (by lia) λJ Y d c L e it=>?_;have N:d.toList=g:=by
  have z1:=it.1;refine List.ext_getElem (by rw[Array.length_toList];lia) λi a b=>?_;have P  := by simpa using a
  obtain⟨e,R,g2⟩:=it.2 i d[i] (Array.getElem?_eq_getElem P);obtain⟨c,a',x,f1,f2,f3⟩:=OC F k R
  simp_all
 refine⟨.ref s.heap.objs.size,_,I.laid L (AAE _) (show ObjOk X.prog X.w _ J _ (.lst (l.map λy=>y.2.2)) from ⟨by rw[AAF];exact C,d.toList,c,?_,e⟩),rfl,q _ (I.hok.fresh (AAE _))⟩;rw[N];exact j
theorem CVs.vals{K:KW}{Y:Nat->Addr}:∀{l:List (Cs×D)} {r:List (Cs×Addr×V)},CVs K Y k H l r->IsL K Y k H (l.map (·.2)) (r.map λy=>y.2.2)
 |[],_,h=>by cases h;rfl
 |(y,d)::l,_,h=>by
  obtain⟨a,v,e,rfl,_,b,c⟩:=h;exact .cons b (CVs.vals c)
noncomputable def Oa(d:D):M D:=bnd (GJ d) λr=>λZ=>some (.lst (r.2.map (·.2)),Z)
theorem Sz(p:X.mg "list" = none)(s:RE X o m)(t:X.calm=true:=by rfl)(f:Gl X "list" := by rfl)
  (a:attributeBase o "values" X.env (eval o X.env)=eval o X.env:=by rfl) (b:(apos.endLine==cpos.line)=true:=by rfl):RE X (.Call (.Name "list" p2) [.Call (.Attribute o "values" apos) [] [] cpos] [] pos) (mUn Oa m):=by
 have u  := ON s.pe a b;refine RE.wk (Eg (O0 t) f p Mi.C8 (F5 u Hb (BI rfl)) (by decide) (by decide) (BI rfl) rfl) λO H Q h=>?_;obtain⟨Y,Z,B,d,T,R,S,v,q⟩:=h;obtain⟨x,w,y,A⟩:=AI v;obtain⟨r,U,C,E⟩:=AI A;refine⟨Y,Z,B,x,w,R,S,y,λg W F k v1 G=>?_⟩;obtain⟨I,_,g1,rfl,c,e,J⟩:=Cr k G C;subst I;cases E;refine⟨_,c,rfl,e,λi l=>?_⟩;obtain⟨n,R2⟩:=k.laid (vwC (g r.1) i) l;have j:g r.1≠i:=λz=>by rw[z,l] at e;cases e
 exact⟨g r.1,i,c,rfl,Br,by rw[upd_ne j];exact e,K2 R2 (J.ext n).vals λL N P=>q L N ((F.trans n).trans P)⟩
end
end Mi
namespace Mi
open PySem L2
section
variable{K:KW}{w9 Y':Nat->Addr}{k k2 k':Nat}{H:Hp}
mutual
theorem Is.re(a:∀n,n<k->Y' n=w9 n)(b:∀m,m<k'->∃n,n<k2/\Y' m=w9 n)(f:k<=k'):∀{d:D} {v:V},Cl k d->Is K w9 k2 H d v->Is K Y' k' H d v
 | .non,_,_,h | .bl _,_,_,h | .int _,_,_,h | .str _,_,_,h | .ty _,_,_,h | .scr _,_,_,h=>h
 | .tup g,_,c,h=>by
  obtain⟨p,i,e,j,l⟩:=h;exact⟨p,i,e,j,IsL.re a b f c l⟩
 | .lst g,_,c,h=>by
  obtain⟨p,i,e,j,r,l⟩:=h;refine⟨p,i,e,j,λm s z=>?_,IsL.re a b f c l⟩;obtain⟨n,o,t⟩:=b m s;exact r n o (t.symm.trans z)
 | .ref n,_,c,h=>⟨AAM c f,by rw[a n c];exact h.2⟩
theorem IsL.re(a:∀n,n<k->Y' n=w9 n)(b:∀m,m<k'->∃n,n<k2/\Y' m=w9 n)(f:k<=k'):∀{g:List D} {i:List V},ClL k g->IsL K w9 k2 H g i->IsL K Y' k' H g i
 |[],_,_,h=>h
 |d::g,_,c,h=>by
  obtain⟨v,q,e,j,l⟩:=h;exact⟨v,q,e,Is.re a b f c.1 j,IsL.re a b f c.2 l⟩
end
variable(ag:∀n,n<k->Y' n=w9 n)(am:∀m,m<k'->∃n,n<k2/\Y' m=w9 n)(hk:k<=k')
include ag am hk
theorem KVs.re:∀{l:List (Key×D)} {r:List (Key×V)},ClL k (l.map (·.2))->KVs K w9 k2 H l r->KVs K Y' k' H l r
 |[],_,_,h=>h
 |(_,_)::_,_,c,h=>by
  obtain⟨v,a,e,b,d⟩:=h;exact⟨v,a,e,Is.re ag am hk c.1 b,KVs.re c.2 d⟩
theorem CVs.re:∀{l:List (Nk.Cs×D)} {r:List (Nk.Cs×Addr×V)},ClL k (l.map (·.2))->CVs K w9 k2 H l r->CVs K Y' k' H l r
 |[],_,_,h=>h
 |(b,_)::_,_,c,h=>by
  obtain⟨a,v,d,e,f,g,i⟩:=h;exact⟨a,v,d,e,Is.re ag am hk (ER b) f,Is.re ag am hk c.1 g,CVs.re c.2 i⟩
theorem FVs.re:∀{l:List (Str×D)} {r:List (Str×V)},ClL k (l.map (·.2))->FVs K w9 k2 H l r->FVs K Y' k' H l r
 |[],_,_,h=>h
 |(_,_)::_,_,c,h=>by
  obtain⟨v,a,e,b,d⟩:=h;exact⟨v,a,e,Is.re ag am hk c.1 b,FVs.re c.2 d⟩
theorem PVs.re:∀{l:List (D×D)} {r:List (D×Addr×V)},ClL k (l.map (·.1))->ClL k (l.map (·.2))->PVs K w9 k2 H l r->PVs K Y' k' H l r
 |[],_,_,_,h=>h
 |(_,_)::_,_,b,c,h=>by
  obtain⟨a,v,d,e,h1,f,g⟩:=h;exact⟨a,v,d,e,⟨h1.1,h1.2.1,Is.re ag am hk b.1 h1.2.2⟩,Is.re ag am hk c.1 f,PVs.re b.2 c.2 g⟩
theorem ObjIs.re(c:ClO k o)(h:ObjIs K w9 k2 H p o u):ObjIs K Y' k' H p o u:=by
 cases o with
 |lst g=>obtain⟨a,e,h⟩:=h;exact⟨a,e,IsL.re ag am hk c h⟩
 |dK l=>obtain⟨r,e,h⟩:=h;exact⟨r,e,KVs.re ag am hk c h⟩
 |dC l=>obtain⟨r,e,h⟩:=h;exact⟨r,e,CVs.re ag am hk c h⟩
 |ins n l=>obtain⟨C,b,r,e,d,f,h⟩:=h;exact⟨C,b,r,e,d,f,FVs.re ag am hk c h⟩
 |dP l=>obtain⟨r,e,h⟩:=h;exact⟨r,e,PVs.re ag am hk c.1 c.2 h⟩
 |exc c n=>exact h
end
theorem Ux{K:KW}{Y c:Nat->Addr}{Z w6 r:Mh}(E:Ext Y Z.length H c w6.length l)(R2:RelH K c w6 l)(B:Z.length<=j)(x:w6[j]?=some (.lst es))(C:ClL Z.length es)(F:CS Z.length Z.length w6=some r):
  ∃p,Ext Y Z.length H p (r++[MO.lst es]).length l/\RelH K p (r++[MO.lst es]) l/\p Z.length=c j:=by
 obtain⟨⟨g,G⟩,i,I⟩:=El F;have f  := (AAT.mp x).1;have d:(r++[MO.lst es]).length=Z.length+1:=by rw[AAG,i];rfl
 have s:∀n,n<Z.length->(λn=>if n=Z.length then c j else c n) n=c n:=λn h=>if_neg (AAc h);have y:∀m,m<Z.length+1->∃n,n<w6.length/\(λn=>if n=Z.length then c j else c n) m=c n:=λm J=>by
  by_cases e:m=Z.length
  ·exact⟨j,f,if_pos e⟩
  ·exact⟨m,by lia,if_neg e⟩
 refine⟨λn=>if n=Z.length then c j else c n,?_,⟨λa b z A e=>?_,λn o e=>?_⟩,if_pos rfl⟩
 ·rw[d];refine⟨Nat.le_succ _,λn h=>(s n h).trans (E.agree n h),λn S T=>?_,E.keep,E.was,E.there⟩;have:n=Z.length:=by lia
  rw[if_pos this];exact E.fresh j B f
 ·rw[d] at z A;have k:∀m,m<Z.length+1->∃n,n<w6.length/\(if m=Z.length then c j else c m)=c n/\(m=Z.length/\n=j∨m≠Z.length/\n=m):=λm J=>by
   by_cases e:m=Z.length
   ·exact⟨j,f,if_pos e,.inl ⟨e,rfl⟩⟩
   ·exact⟨m,by lia,if_neg e,.inr ⟨e,rfl⟩⟩
  obtain⟨L,t,N,U⟩:=k a z;obtain⟨O,v,P,W⟩:=k b A;have:=R2.inj L O t v (N.symm.trans (e.trans P));lia
 ·rw[d];by_cases h:n<Z.length
  ·rw[AAS (by rw[i];exact h)] at e;have Q:w6[n]?=some o:=by rw[G,AAS (by rw[i];exact h)];exact e
   obtain⟨u,q,w⟩:=R2.obj n o Q;refine⟨u,by rw[if_neg (AAc h)];exact q,?_⟩;rw[if_neg (AAc h)];exact ObjIs.re s y (Nat.le_succ _) (I o (AAU e)) w
  ·have R:n=Z.length:=by
    have:=(AAT.mp e).1;lia
   subst R;have  := by
    rw[AAR (by rw[i];exact AAE _),i,AAt] at e;exact(Option.some.inj e).symm
   subst this;obtain⟨u,q,w⟩:=R2.obj j _ x;exact⟨u,by rw[if_pos rfl];exact q,ObjIs.re s y (Nat.le_succ _) C w⟩
noncomputable def J9(n d:Nat)(e:Sl->M (Fl×Sl)):List D->M D:=λa Z=>match Nat.beq (List.length a) d with
 |true=>match e (Bc n a) Z with
  |some ((.rt (.ref j),_),b)=>match Nat.ble (List.length Z) j with
   |true=>match b[j]? with
    |some (.lst c)=>match Do (List.length Z) c with
     |true=>match CS (List.length Z) (List.length Z) b with
      |some r=>some (.ref (List.length Z),r++[MO.lst c])
      |none=>none
     |false=>none
    |_=>none
   |false=>none
  |_=>none
 |false=>none
theorem J8(h:J9 n a b ds Z=some (d,Z')):
  ds.length=a/\∃j x3 w6 es r,b (Bc n ds) Z=some ((.rt (.ref j),x3),w6)/\Z.length<=j/\w6[j]?=some (.lst es)/\ClL Z.length es/\CS Z.length Z.length w6=some r/\d=.ref Z.length/\Z'=r++[MO.lst es]:=by
 unfold J9 at h;split at h
 ·rename_i c;split at h
  ·rename_i j x3 w6 e;split at h
   ·rename_i f;split at h
    ·rename_i es g;split at h
     ·rename_i i;split at h
      ·rename_i r k;cases h;exact⟨Nat.eq_of_beq_eq_true c,j,x3,w6,es,r,e,Nat.le_of_ble_eq_true f,g,C2 i,k,rfl,rfl⟩
      ·cases h
     ·cases h
    ·cases h
   ·cases h
  ·cases h
 ·cases h
end Mi
namespace Mi
open PySem L2
section
variable{X:Cx}
noncomputable def Yg:D->List D->M D
 | .ref n,[]=>FY n λa=>some (.non,a.reverse)
 |_,_=>Bj
theorem IsL.rev:∀{ds:List D} {a:List V},IsL K Y k H ds a->IsL K Y k H ds.reverse a.reverse
 |[],_,h=>by subst h;rfl
 |d::ds,_,h=>by
  obtain⟨v,b,rfl,c,e⟩:=h;rw[List.reverse_cons,List.reverse_cons];exact(IsL.rev e).append (.one c)
theorem Mb:∀{xs:List V} {a:List Value},Vals xs a->Vals xs.reverse a.reverse
 |_,_,.nil=>.nil
 |_,_,.cons r t=>by
  rw[List.reverse_cons,List.reverse_cons];exact(Mb t).append (.cons r .nil)
theorem Q9:MtR X "list.reverse" (rMM X.kw Yg):=λw s O H x y v A Q I j k h=>by
 obtain⟨Y,Z,a,B,d,C,R,l,m,e,q⟩:=h;unfold Yg at e;split at e
 ·rename_i n;obtain⟨E,F,g,o,rfl⟩:=F2 e;cases o;subst m;cases k;obtain⟨_,rfl⟩:=l;obtain⟨u,i,G,rfl,p⟩:=R.obj n _ g;cases j;obtain⟨z,b,t,r,c,f⟩:=I.lstM i;exact call_meets PySem.F.slot_list_reverse ⟨_,f,rfl⟩ PySem.F.entry_list_reverse (PySem.F.args_list_reverse_1 _) (PySem.AutoSeq1.list_reverse_list_0 _ b.toArray t (by rw[List.size_toArray,←c];exact z)) ⟨f,.non,_,I.lset i f (by rw[List.reverse_toArray]) (Mb r) (by rw[List.length_reverse];exact z),rfl,IV R g p.rev ofN q⟩
 ·cases e
end
noncomputable def IN(n a:Nat)(b:Sl->M (Fl×Sl)):List D->M D:=λc Z=>match J9 n a b c Z with
 |some r=>some r
 |none=>Az .drop n a b c Z
theorem UT(F:Fun K x c m f L)(S:Ab N y (AQ m))(W:O x=some (.ref f))(X:Binds K L y [])
  (g:∀(b:Value) (A:Around) (a:List Env) (s:Shared) (H:Hp) (E:XK),Room k (A.deeper (PyProof.Rows.envOfC c (AQ m) s.heap.objs.size f b))->RSs (HH CX0 P w K O l N c (AQ m) f b A a s H E).nox (Cb m) mb) :
  Fn P w K O l x y (k+1) (IN N.length y.length mb):=by
 refine⟨λds Z r h=>?_,f,L,?_,W,F.kp,X⟩
 ·unfold IN at h;split at h
  ·rename_i r' e;exact(J8 e).1
  ·exact(EM h).1
 refine F.ok S (λvs H Q E h=>h.1) λb A a s H vs Q E n h=>⟨_,(g b A a s H E n).pe,?_⟩;obtain⟨hl,Y,Z,ds,d,Z',R,i,e,q⟩:=h;unfold IN at e;split at e
 ·rename_i r' e1;cases e;obtain⟨_,j,z,B,es,r,C,hj,hq,hc,n,rfl,rfl⟩:=J8 e1;refine⟨Y,Z,_,_,z,B,R,RelS.start i,C,λG o I R2 u5 S2=>?_⟩;obtain⟨Y',p,u,e3⟩:=Ux I R2 hj hq hc n;intro v iv;refine q Y' o p u v ?_;have hl2:=(El n).2.1;exact⟨by simp_all,by rw[e3];exact iv.2⟩
 ·obtain⟨_,fl,z,B,C,J,t⟩:=EM e;refine⟨Y,Z,_,fl,z,B,R,RelS.start i,C,λG o I R2 u5 S2=>?_⟩;obtain⟨p,u,U⟩:=Gh R I R2 t;rcases J with rfl|⟨d0,rfl⟩
  ·exact q G o p u _ (U _ (by unfold Ef Is;rfl))
  ·exact λv iv=>q G o p u v (U v iv)
noncomputable def FP:MO->Bool
 | .lst a=>a.all λd=>match d with
  | .int _=>true
  |_=>false
 |_=>false
theorem Jr(h:FP o=true):∃ns:List Int,o=.lst (ns.map D.int):=by
 cases o with
 |lst a=>
  refine⟨a.map λd=>match d with | .int i=>i|_=>0,congrArg MO.lst ?_⟩;rw[List.map_map]
  conv=>lhs;rw[←List.map_id a]
  refine List.map_congr_left λd b=>?_;have:=List.all_eq_true.mp h d b;cases d<;>first|rfl|cases this
 |_=>cases h
theorem Js(f:FP o=true)(h:ObjIs K Y k H p o u):ObjIs K b c H' p o u:=by
 obtain⟨a,rfl⟩:=Jr f;obtain⟨d,rfl,i⟩:=h;rw[i.ints];exact⟨_,rfl,IsL.ofInts a⟩
noncomputable def JF(i:Nat)(φ:List D->M D):List D->M D:=λa Z=>match a[i]? with
 |some (.ref n)=>match Z[n]? with
  |some (.lst d)=>if n+1=Z.length/\Z.all FP=true/\Do n (a.set i .non)=true then (match φ (a.set i (.lst d)) (Z.take n) with
   |some (.bl b,c)=>if c.length=n/\c.all FP=true then some (.bl b,c++[.lst d]) else none
   |_=>none) else none
  |_=>none
 |_=>φ a Z
theorem P9(a:k<=m):∀{i:Nat} {ds:List D} {b:List V} {v:V},ClL k (ds.set i .non)->IsL K Y m H ds b->b[i]?=some v->Is K Y k H x v->IsL K Y k H (ds.set i x) b
 |_,[],_,_,_,h,_,_=>by subst h;exact IsL.nil
 |0,d::ds,_,v,c,h,e,f=>by
  obtain⟨u,g,rfl,l,j⟩:=h;cases e;exact .cons f (j.down a c.2)
 |i+1,d::ds,_,v,c,h,e,f=>by
  unfold IsL at h;obtain⟨u,g,rfl,l,j⟩:=h;exact .cons (l.down a c.1) (P9 a c.2 j e f)
theorem Fn.thaw(i:Nat)(F:Fn P w K mg G x ps k φ):Fn P w K mg G x ps k (JF i φ):=by
 obtain⟨I,f,fd,F1,g,hk,O⟩:=F;have J:∀{t:List D} {Z:Mh} {r:D×Mh},JF i φ t Z=some r->φ t Z=some r∨∃n j b l,t[i]?=some (.ref n)/\Z[n]?=some (.lst j)/\n+1=Z.length/\Z.all FP=true/\ClL n (t.set i .non)/\φ (t.set i (.lst j)) (Z.take n)=some (.bl b,l)/\l.length=n/\l.all FP=true/\r=(.bl b,l++[.lst j]):=λ{t Z r} h=>by
  unfold JF at h;split at h
  ·rename_i n e;split at h
   ·rename_i j S;split at h
    ·rename_i c;split at h
     ·rename_i b l L;split at h
      ·rename_i c2;cases h;exact .inr ⟨n,j,b,l,e,S,c.1,c.2.1,C2 c.2.2,L,c2.1,c2.2,rfl⟩
      ·cases h
     ·cases h
    ·cases h
   ·cases h
  ·exact .inl h
 refine⟨λt Z r e=>?_,f,fd,F1.imp λvs H Q E q=>⟨q.1,?_⟩,g,hk,O⟩
 ·rcases J e with e|⟨n,j,b,l,_,_,_,_,_,L,_⟩
  ·exact I t Z r e
  ·have:=I _ _ _ L;rw[AAu] at this;exact this
 obtain⟨_,Y,Z,as,d,Z',R,T,e,q⟩:=q;rcases J e with e|⟨n,j,b,l,S,en,hn,fl,c2,L,s,U,e3⟩
 ·exact⟨Y,Z,as,d,Z',R,T,e,q⟩
 cases e3;obtain⟨u,hu,ob⟩:=R.obj n _ en;have fe  := List.all_eq_true.mp fl _ (AAU en);obtain⟨y,rfl,iv⟩:=ob;obtain⟨v0,W,i0⟩:=T.get S;unfold Is at i0;obtain⟨_,rfl⟩:=i0;have A:(Z.take n).length=n:=by rw[List.length_take];lia
 have X:∀{m:Nat} {o:MO},(Z.take n)[m]?=some o->m<n/\Z[m]?=some o:=λ{m o} z=>by
  have B:=(AAT.mp z).1;rw[A] at B;rw[List.getElem?_take_of_lt B] at z;exact⟨B,z⟩
 have R0:RelH ⟨K,w⟩ Y (Z.take n) H:=⟨λa b ha O=>R.inj a b (by lia) (by lia),λm o z=>by
  obtain⟨B,z⟩:=X z;obtain⟨u,q,h⟩:=R.obj m o z;exact⟨u,q,Js (List.all_eq_true.mp fl _ (AAU z)) h⟩⟩
 have N:∀m,m<n->Y m≠Y n:=λm g z=>by
  have:=R.inj m n (by lia) (by lia) z;lia
 have iv0:IsL ⟨K,w⟩ Y (Z.take n).length H j y:=by
  obtain⟨ns,e⟩:=Jr fe;cases e;rw[iv.ints];exact IsL.ofInts ns
 refine⟨Y,Z.take n,as.set i (.lst j),.bl b,l,R0,P9 (by rw[A];lia) ?_ T W (by unfold Is;exact⟨_,y,rfl,hu,(λm g=>N m (by rw[A] at g;exact g)),iv0⟩),L,λY' H' E' R' v iv'=>?_⟩
 ·rw[A];exact c2
 have ag  := λm g=>E'.agree m (by rw[A];exact g);have kp  := E'.keep _ _ hu λm g=>N m (by rw[A] at g;exact g);have C:(l++[MO.lst j]).length=Z.length:=by rw[AAG,s];exact hn
 have R2:RelH ⟨K,w⟩ Y (l++[MO.lst j]) H':=⟨λa b ha O=>R.inj a b (by rw[←C];exact ha) (by rw[←C];exact O),λm o z=>by
  by_cases g:m<n
  ·rw[AAS (by rw[s];exact g)] at z;obtain⟨u,q,h⟩:=R'.obj m o z;rw[ag m g] at q h;exact⟨u,q,Js (List.all_eq_true.mp U _ (AAU z)) h⟩
  ·have:m=n:=by
    have:=(AAT.mp z).1;rw[C] at this;lia
   subst this;rw[AAR (by rw[s];exact AAE _),s,AAt] at z;cases z;exact⟨_,kp,Js fe ⟨y,rfl,iv⟩⟩⟩
 have E2:Ext Y Z.length H Y (l++[MO.lst j]).length H':=⟨by rw[C];exact AAE _,λ_ _=>rfl,λm B h2=>absurd B (Nat.not_le_of_lt (by rw[←C];exact h2)),λp o hp g=>E'.keep p o hp λm h=>g m (by rw[A] at h;lia),R.muts,by have:=R2.muts;rw[C] at this;exact this⟩;exact q Y H' E2 R2 v iv'
end Mi
namespace L2
open PySem PySem.Spec PyProof.Rows Sem Ht
theorem Pr(xs:List Int):(Cc xs).length<=xs.length:=Gy (OQ xs) λx=>(NC xs x).mp
section
variable{prog:Program}{w:World}{A:Around}{E:Value->Shared->Prop}{s:Shared}
theorem Qq(h:s.heap.SetOf (intKind prog w) S (λk=>decide (k∈Cc xs)) (Cc xs).length)(g:xs.length+2<scanBound)
  (q:∀b c i,Heap.SameBut S s.heap c->c.SetOf (intKind prog w) S (λk=>decide (k∈Cc (xs++[x]))) (Cc (xs++[x])).length->Q b { s with heap:=c,toks:=i }) :
  wpAny (model prog w) A (setAdd S (.int x t)) Q E s:=by
 unfold setAdd;refine AAn (AAA ((intKind prog w).pyHash (intKind_is prog w x t) ?_));have n:=Pr xs;refine wpAny_setAddHashed_of (intKind_is prog w x t) rfl h (by lia) λc j d=>q _ c _ j ?_;have l:(λa:Int=>decide (a∈Cc xs)||decide (a=x))=λa=>decide (a∈Cc (xs++[x])):=by
  funext a
  rw[F6];split
  ·rename_i f;by_cases e:a=x
   ·subst e;simp[f]
   ·simp[e]
  ·simp
 have m:(if decide (x∈Cc xs)=true then (Cc xs).length else (Cc xs).length+1)=(Cc (xs++[x])).length:=by
  rw[F6];by_cases f:x∈Cc xs<;>simp[f]
 rw[l,m] at d;exact d
theorem Qr(Y:A.in1.handled=none)(C:l≠I)(f:S≠I)(D:S≠l)(Q:Vals (ss.map V.int) j)(T:ss.length+2<scanBound):
  ∀(m i:Nat) (s:Shared),ss.length-i=m->i<=ss.length->s.heap.IsListIter I l i->s.heap.IsList l j.toArray->s.heap.SetOf (intKind prog w) S (λk=>decide (k∈Cc (ss.take i))) (Cc (ss.take i)).length->
   (∀d x,(∀c o,c≠S->c≠I->s.heap.get? c=some o->d.get? c=some o)->d.SetOf (intKind prog w) S (λk=>decide (k∈Cc ss)) (Cc ss).length->R (.ok (.ret .none)) { s with heap:=d,toks:=x })->
   codeAny (model prog w) A (.builtin "set.update.loop" ⟨[.ref S,.ref I],[]⟩) R s:=by
 have U  := by have:=Q.length;simpa using this.symm
 have W:=Walks.list (prog:=prog) (w:=w) Y I l C j.toArray;intro m
 induction m with
 |zero=>
  intro i s Z hi g h y q;have ei:i=ss.length:=by lia
  subst ei;refine codeAny_builtin PyProof.Rows.F.entry_set_update_loop ?_;rw[Around.under_plainId PyProof.Rows.F.plain_set_update_loop _];refine AAA (W.done s _ _ ⟨by rw[List.size_toArray,U];exact g,h⟩ λd x n=>AAB ?_);rw[List.take_length] at y;obtain⟨o,F,G,H,J,a⟩:=y;exact q d x (λc o _ z e=>n c o (by simpa using z) e) ⟨o,F,G,H,n S o (by simpa using f) J,a⟩
 |succ m ih=>
  intro i s Z hi g h y q;have B:i<ss.length:=by lia
  refine codeAny_builtin PyProof.Rows.F.entry_set_update_loop ?_;rw[Around.under_plainId PyProof.Rows.F.plain_set_update_loop _];refine AAA (m:=pyNext (.ref I)) (W.item i s _ _ (by rw[List.size_toArray,U];exact B) ⟨g,h⟩ λv d x hv st n=>?_);obtain⟨u,eu,ru⟩:=Q.get (show (ss.map V.int)[i]?=some (V.int ss[i]) by simp[B]);have p  := by simpa using hv
  rw[eu] at p;cases p;obtain⟨t,rfl⟩:=ru;obtain⟨o,F,G,H,J,a⟩:=y;have L:d.SetOf (intKind prog w) S (λk=>decide (k∈Cc (ss.take i))) (Cc (ss.take i)).length:=⟨o,F,G,H,n S o (by simpa using f) J,a⟩;refine AAA (AAn (Qq L (by rw[List.length_take];lia) λb h2 t2 sb r=>?_));have M:ss.take i++[ss[i]]=ss.take (i+1):=by rw[List.take_succ,AAr B];rfl
  rw[M] at r;have N:∀c o,c≠S->d.get? c=some o->h2.get? c=some o:=λc o hc e=>(sb.2 c hc).trans e;exact AAB ⟨plainId_quiet PyProof.Rows.F.plain_set_update_loop _,ih (i+1) _ (by lia) B (st.1.at λo e=>N I o f.symm e) (st.2.at λo e=>N l o D.symm e) r λh3 t3 O P=>q h3 t3 (λc o X z e=>O c o X z (N c o X (n c o (by simpa using z) e))) P⟩
set_option maxHeartbeats 2000000 in
theorem Rg(v:A.handled=none)(r:s.heap.IsList l g.toArray)(y:Vals (ss.map V.int) g)(h:ss.length+2<scanBound)
  (q:∀i n,(∀c o,s.heap.get? c=some o->i.get? c=some o)->i.SetOf (intKind prog w) s.heap.objs.size (λk=>decide (k∈Cc ss)) (Cc ss).length->Q (.ref s.heap.objs.size) { s with heap:=i,toks:=n }) :
  wpAny (model prog w) A (call (.type "set") [.ref l]) Q E s:=by
 refine Wc F.called_set (F.typeCall_set_1 _) (code_set_new_1 (.ref l) (Q₁:=λx b=>∃a:Bool,x=.ref s.heap.objs.size/\b={ s with heap:=s.heap.push (Cy a) }) λa=>⟨a,rfl,rfl⟩) ?_;rintro x b ⟨a,rfl,rfl⟩;have d:(s.heap.push (Cy a)).get? s.heap.objs.size=some (Cy a):=AAD _ rfl;have t:Shared.TypeIs { s with heap:=s.heap.push (Cy a) } (.ref s.heap.objs.size) "set" := ⟨_,d,rfl⟩;have u:l<s.heap.objs.size:=by obtain⟨o,e,_⟩:=r;exact Heap.lt_size e
 have f:(s.heap.push (Cy a)).IsList l g.toArray:=r.push _;have B:Shared.TypeIs { s with heap:=s.heap.push (Cy a) } (.ref l) "list" := f.typeIs;refine⟨t,codeAny_call_builtin F.called_set.init.plain F.entry_set_init (check_set_init_1 t ?_)⟩;have G:=F.sub_list_set;have H:=F.sub_list_frozenset;unfold Builtin.«set.__init__» noKeywords Builtin.Frozenset.updateFrom;have j:∀A E Q,Q (.ref (s.heap.push (Cy a)).objs.size) { s with heap:=(s.heap.push (Cy a)).push { cls:=.type "list_iterator",data:=.fields #[.ref l,.int 0 0] } }->wpAny (model prog w) A (pyIter (.ref l)) Q E { s with heap:=s.heap.push (Cy a) }:=λA E Q z=>wpAny_pyIter_list f z
 wp_walk using j
 have p:(s.heap.push (Cy a)).objs.size=s.heap.objs.size+1:=Heap.size_push ..;refine Qr (l:=l) (ss:=ss) (by simp[v]) (by rw[p];exact AAc (AAg u)) (by rw[p];exact AAc (Nat.lt_succ_self _)) (Nat.ne_of_gt u) y h ss.length 0 _ (Nat.sub_zero _) (AAi _) ⟨_,AAD _ rfl,rfl,rfl⟩ (f.push _) ?start λi n C D=>?fin
 case start=>
  exact(setObjOf_fresh a).setOf (AAC _ d) (by decide)
 case fin=>
  have m:∀{c:Addr} {o:Obj},s.heap.get? c=some o->c<s.heap.objs.size:=Heap.lt_size;exact AAB (AAB ⟨rfl,q i n (λc o e=>C c o (AAc (m e)) (by rw[p];exact AAc (AAg (m e))) (AAC _ (AAC _ e))) D⟩)
end
noncomputable def aS(P:Program)(w:World)(p:Addr)(ss:List Int):HO:=.ext λh=>h.SetOf (intKind P w) p (λk=>decide (k∈Cc ss)) (Cc ss).length
section
variable{X:Cx}
theorem Oz(i:X.calm=true):B7 X (.type "set") (λxs H Q=>∃a ss,xs=[.ref a]/\SqL X.kw H a (ss.map V.int)/\ss.length+2<scanBound/\∀p,H p=none->Q (.ref p) (upd H p (aS X.prog X.w p ss))):=by
 intro x s O H xs y Q I r h;obtain⟨a,ss,rfl,j,c,q⟩:=h;obtain⟨u,rfl,l⟩:=Vals.one r;cases l;obtain⟨m,n,v,A⟩:=I.list j;refine Rg (I.ok.hd i) v.isList n c λB C w d=>⟨.ref _,_,I.laid w (AAE _) ?_,rfl,q _ (I.hok.fresh (AAE _))⟩;obtain⟨o,f,g,t,e,b⟩:=id d;refine⟨d,⟨o,e⟩,λD E z k=>?_⟩;obtain⟨o,f,g,t,e,b⟩:=z;exact⟨o,f,g,t,k o e,b⟩
theorem Rj:B7 X (.builtin "len") (λxs H Q=>∃p ss,xs=[.ref p]/\H p=some (aS X.prog X.w p ss)/\Q (.int (Cc ss).length) H):=by
 intro k s O H xs l Q I r h;obtain⟨p,ss,rfl,a,q⟩:=h;obtain⟨u,rfl,b⟩:=Vals.one r;cases b;obtain⟨c,_⟩:=I.hok p _ a;obtain⟨o,m,n,t,e,d,f,_,_,g,i,j⟩:=c;refine call_len_set e d f i (by unfold scanBound at g;lia) ?_;rw[j];exact⟨.int _,H,I.tok _,⟨_,rfl⟩,q⟩
end
end L2
namespace Mi
open PySem L2 Ht Nk
noncomputable def Ii(d:D):M D:=bnd (EZ d) λb=>λZ=>match DU b with
 |some a=>if a.length+2<scanBound then some (.int (Cc a).length,Z) else none
 |none=>none
section
variable{X:Cx}{e:Expr}{pos p p2 pos2:Pos}
theorem OF(o:X.mg "len" = none)(ys:X.mg "set" = none)(r:RE X e m)(s:X.calm=true:=by rfl)(g:Gl X "len" := by rfl)(i:Gl X "set" := by rfl)(b:Jk e=false:=by rfl):
  RE X (.Call (.Name "len" p) [.Call (.Name "set" p2) [e] [] pos2] [] pos) (mUn Ii m):=by
 have t:PE X (.Call (.Name "set" p2) [e] [] pos2) _:=Eg (Oz s) i ys Mi.Uy (F5 r.pe Hb (BI b)) (by decide) (by decide) (BI b) rfl;refine RE.wk (M8 Rj g o Mi.BS (F5 t Hb (BI rfl)) (by decide) (by decide) (BI rfl) rfl) λO H Q h=>?_;obtain⟨Y,Z,B,d,u,R,S,v,q⟩:=h;obtain⟨x,w,y,z⟩:=AI v;obtain⟨A,P,C,f⟩:=AI z;refine⟨Y,Z,B,x,w,R,S,y,λE T F n U G=>?_⟩;obtain⟨I,a,W,rfl,J,K⟩:=C9 n G C;subst I;cases j:DU A with
 |none=>rw[j] at f;cases f
 |some k=>
  rw[j] at f;have l:(if k.length+2<scanBound then some _ else none)=some (d,u):=f;split at l
  ·rename_i c;cases l;refine⟨a,k,rfl,by rw[←IsL.ints (by rw[←Fr j];exact K)];exact J,c,λp L=>?_⟩;obtain⟨N,R2⟩:=n.laid (_) L;exact⟨p,k,rfl,Br,q E _ (F.trans N) R2 _ (ofI _)⟩
  ·cases l
end
section
variable{X:Cx}
noncomputable def G3:List D->M D
 |[d]=>bnd (GJ d) λr=>λZ=>some (.lst (r.2.map λy=>csD y.1),Z)
 |_=>Bj
theorem Ut(b:X.calm=true):B7 X (.type "list") (rMA X.kw G3):=λc s O H o f Q I r h=>by
 obtain⟨Y,Z,p,d,t,R,g,e,q⟩:=h;unfold G3 at e;split at e
 ·obtain⟨u,w,i,j⟩:=AI e;obtain⟨v,rfl,k⟩:=FE g;obtain⟨l,_,x,rfl,a,m,n⟩:=Cr R k i;subst l;cases j;exact J2 b c s O H _ f Q I r ⟨_,a,rfl,m,K2 R n.isL q⟩
 ·cases e
end
end Mi
namespace K18
open PySem L2 Mi Nk
open K13 (BK BV Bw By CF B0 CP CG CH Ce CI Ao Ad Aw BX Ai BN Bk Bq Be CK Bf)
open K16 (Bo Bn Bg Cj BW A2 Au A4 BM CC Aj Ar An BA Bb A3 d_NONE BO Eo Co)
open K15 (EE B6 A9 Bh)
open K93 (BY BL A8 CT EI)
noncomputable def Lz  : Sl->M (Fl×Sl):=
  (As (mOp Af (mUn Ii (AA 0)) (AE Bp (AD (AA 0) AK))))
noncomputable def IF(a:List D->M D)(b:List D->M D)(c:List D->M D)(d:List D->M D)(e:List D->M D)(f:List D->M D):Sl->M (Fl×Sl):=
  (AS (AY (AE b (AD (AE a (AD (AA 0) (AD (AA 1) AK))) AK)) (AO 3))
  (AS (sIf (Dx (AN (AE c (AD (AA 2) (AD (AE Bp (AD (AA 3) AK)) AK))))) (As (mC (.bl false))) A6)
  (As (DP (AE d (AD (AA 3) (AD (AA 2) AK))) (DP (AE e (AD (AA 3) (AD (AA 2) AK))) (AE f (AD (AA 3) (AD (AA 2) (AD (mOp AJ (AA 0) (mC (.int 2))) AK)))))))))
noncomputable def Jb  : Sl->M (Fl×Sl):=
  (AS (AY (AE Dv AK) (AO 1))
  (AS (D7 (GP (AD (AA 0) AK)) (Cq [2,3]) (sIf (AN (mOp Af (mOp AJ (AA 3) (mC (.int 0))) (mC (.str "begin")))) (Bt (BG DM (AA 1) (AD (AE Dv (AD (mOp AJ (AA 3) (mC (.int 1))) (AD (mOp AJ (AA 3) (mC (.int 2))) (AD (AA 2) (AD (mC .non) AK))))) AK))) (AS (AY (mOp AJ (AA 1) (mOp AJ (AA 3) (mC (.int 3)))) (AO 4))
  (AS (AY (AA 2) (Hz (AA 4) (mC (.int 3))))
  (sIf (AN (mOp OI (mOp AJ (AA 3) (mC (.int 1))) (mC (.int 0)))) (AY (mOp AJ (AA 3) (mC (.int 2))) (Hz (AA 4) (mC (.int 1)))) A6)))))
  (As (AA 1))))
noncomputable def OX(ST:List D->M D)(a:List D->M D):Sl->M (Fl×Sl):=
  (As (DP (AE EF (AD (AA 0) (AD (mC (.ty "list")) AK))) (DP (AE U2 (AD (Bm 1 [1] (CM (AA 0)) (AO 0) DO (AE ST (AD (AA 0) (AD (mC (.int 0)) (AD (mOp EA (AA 1) (mC (.int 1))) AK)))) BU) AK)) (AE a (AD (AA 0) AK)))))
noncomputable def Hd  : Sl->M (Fl×Sl):=
  (AS (AY Q6 (AO 2))
  (AS (D7 (CM (AA 1)) (AO 3) (EN (AA 2) (AA 3) (mC (.bl true))))
  (As (AE U2 (AD (Bm 2 [2] (GP (AD (AA 0) AK)) (Cq [0,1]) (AN (mOp (CA true) (mOp AJ (AA 1) (mC (.int 3))) (mC .non))) (mOp (Kc false) (AA 0) (AA 2)) BU) AK)))))
noncomputable def KS  : Sl->M (Fl×Sl):=
  (AS (AY (mUn Pm (mC (.int 1))) (AO 2))
  (AS (D7 (CM (AA 1)) (AO 3) (AS (AY (mOp AJ (AA 0) (AA 3)) (AO 4))
  (AS (sIf (Dj (AN (mOp (CA true) (mOp AJ (AA 4) (mC (.int 3))) (mC .non))) (AN (mOp IS (mOp AJ (AA 4) (mC (.int 3))) (AA 2)))) (As (mC (.bl false))) A6)
  (AY (AE Tw (AD (AA 2) (AD (mOp AJ (AA 4) (mC (.int 2))) AK))) (AO 2)))))
  (As (mC (.bl true)))))
noncomputable def Ja  : Sl->M (Fl×Sl):=
  (AS (AY (AA 2) (AO 3))
  (AS (D7 (CM (AA 1)) (AO 4) (AS (AY (mOp AJ (AA 0) (AA 4)) (AO 5))
  (sIf (AN (mOp Af (mOp AJ (AA 5) (mC (.int 0))) (mC (.int 0)))) (AY (mOp AJ (AA 5) (mC (.int 1))) (AO 3)) (sIf (Dj (AN (mOp (CA true) (mOp AJ (AA 5) (mC (.int 3))) (mC .non))) (AN (mOp DA (mOp AJ (AA 5) (mC (.int 1))) (AA 3)))) (As (mC (.bl false))) A6))))
  (As (mC (.bl true)))))
noncomputable def G1(a:List D->M D)(b:List D->M D)(c:List D->M D)(d:List D->M D):Sl->M (Fl×Sl):=
  (AS (AY (mOp EA (AE Bp (AD (mOp AJ (AA 0) (mC (.int 4))) AK)) (mC (.int 1))) (AO 2))
  (AS (AY (L0 (AE BE (AD (mOp AJ (AA 0) (mC (.int 2))) (AD (mC d_NONE) (AD (mOp E9 (AE BE (AD (mC d_NONE) AK)) (AA 2)) AK)))) (mC .non)) (AO 3))
  (AS (AY Q6 (AO 4))
  (AS (D7 (CM (AE a (AD (AA 0) (AD (AA 1) AK)))) (AO 5) (AS (EN (AA 4) (mOp AJ (AA 5) (mC (.int 1))) (mOp AJ (AA 5) (mC (.int 3))))
  (AY (AE c (AD (AE b (AD (AA 3) (AD (AA 5) AK))) (AD (AA 4) AK))) (AO 3))))
  (AS (sIf (Dx (NJ (AA 3))) (As (mC .non)) A6)
  (As (AE d (AD (mOp AJ (mUn Oa (AA 3)) (mC (.int 0))) AK))))))))
noncomputable def JZ(LT:List D->M D)(a:List D->M D):Sl->M (Fl×Sl):=
  (AS (AY Pw (AO 2))
  (AS (Ss (AA 0) (Cq [3,4]) (AS (sIf (AN (mOp Af (mOp AJ (AA 1) (mC (.int 0))) (mC (.str "begin")))) (AY (AE LT (AD (AA 3) (AD (mOp AJ (AA 1) (mC (.int 1))) (AD (mOp AJ (AA 1) (mC (.int 2))) AK)))) (AO 5)) (AY (AE a (AD (AA 3) (AD (mOp AJ (AA 1) (mC (.int 1))) (AD (mOp AJ (AA 1) (mC (.int 2))) AK)))) (AO 5)))
  (sIf (AN (mOp (CA true) (AA 5) (mC .non))) (Ed (AA 2) (AA 5) (AA 4)) A6)))
  (As (AA 2))))
noncomputable def JY(a:List D->M D):Sl->M (Fl×Sl):=
  (AS (AY Pw (AO 2))
  (AS (Ss (AE a (AD (AE G3 (AD (AA 0) AK)) AK)) (Cq [3,4]) (sIf (AN (mOp (CA false) (AA 4) (mC .non))) (Ed (AA 2) (AA 3) (mOp HI (AA 0) (AA 3))) (Ed (AA 2) (AA 3) (AE BE (AD (mOp Dr (AA 1) (mOp AJ (AA 4) (mC (.int 0)))) (AD (mOp HI (AA 2) (mOp AJ (AA 4) (mC (.int 1)))) AK))))))
  (As (AA 2))))
noncomputable def OW  : Sl->M (Fl×Sl):=
  (AS (AY (AE Dv AK) (AO 1))
  (AS (GX GG (AN (mOp (CA true) (AA 0) (mC .non))) (AS (Bt (BG DM (AA 1) (AD (mOp AJ (AA 0) (mC (.int 0))) AK)))
  (AY (mOp AJ (AA 0) (mC (.int 1))) (AO 0))))
  (AS (Bt (FC Yg (AA 1)))
  (As (AA 1)))))
noncomputable def NH  : Sl->M (Fl×Sl):=
  (AS (AY (AE Dv AK) (AO 2))
  (AS (AY Q6 (AO 3))
  (AS (D7 (GP (AD (AA 1) AK)) (Cq [4,5]) (sIf (AN (mOp Af (mOp AJ (AA 5) (mC (.int 0))) (mC (.str "begin")))) (AS (EN (AA 3) (mOp AJ (AA 5) (mC (.int 1))) (AE Bp (AD (AA 2) AK)))
  (Bt (BG DM (AA 2) (AD (AE Dv (AD (AA 4) (AD (mC .non) (AD (mOp AJ (AE BU (AD (mC (.str "reads")) (AD (mC (.str "writes")) AK))) (AE MB (AD (mOp Af (AE Bp (AD (AA 5) AK)) (mC (.int 3))) AK))) (AD (mOp AJ (mOp Av (AA 5) (AE BE (AD (mC .non) AK))) (mC (.int 2))) AK))))) AK)))) (AS (AY (mOp AJ (AA 2) (mOp Dr (AA 3) (mOp AJ (AA 5) (mC (.int 1))))) (AO 6))
  (AS (AY (AA 4) (Hz (AA 6) (mC (.int 1))))
  (sIf (AN (mOp Af (AE Bp (AD (AA 5) AK)) (mC (.int 3)))) (AY (mOp AJ (AA 5) (mC (.int 2))) (Hz (AA 6) (mC (.int 3)))) A6)))))
  (As (AA 2)))))
noncomputable def NI  : Sl->M (Fl×Sl):=
  (AS (sIf (AN (mOp DA (Bm 2 [2] (GP (AD (AA 1) AK)) (Cq [0,1]) (Dj (AN (mOp (CA true) (mOp AJ (AA 1) (mC (.int 1))) (mC .non))) (AN (mOp (FA true) (AA 0) (AA 2)))) (AA 0) BU) (AE BU AK))) (As (mC (.bl false))) A6)
  (AS (AY (mOp AJ (AA 0) (mC (.int 2))) (AO 3))
  (AS (D7 (GP (AD (AA 2) AK)) (Cq [4,5]) (AS (sIf (AN (mOp DA (Bm 1 [1,5] (CM (DT (AA 2) Bv (CN (AA 4)))) (AO 0) (Dj (AN (mOp (CA true) (mOp AJ (mOp AJ (AA 1) (AA 2)) (mC (.int 1))) (mC .non))) (AN (mOp IS (mOp AJ (mOp AJ (AA 1) (AA 2)) (mC (.int 1))) (mOp AJ (mOp AJ (AA 1) (AA 0)) (mC (.int 0)))))) (AA 0) BU) (AE BU AK))) (As (mC (.bl false))) A6)
  (sIf (AN (mOp Af (mOp AJ (mOp AJ (AA 1) (AA 5)) (mC (.int 2))) (mC (.str "writes")))) (AY (mOp AJ (mOp AJ (AA 1) (AA 5)) (mC (.int 3))) (AO 3)) (sIf (Dj (AN (mOp (CA true) (mOp AJ (mOp AJ (AA 1) (AA 5)) (mC (.int 1))) (mC .non))) (AN (mOp DA (mOp AJ (mOp AJ (AA 1) (AA 5)) (mC (.int 3))) (AA 3)))) (As (mC (.bl false))) A6))))
  (As (mC (.bl true))))))
noncomputable def RB(a:List D->M D):Sl->M (Fl×Sl):=
  (AS (AY (AE BU (AD (AE BU AK) AK)) (AO 1))
  (AS (D7 (CM (AA 0)) (AO 2) (AS (AY (Bm 1 [2] (CM (AA 0)) (AO 0) (AN (mOp DA (AA 0) (AA 1))) (AA 0) BU) (AO 3))
  (AY (mOp Av (AA 1) (Bm 1 [2] (CM (AE a (AD (AA 3) AK))) (AO 0) DO (mOp Av (AE BU (AD (AA 1) AK)) (AA 0)) BU)) (AO 1))))
  (As (AA 1))))
noncomputable def Tz(c:List D->M D)(a:List D->M D)(d:List D->M D)(b:List D->M D)(e:List D->M D):Sl->M (Fl×Sl):=
  (AS (AY (AE c (AD (AA 0) (AD (AA 1) AK))) (AO 2))
  (AS (AY (AE Ob (AD (AA 1) AK)) (AO 3))
  (AS (AY (AE a (AD (AA 0) (AD (AA 3) AK))) (AO 4))
  (AS (sIf (mOr (AN (mOp DA (AA 3) (AA 1))) (AN (mOp DA (mOp (CA true) (AA 4) (mC .non)) (AE d (AD (mOp Av (AE BE (AD (mC (.str "whole")) AK)) (DT (AA 0) (CN (mC (.int 1))) Bv)) (AD (AA 1) AK)))))) (As (mC (.bl false))) A6)
  (AS (sIf (AN (mOp (CA false) (AA 4) (mC .non))) (As (mC (.bl true))) A6)
  (AS (sIf (mOr (Dx (AN (AE EF (AD (AA 4) (AD (mC (.ty "list")) AK))))) (mOr (Dx (AN (AE b (AD (AA 0) (AD (AA 1) (AD (AA 4) AK)))))) (Dx (AN (AE e (AD (AA 0) (AD (AA 2) (AD (AA 4) AK)))))))) (As (mC (.bl false))) A6)
  (AS (Bt (BG DM (AA 4) (AD (mC (.int 0)) AK)))
  (AS (AY (AE a (AD (AA 0) (AD (AA 1) AK))) (AO 5))
  (As (DP (mOp (CA true) (AA 5) (mC .non)) (AE b (AD (AA 0) (AD (AA 1) (AD (AA 5) AK))))))))))))))
noncomputable def bJ(b:List D->M D)(c:List D->M D)(d:List D->M D)(e:List D->M D)(a:List D->M D)(f:List D->M D)(g:List D->M D)(h:List D->M D)(i:List D->M D):Sl->M (Fl×Sl):=
  (AS (AY (AE b (AD (AA 0) (AD (mC (.int 0)) AK))) (AO 1))
  (AS (AY (AE c (AD (mOp Cd (AA 1) (mC (.int 3))) (AD (mOp AJ (AE BU (AD (mC (.str "safe")) (AD (mC (.str "steady")) (AD (mC (.str "whole")) AK)))) (mOp Cv (AA 1) (mC (.int 3)))) AK))) (AO 2))
  (AS (AY (AE d (AD (AA 2) (AD (DT (AA 0) (CN (mC (.int 1))) (CN (mOp EA (mC (.int 15)) (mOp Gv (mC (.int 5)) (AE MB (AD (mOp OI (AE Bp (AD (mOp AJ (AA 2) (mC (.int 4))) AK)) (mC (.int 3))) AK)))))) AK))) (AO 3))
  (AS (AY (AE BU AK) (AO 4))
  (AS (D7 (Kv (AD (mOp Av (AE Bp (AD (AA 3) AK)) (mC (.int 1))) AK)) (AO 5) (AS (sIf (Dx (AN (AE e (AD (AA 2) (AD (DT (AA 3) Bv (CN (AA 5))) AK))))) (As (mC (.bl false))) A6)
  (sIf (AN (mOp HZ (AE Bp (AD (AE a (AD (AA 2) (AD (DT (AA 3) Bv (CN (AA 5))) AK))) AK)) (mC (.int 5)))) (AY (DT (AA 3) Bv (CN (AA 5))) (AO 4)) A6)))
  (AS (AY (AE a (AD (AA 2) (AD (AA 4) AK))) (AO 6))
  (AS (AY (Bm 1 [6,2] (CM (AE f (AD (mUn (M4 D.lst) (AE Bp (AD (AA 6) AK))) AK))) (AO 0) (AN (AE g (AD (AA 2) (AD (AA 1) (AD (AA 0) AK))))) (AA 0) BU) (AO 7))
  (AS (sIf (AN (mOp DA (Bm 1 [4,2] (CM (AA 7)) (AO 0) (Dx (AN (AE h (AD (AA 2) (AD (AA 1) (AD (AA 0) AK)))))) (AA 0) BU) (AE BU AK))) (As (mC (.bl false))) A6)
  (As (mOp Af (mOp (CA false) (AE i (AD (AA 2) (AD (AA 4) AK))) (mC .non)) (mOp Af (AA 7) (AE BU AK))))))))))))
noncomputable def top(i:Nat):Stmt:=PySem.Challenge.pw_strongboxes_k18_an_order_just_where_a_wh.main.body.getD i (.Pass ⟨0,0,0,0⟩)
section
noncomputable abbrev Sr:Stmt:=top 9
noncomputable abbrev GN:Stmt:=top 4
theorem sc_claim_begun:Ab ["making", "readers"] ["making"] (AQ GN):=⟨rfl,rfl,rfl,by decide +kernel,rfl,by decide +kernel,by decide +kernel⟩
noncomputable abbrev Fe:Stmt:=top 5
theorem sc_claim_writes:Ab ["making", "claim", "worth", "tells"] ["making", "claim", "worth"] (AQ Fe):=⟨rfl,rfl,rfl,by decide +kernel,rfl,by decide +kernel,by decide +kernel⟩
noncomputable abbrev FO:Stmt:=top 6
theorem sc_claim_written:Ab ["making", "claim"] ["making", "claim"] (AQ FO):=⟨rfl,rfl,rfl,by decide +kernel,rfl,by decide +kernel,by decide +kernel⟩
noncomputable abbrev GM:Stmt:=top 7
theorem sc_claim_reads:Ab ["making", "claim", "reader", "told"] ["making", "claim", "reader"] (AQ GM):=⟨rfl,rfl,rfl,by decide +kernel,rfl,by decide +kernel,by decide +kernel⟩
noncomputable abbrev Gn:Stmt:=top 8
theorem sc_claim_told:Ab ["making", "claim", "reader", "worth", "left"] ["making", "claim", "reader", "worth"] (AQ Gn):=⟨rfl,rfl,rfl,by decide +kernel,rfl,by decide +kernel,by decide +kernel⟩
noncomputable abbrev Gk:Stmt:=top 10
theorem sc_with_thing:Ab ["things", "place", "thing"] ["things", "place", "thing"] (AQ Gk):=⟨rfl,rfl,rfl,by decide +kernel,rfl,by decide +kernel,by decide +kernel⟩
noncomputable abbrev Gp:Stmt:=top 11
theorem sc_case_begun:Ab ["case", "hand", "worth"] ["case", "hand", "worth"] (AQ Gp):=⟨rfl,rfl,rfl,by decide +kernel,rfl,by decide +kernel,by decide +kernel⟩
noncomputable abbrev Go:Stmt:=top 12
theorem sc_case_ended:Ab ["case", "hand", "worth"] ["case", "hand", "worth"] (AQ Go):=⟨rfl,rfl,rfl,by decide +kernel,rfl,by decide +kernel,by decide +kernel⟩
noncomputable abbrev GO:Stmt:=top 13
theorem sc_cases_ended:Ab ["cases", "hand", "worth", "ended"] ["cases", "hand", "worth"] (AQ GO):=⟨rfl,rfl,rfl,by decide +kernel,rfl,by decide +kernel,by decide +kernel⟩
noncomputable abbrev Mt:Stmt:=top 14
theorem sc_closed:Ab ["cases"] ["cases"] (AQ Mt):=⟨rfl,rfl,rfl,by decide +kernel,rfl,by decide +kernel,by decide +kernel⟩
noncomputable abbrev Kl:Stmt:=top 15
theorem sc_reached:Ab ["cases", "ways", "case", "waiting", "hand", "later"] ["cases"] (AQ Kl):=⟨rfl,rfl,rfl,by decide +kernel,rfl,by decide +kernel,by decide +kernel⟩
noncomputable abbrev Fc:Stmt:=top 16
theorem sc_moments_from:Ab ["case", "later", "reader", "told"] ["case"] (AQ Fc):=⟨rfl,rfl,rfl,by decide +kernel,rfl,by decide +kernel,by decide +kernel⟩
noncomputable abbrev JK:Stmt:=top 18
theorem sc_is_whole:Ab ["thing", "least", "most"] ["thing", "least", "most"] (AQ JK):=⟨rfl,rfl,rfl,by decide +kernel,rfl,by decide +kernel,by decide +kernel⟩
noncomputable abbrev JL:Stmt:=top 23
theorem sc_is_tuple:Ab ["thing", "least", "most"] ["thing", "least", "most"] (AQ JL):=⟨rfl,rfl,rfl,by decide +kernel,rfl,by decide +kernel,by decide +kernel⟩
noncomputable abbrev Gq:Stmt:=top 24
theorem sc_are_unlike:Ab ["names"] ["names"] (AQ Gq):=⟨rfl,rfl,rfl,by decide +kernel,rfl,by decide +kernel,by decide +kernel⟩
noncomputable abbrev Ms:Stmt:=top 27
theorem sc_judged:Ab ["making", "events", "claim", "act"] ["making", "events"] (AQ Ms):=⟨rfl,rfl,rfl,by decide +kernel,rfl,by decide +kernel,by decide +kernel⟩
noncomputable abbrev Ff:Stmt:=top 28
theorem sc_claim_behind:Ab ["making", "claim", "act", "begins", "reader"] ["making", "claim", "act"] (AQ Ff):=⟨rfl,rfl,rfl,by decide +kernel,rfl,by decide +kernel,by decide +kernel⟩
noncomputable abbrev Km:Stmt:=top 29
theorem sc_acts_of:Ab ["making", "events", "names", "going", "acts", "begun", "number", "event", "hand"] ["making", "events"] (AQ Km):=⟨rfl,rfl,rfl,by decide +kernel,rfl,by decide +kernel,by decide +kernel⟩
noncomputable abbrev JN:Stmt:=top 30
theorem sc_is_event:Ab ["thing", "names", "size"] ["thing", "names", "size"] (AQ JN):=⟨rfl,rfl,rfl,by decide +kernel,rfl,by decide +kernel,by decide +kernel⟩
noncomputable abbrev ID:Stmt:=top 32
theorem sc_bears_out:Ab ["making", "events", "order", "deeds"] ["making", "events", "order"] (AQ ID):=⟨rfl,rfl,rfl,by decide +kernel,rfl,by decide +kernel,by decide +kernel⟩
noncomputable abbrev JO:Stmt:=top 33
theorem sc_deeds_of:Ab ["acts", "deeds", "place", "act", "deed"] ["acts"] (AQ JO):=⟨rfl,rfl,rfl,by decide +kernel,rfl,by decide +kernel,by decide +kernel⟩
noncomputable abbrev JM:Stmt:=top 34
theorem sc_is_order:Ab ["thing", "count"] ["thing", "count"] (AQ JM):=⟨rfl,rfl,rfl,by decide +kernel,rfl,by decide +kernel,by decide +kernel⟩
noncomputable abbrev Ec:Stmt:=top 35
theorem sc_has_ended_ones:Ab ["deeds", "order", "there", "number"] ["deeds", "order"] (AQ Ec):=⟨rfl,rfl,rfl,by decide +kernel,rfl,by decide +kernel,by decide +kernel⟩
noncomputable abbrev GL:Stmt:=top 36
theorem sc_keeps_times:Ab ["deeds", "order", "latest", "number", "deed"] ["deeds", "order"] (AQ GL):=⟨rfl,rfl,rfl,by decide +kernel,rfl,by decide +kernel,by decide +kernel⟩
noncomputable abbrev Fd:Stmt:=top 37
theorem sc_keeps_worths:Ab ["deeds", "order", "begin", "worth", "number", "deed"] ["deeds", "order", "begin"] (AQ Fd):=⟨rfl,rfl,rfl,by decide +kernel,rfl,by decide +kernel,by decide +kernel⟩
noncomputable abbrev Gm:Stmt:=top 38
theorem sc_moments_of:Ab ["making", "events", "readers", "paths", "going", "act"] ["making", "events"] (AQ Gm):=⟨rfl,rfl,rfl,by decide +kernel,rfl,by decide +kernel,by decide +kernel⟩
noncomputable abbrev Fb:Stmt:=top 39
theorem sc_paths_behind:Ab ["paths", "act", "later", "case", "path", "behind"] ["paths", "act"] (AQ Fb):=⟨rfl,rfl,rfl,by decide +kernel,rfl,by decide +kernel,by decide +kernel⟩
noncomputable abbrev Fa:Stmt:=top 40
theorem sc_with_moments:Ab ["paths", "going", "found", "case", "way"] ["paths", "going"] (AQ Fa):=⟨rfl,rfl,rfl,by decide +kernel,rfl,by decide +kernel,by decide +kernel⟩
noncomputable abbrev JJ:Stmt:=top 41
theorem sc_order_of:Ab ["path", "order"] ["path"] (AQ JJ):=⟨rfl,rfl,rfl,by decide +kernel,rfl,by decide +kernel,by decide +kernel⟩
noncomputable abbrev JP:Stmt:=top 43
theorem sc_Lcell_at:Ab ["_law_script", "_law_k"] ["_law_script", "_law_k"] (AQ JP):=⟨rfl,rfl,rfl,by decide +kernel,rfl,by decide +kernel,by decide +kernel⟩
noncomputable abbrev Kn:Stmt:=top 44
theorem sc_Lstream:Ab ["_law_cell", "_law_many", "_law_found", "_law_number", "_law_k"] ["_law_cell", "_law_many"] (AQ Kn):=⟨rfl,rfl,rfl,by decide +kernel,rfl,by decide +kernel,by decide +kernel⟩
noncomputable abbrev Kp:Stmt:=top 45
theorem sc_Lmaking:Ab ["_law_x", "_law_kind", "_law_size", "_law_names", "_law_readers", "_law_hands"] ["_law_x", "_law_kind"] (AQ Kp):=⟨rfl,rfl,rfl,by decide +kernel,rfl,by decide +kernel,by decide +kernel⟩
noncomputable abbrev Mv:Stmt:=top 46
theorem sc_Lworth:Ab ["_law_making_here", "_law_written", "_law_x", "_law_some"] ["_law_making_here", "_law_written", "_law_x"] (AQ Mv):=⟨rfl,rfl,rfl,by decide +kernel,rfl,by decide +kernel,by decide +kernel⟩
noncomputable abbrev Kq:Stmt:=top 47
theorem sc_Levents:Ab ["_law_making_here", "_law_cells", "_law_busy", "_law_events_here", "_law_written", "_law_names", "_law_cell", "_law_x", "_law_name", "_law_worth_here", "_law_event"] ["_law_making_here", "_law_cells"] (AQ Kq):=⟨rfl,rfl,rfl,by decide +kernel,rfl,by decide +kernel,by decide +kernel⟩
noncomputable abbrev Mx:Stmt:=top 48
theorem sc_Ldeeds:Ab ["_law_making_here", "_law_events_here", "_law_found", "_law_at", "_law_k", "_law_event", "_law_deed"] ["_law_making_here", "_law_events_here"] (AQ Mx):=⟨rfl,rfl,rfl,by decide +kernel,rfl,by decide +kernel,by decide +kernel⟩
noncomputable abbrev My:Stmt:=top 49
theorem sc_Lbears:Ab ["_law_making_here", "_law_deeds_here", "_law_order", "_law_worth_here", "_law_place", "_law_k"] ["_law_making_here", "_law_deeds_here", "_law_order"] (AQ My):=⟨rfl,rfl,rfl,by decide +kernel,rfl,by decide +kernel,by decide +kernel⟩
noncomputable abbrev Ko:Stmt:=top 50
theorem sc_Lorders:Ab ["_law_things", "_law_found", "_law_thing", "_law_rest"] ["_law_things"] (AQ Ko):=⟨rfl,rfl,rfl,by decide +kernel,rfl,by decide +kernel,by decide +kernel⟩
noncomputable abbrev Mw:Stmt:=top 51
theorem sc_Lright:Ab ["_law_making_here", "_law_events_here", "_law_deeds_here", "_law_handed", "_law_found", "_law_again"] ["_law_making_here", "_law_events_here"] (AQ Mw):=⟨rfl,rfl,rfl,by decide +kernel,rfl,by decide +kernel,by decide +kernel⟩
noncomputable abbrev XQ:Stmt:=top 52
theorem sc_law:Ab ["_law_script", "_law_first", "_law_making_here", "_law_events_here", "_law_asked", "_law_many", "_law_deeds_here", "_law_some"] ["_law_script"] (AQ XQ):=⟨rfl,rfl,rfl,by decide +kernel,rfl,by decide +kernel,by decide +kernel⟩
end
noncomputable def EJ:List D->M D:=J4 7 2 (NH)
noncomputable def Cg:List D->M D:=HJ .all 6 2 (JZ Ar An)
noncomputable def Cf:List D->M D:=HJ .all 5 2 (JY Bb)
noncomputable def EH:List D->M D:=HJ .all 2 1 (OW)
noncomputable def Ck:List D->M D:=IN 6 2 (G1 Ai Cg Cf EH)
noncomputable def FG:List D->M D:=J4 5 1 (Jb)
noncomputable def FH:List D->M D:=Az .drop 1 1 (Lz)
noncomputable def FF:List D->M D:=Az .drop 2 2 (OX Aw FH)
noncomputable def Cm:List D->M D:=Az .drop 4 2 (Hd)
noncomputable def DZ:List D->M D:=Az .drop 5 2 (KS)
noncomputable def DH:List D->M D:=Az .drop 6 3 (Ja)
noncomputable def Dg:List D->M D:=JF 2 (Az .drop 4 3 (IF Ai FG FF Cm DZ DH))
noncomputable def Fv:List D->M D:=JF 2 (Az .drop 6 3 (NI))
noncomputable def Fu:List D->M D:=Az .drop 6 2 (Tz EJ Ck CT Dg Fv)
noncomputable def Em:Nat->List D->M D
 |0=>λ_=>Bj
 |n+1=>Az .drop 4 1 (RB (Em n))
noncomputable def UU:List D->M D:=Az .drop 8 1 (bJ Bk Be Bf Fu EJ (Em 8) Fv Dg Ck)
end K18
namespace Mi
section
variable{α:Type}{P:List α->Prop}
theorem lq1(h:∀a,P [a]):∀b:List α,b.length=1->P b:=λb e=>by
 rcases b with _|⟨a,b⟩
 ·cases e
 simp_all
theorem lqs(h:∀a,∀b:List α,b.length=n->P (a::b)):∀b:List α,b.length=n+1->P b:=λb e=>by
 rcases b with _|⟨a,b⟩
 ·cases e
 ·exact h a b (Nat.succ.inj e)
theorem lq2(h:∀a b,P [a,b]):∀c:List α,c.length=2->P c:=lqs λa=>lq1 (h a)
theorem lq3(h:∀a b c,P [a,b,c]):∀d:List α,d.length=3->P d:=lqs λa=>lq2 (h a)
theorem lq4(h:∀a b c d,P [a,b,c,d]):∀e:List α,e.length=4->P e:=lqs λa=>lq3 (h a)
end
end Mi
namespace K18
open PySem L2 Mi Nk
open K13 (BK BV Bw By CF B0 CP CG CH Ce CI Ao Ad Aw BX Ai BN Bk Bq Be CK Bf)
open K16 (Bo Bn Bg Cj BW A2 Au A4 BM CC Aj Ar An BA Bb A3 d_NONE BO Eo Co)
open K15 (EE B6 A9 Bh)
open K93 (BY BL A8 CT EI)
structure Al(w:World)(K:PySem.W.Frag)(mg:Str->Option Value)(h:Heap):Prop where
 X:K.In h
 G:h.Ns mainGlobals mg
 e0:∃f fd,Df K "_law_cell_at" JP f fd
 e1:∃f fd,Df K "_law_making" Kp f fd
 e2:∃f fd,Df K "_law_stream" Kn f fd
 e3:∃f fd,Df K "_law_worth" Mv f fd
 e4:∃f fd,Df K "_law_events" Kq f fd
 e5:∃f fd,Df K "_law_deeds" Mx f fd
 e6:∃f fd,Df K "is_tuple" JL f fd
 e7:∃f fd,Df K "is_whole" JK f fd
 e8:∃f fd,Df K "is_event" JN f fd
 e9:∃f fd,Df K "acts_of" Km f fd
 e10:∃f fd,Df K "with_thing" Gk f fd
 e11:∃f fd,Df K "case_begun" Gp f fd
 e12:∃f fd,Df K "case_ended" Go f fd
 e13:∃f fd,Df K "paths_behind" Fb f fd
 e14:∃f fd,Df K "moments_from" Fc f fd
 e15:∃f fd,Df K "reached" Kl f fd
 e16:∃f fd,Df K "with_moments" Fa f fd
 e17:∃f fd,Df K "order_of" JJ f fd
 e18:∃f fd,Df K "moments_of" Gm f fd
 e19:∃f fd,Df K "claim_begun" GN f fd
 e20:∃f fd,Df K "closed" Mt f fd
 e21:∃f fd,Df K "beside" Sr f fd
 e22:∃f fd,Df K "claim_writes" Fe f fd
 e23:∃f fd,Df K "cases_ended" GO f fd
 e24:∃f fd,Df K "claim_written" FO f fd
 e25:∃f fd,Df K "claim_reads" GM f fd
 e26:∃f fd,Df K "claim_told" Gn f fd
 e27:∃f fd,Df K "claim_behind" Ff f fd
 e28:∃f fd,Df K "judged" Ms f fd
 e29:∃f fd,Df K "deeds_of" JO f fd
 e30:∃f fd,Df K "are_unlike" Gq f fd
 e31:∃f fd,Df K "is_order" JM f fd
 e32:∃f fd,Df K "has_ended_ones" Ec f fd
 e33:∃f fd,Df K "keeps_times" GL f fd
 e34:∃f fd,Df K "keeps_worths" Fd f fd
 e35:∃f fd,Df K "bears_out" ID f fd
 e36:∃f fd,Df K "_law_bears" My f fd
 e37:∃f fd,Df K "_law_right" Mw f fd
 e38:∃f fd,Df K "_law_orders" Ko f fd
 e39:∃f fd,Df K "law" XQ f fd
 y0:mg "all" = none
 y1:mg "bool" = none
 y2:mg "enumerate" = none
 y3:mg "int" = none
 y4:mg "isinstance" = none
 y5:mg "len" = none
 y6:mg "list" = none
 y7:mg "max" = none
 y8:mg "range" = none
 y9:mg "set" = none
 y10:mg "sorted" = none
 y11:mg "tuple" = none
 g0:Glo K mg "HAD" Eo
 g1:Glo K mg "NONE" d_NONE
 g2:Glo K mg "NO_WORTH" BO
 g3:Glo K mg "WAITS" Co
section
variable{P:Program}{w:World}{K:PySem.W.Frag}{mg:Str->Option Value}{base h:Heap}(a:Al w K mg h)
include a
theorem PH:Fn P w K mg base "_law_cell_at" ["_law_script", "_law_k"] 1 (Bk):=by
 obtain⟨f,b,d⟩:=a.e0;exact Ay (k:=0) .drop d.F sc_Lcell_at (PySem.W.mg_of a.X a.G d.a) (d.F.binds λ_ _ _ _ _ _=>lq2 λ_ _=>rfl) (λ_ _ _ _ _ _ c=>have e:=sc_Lcell_at.nd;(AG (A5 (AZ WY (AB 1) (Ap DK a.y5 Mi.BS (AC (AB 0) AH))) (AL (Aa (AR AW (AB 0) (AB 1)))) Ag) (AL (Aa AF))))
theorem Rr:Fn P w K mg base "_law_making" ["_law_x", "_law_kind"] 1 (Be):=by
 obtain⟨f,e,d⟩:=a.e1;exact Ay (k:=0) .drop d.F sc_Lmaking (PySem.W.mg_of a.X a.G d.a) (d.F.binds λ_ _ _ _ _ _=>lq2 λ_ _=>rfl) (λ_ _ _ _ _ _ g=>have c:=sc_Lmaking.nd;(AG (AV 2 c (Ah B2 AF (Ah EC (Ah DE (AB 0) AF) AF))) (AG (AV 3 c (AR AW (Cu (AC (Cu (AC A1 (AC A1 (AC A1 (AC A1 AH))))) (AC (Cu (AC A1 (AC A1 (AC A1 (AC A1 AH))))) (AC (Cu (AC A1 (AC A1 (AC A1 (AC A1 AH))))) AH)))) (Ah EC (Ah DE (AB 0) AF) AF))) (AG (AV 4 c (Ah B2 AF (Ah EC (Ah DE (AB 0) AF) AF))) (AG (OG (co:=none) (tgs:=["_law_name"]) ⟨⟨rfl,by decide +kernel,by decide +kernel,trivial,rfl,by decide +kernel⟩,rfl,⟨_,CY,λ_ _ _ _=>Aq (i:=0) (show List.Nodup (["_law_name"]:List Str) from by decide +kernel) rfl (Or.inl rfl)⟩,λ_ _ _ _=>Ci,λ_ _ _ _=>(BC (AC (AB 0) (AC AF (AC (BC AH) AH))))⟩ (B1 (D9 (AB 3) DW (C1 (Ah B2 AF (AB 4))))) GH c) (AL (Aa (BC (AC (AB 1) (AC (AB 2) (AC (Ah EC (Ah DE (AB 0) AF) (AB 2)) (AC (BC AH) (AC (Ch MJ a.y11 Mi.FK (AC (AB 5) AH)) AH)))))))))))))
theorem Ro:Fn P w K mg base "_law_stream" ["_law_cell", "_law_many"] 1 (Bq):=by
 obtain⟨f,e,d⟩:=a.e2;exact Ay (k:=0) .drop d.F sc_Lstream (PySem.W.mg_of a.X a.G d.a) (d.F.binds λ_ _ _ _ _ _=>lq2 λ_ _=>rfl) (λ_ _ _ _ _ _ c=>have b:=sc_Lstream.nd;(AG (AV 2 b (DB AH)) (AG (AV 3 b (Ah DE (AB 0) AF)) (AG (JQ GG PassesOwn.never (RW.rt (E7 (AZ (CV c) (Ah EC (AB 0) AF) AF) (E7 (AZ ZG (AB 3) AF) (EO (AZ WY (Ap DK a.y5 Mi.BS (AC (AB 2) AH)) (AB 1)))))) (AG (B8 (Bu PySem.F.slot_list_append PySem.F.type_list_append CD (AB 2) (AC (Ah EC (AB 3) (Ah Xa AF AF)) AH))) (AL (AV 3 b (Ah DE (AB 3) (Ah Xa AF AF)))))) (AG (AV 3 b (Ah EC (Ah NA (Ah B2 (Ah DE (AB 0) AF) AF) AF) AF)) (AG (C3 PassesOwn.never rfl (Kr a.y8 (AC (AB 1) AH)) (DX 4 b) (AG (AV 3 b (Ah EC (Ah NA (AB 3) (Ah B2 (Ah B2 (Ah DE (AB 3) AF) AF) (AB 4))) AF)) (AG (B8 (Bu PySem.F.slot_list_append PySem.F.type_list_append CD (AB 2) (AC (Ah EC (Ah NA (AB 3) (Ah B2 (Ah DE (AB 3) AF) AF)) AF) AH))) (AL (AV 3 b (Ah B2 (AB 3) AF)))))) (AL (Aa (D9 (AB 2) DW (C1 (AB 1)))))))))))
theorem U6:Fn P w K mg base "_law_worth" ["_law_making_here", "_law_written", "_law_x"] 1 (CK):=by
 obtain⟨f,c,d⟩:=a.e3;exact Ay (k:=0) .drop d.F sc_Lworth (PySem.W.mg_of a.X a.G d.a) (d.F.binds λ_ _ _ _ _ _=>lq3 λ_ _ _=>rfl) (λ_ _ _ _ _ _ e=>have b:=sc_Lworth.nd;(AG (AV 3 b (Ah B2 (D9 (AB 1) (C1 (XV Xb AF)) DW) (Cu (AC (Ah EC (Ah DE (AB 2) AF) (AR AW (AB 0) AF)) (AC (AR AW (AB 0) AF) AH))))) (AL (Aa (AR AW (AB 3) (Ah EC (AB 2) (Ap DK a.y5 Mi.BS (AC (AB 3) AH))))))))
theorem Rs:Fn P w K mg base "_law_events" ["_law_making_here", "_law_cells"] 2 (Bf):=by
 obtain⟨f,g,d⟩:=a.e4;exact Ay (k:=1) .frz d.F sc_Levents (PySem.W.mg_of a.X a.G d.a) (d.F.binds λ_ _ _ _ _ _=>lq2 λ_ _=>rfl) (λ_ _ _ _ _ _ e=>have c:=sc_Levents.nd;(AG (AV 2 c (DB AH)) (AG (AV 3 c (DB AH)) (AG (AV 4 c (DB (AC (AR AW (AB 0) AF) AH))) (AG (OG (co:=none) (tgs:=["_law_hand"]) ⟨⟨rfl,by decide +kernel,by decide +kernel,trivial,rfl,by decide +kernel⟩,rfl,⟨_,CY,λ_ _ _ _=>Aq (i:=0) (show List.Nodup (["_law_hand"]:List Str) from by decide +kernel) rfl (Or.inl rfl)⟩,λ_ _ _ _=>Ci,λ_ _ _ _=>(AR AW (AB 0) AF)⟩ (B1 (AR AW (AB 0) AF)) GH c) (AG (C3 PassesOwn.never rfl (B1 (AB 1)) (DX 6 c) (AG (AV 7 c (AR AW (Am (Ro a) e (AC (AB 6) (AC AF AH))) AF)) (AG (AV 8 c (AR AW (AB 5) (Ah EC (AB 7) (Ap DK a.y5 Mi.BS (AC (AB 5) AH))))) (AG (A5 (AZ (CV e) (Ah EC (Ah DE (AB 7) AF) AF) AF) (AL (AV 8 c (AR AW (AB 5) AF))) Ag) (AG (AV 9 c (Ah EC (Ah DE (AB 7) AF) (AR AW (AB 0) AF))) (AG (AV 10 c (BC (AC (AR AW (Cu (AC A1 (AC A1 AH))) (Ch Uu a.y3 Mi.HK (AC (C4 bE (AB 8) (AB 2)) AH))) (AC (AB 8) AH)))) (AG (A5 (RW.rt (E7 (AZ (CV e) (AB 8) (AR AW (AB 5) AF)) (EO (AZ (CV e) (AR AW (AB 10) AF) A1)))) (AG (AV 10 c (Ah B2 (AB 10) (BC (AC (AB 9) AH)))) (AL (B8 (Bu PySem.F.slot_list_append PySem.F.type_list_append CD (AB 4) (AC (AB 9) AH))))) Ag) (AG (A5 (RW.rt (E7 (AZ (KR e) (AB 8) (AR AW (AB 5) AF)) (EO (AZ (CV e) (AR AW (AB 10) AF) A1)))) (AL (AV 10 c (Ah B2 (AB 10) (BC (AC (Am (U6 a) e (AC (AB 0) (AC (AB 4) (AC (Ah DE (AB 7) AF) AH)))) AH))))) Ag) (AG (B8 (Bu PySem.F.slot_list_append PySem.F.type_list_append CD (AB 3) (AC (AB 10) AH))) (AL (A5 (AZ bE (AB 8) (AB 2)) (AL (B8 (Bu PySem.F.slot_list_remove PySem.F.type_list_remove Tx (AB 2) (AC (AB 8) AH)))) (AL (B8 (Bu PySem.F.slot_list_append PySem.F.type_list_append CD (AB 2) (AC (AB 8) AH))))))))))))))) (AL (Aa (AB 3)))))))))
theorem KM:Fn P w K mg base "_law_deeds" ["_law_making_here", "_law_events_here"] 1 (EJ):=by
 obtain⟨f,e,d⟩:=a.e5;exact NU (k:=0) d.F sc_Ldeeds (PySem.W.mg_of a.X a.G d.a) (d.F.binds λ_ _ _ _ _ _=>lq2 λ_ _=>rfl) (λ_ _ _ _ _ _ b=>have c:=sc_Ldeeds.nd;(AG (AV 2 c (DB AH)) (AG (AV 3 c Ia) (AG (C3 PassesOwn.never rfl (Ee a.y2 (AC (AB 1) AH)) (Fi (is:=[4,5]) rfl (BR (Aq (i:=4) c rfl (by first|exact Or.inl rfl|exact Or.inr rfl)) (BR (Aq (i:=5) c rfl (by first|exact Or.inl rfl|exact Or.inr rfl)) DY))) (AL (A5 (AZ (CV b) (AR AW (AB 5) AF) A1) (AG (IZ b (AB 3) (AR AW (AB 5) AF) (Ap DK a.y5 Mi.BS (AC (AB 2) AH))) (AL (B8 (Bu PySem.F.slot_list_append PySem.F.type_list_append CD (AB 2) (AC (DB (AC (AB 4) (AC Bd (AC (AR AW (Cu (AC A1 (AC A1 AH))) (Ch Uu a.y3 Mi.HK (AC (C4 (CV b) (Ap DK a.y5 Mi.BS (AC (AB 5) AH)) AF) AH))) (AC (AR AW (Ah B2 (AB 5) (BC (AC Bd AH))) AF) AH))))) AH))))) (AG (AV 6 c (AR AW (AB 2) (Lq b (AB 3) (AR AW (AB 5) AF)))) (AG (Lo (AB 4) (Lp (AB 6) AF)) (AL (A5 (AZ (CV b) (Ap DK a.y5 Mi.BS (AC (AB 5) AH)) AF) (AL (Lo (AR AW (AB 5) AF) (Lp (AB 6) AF))) Ag))))))) (AL (Aa (AB 2)))))))
theorem O9:Fn P w K mg base "is_tuple" ["thing", "least", "most"] 1 (BX):=by
 obtain⟨f,b,d⟩:=a.e6;exact Ay (k:=0) .drop d.F sc_is_tuple (PySem.W.mg_of a.X a.G d.a) (d.F.binds λ_ _ _ _ _ _=>lq3 λ_ _ _=>rfl) (λ_ _ _ _ _ _ c=>have e:=sc_is_tuple.nd;(AL (Aa (E8 (Ap Hv a.y4 Mi.B3 (AC (AB 0) (AC (F4 a.y11 Mi.FK) AH))) (HY (M5 Tl Tl (AB 1) (Ap DK a.y5 Mi.BS (AC (AB 0) AH)) (AB 2)))))))
theorem KJ:Fn P w K mg base "is_whole" ["thing", "least", "most"] 1 (Aw):=by
 obtain⟨f,b,d⟩:=a.e7;exact Ay (k:=0) .drop d.F sc_is_whole (PySem.W.mg_of a.X a.G d.a) (d.F.binds λ_ _ _ _ _ _=>lq3 λ_ _ _=>rfl) (λ_ _ _ _ _ _ c=>have e:=sc_is_whole.nd;(AL (Aa (E8 (Ap Hv a.y4 Mi.B3 (AC (AB 0) (AC (F4 a.y3 Mi.HK) AH))) (E8 (Yh (Ap Hv a.y4 Mi.B3 (AC (AB 0) (AC (F4 a.y1 Mi.Rm) AH)))) (HY (M5 Tl Tl (AB 1) (AB 0) (AB 2))))))))
theorem PD:Fn P w K mg base "is_event" ["thing", "names", "size"] 2 (BN):=by
 obtain⟨f,c,d⟩:=a.e8;exact Ay (k:=1) .drop d.F sc_is_event (PySem.W.mg_of a.X a.G d.a) (d.F.binds λ_ _ _ _ _ _=>lq3 λ_ _ _=>rfl) (λ_ _ _ _ _ _ b=>have e:=sc_is_event.nd;(AG (A5 (RW.rt (M3 (ES (Di (Am (O9 a) b (AC (AB 0) (AC AF (AC AF AH)))))) (M3 (AZ Ic (AR AW (AB 0) AF) (BC (AC A1 (AC A1 AH)))) (OB (AZ Ic (AR AW (AB 0) AF) (AB 1)))))) (AL (Aa DN)) Ag) (AG (A5 (AZ (CV b) (C4 (CV b) (AR AW (AB 0) AF) A1) (C4 (CV b) (AR AW (AB 0) AF) (AR AW (AB 1) AF))) (AL (Aa (E8 (C4 (CV b) (Ap DK a.y5 Mi.BS (AC (AB 0) AH)) AF) (HY (Am (KJ a) b (AC (AR AW (AB 0) AF) (AC AF (AC (Ah Gw (AB 2) AF) AH)))))))) Ag) (AL (Aa (C4 (CV b) (Ap DK a.y5 Mi.BS (AC (AB 0) AH)) AF))))))
theorem IB:Fn P w K mg base "acts_of" ["making", "events"] 3 (Ai):=by
 obtain⟨f,g,d⟩:=a.e9;exact Ay (k:=2) .frz d.F sc_acts_of (PySem.W.mg_of a.X a.G d.a) (d.F.binds λ_ _ _ _ _ _=>lq2 λ_ _=>rfl) (λ_ _ _ _ _ _ c=>have e:=sc_acts_of.nd;(AG (A5 (ES (Di (Ap Hv a.y4 Mi.B3 (AC (AB 1) (AC (F4 a.y6 Mi.C8) AH))))) (AL JR) Ag) (AG (OG (co:=none) (tgs:=["hand"]) ⟨⟨rfl,by decide +kernel,by decide +kernel,trivial,rfl,by decide +kernel⟩,rfl,⟨_,CY,λ_ _ _ _=>Aq (i:=0) (show List.Nodup (["hand"]:List Str) from by decide +kernel) rfl (Or.inl rfl)⟩,λ_ _ _ _=>Ci,λ_ _ _ _=>(AR AW (AB 0) AF)⟩ (B1 (AR AW (AB 0) AF)) GH e) (AG (AV 3 e Ia) (AG (AV 4 e (DB AH)) (AG (AV 5 e AF) (AG (C3 PassesOwn.never rfl (Ee a.y2 (AC (AB 1) AH)) (Fi (is:=[6,7]) rfl (BR (Aq (i:=6) e rfl (by first|exact Or.inl rfl|exact Or.inr rfl)) (BR (Aq (i:=7) e rfl (by first|exact Or.inl rfl|exact Or.inr rfl)) DY))) (AG (A5 (ES (Di (Am (PD a) c (AC (AB 7) (AC (AB 2) (AC (AR AW (AB 0) AF) AH)))))) (AL JR) Ag) (AG (AV 8 e (Bu PySem.F.slot_list_index PySem.F.type_list_index Ty (AB 2) (AC (AR AW (AB 7) AF) AH))) (AG (A5 (AZ (CV c) (C4 (CV c) (AR AW (AB 7) AF) A1) (S5 c (AB 8) (AB 3))) (AL JR) Ag) (AG (A5 (AZ (CV c) (AR AW (AB 7) AF) A1) (AG (IZ c (AB 3) (AB 8) (AB 5)) (AL (Yf 5 e AF))) Ag) (AG (B8 (Bu PySem.F.slot_list_append PySem.F.type_list_append CD (AB 4) (AC (BC (AC (AR AW (AB 7) AF) (AC (AB 8) (AC (JT (AZ (CV c) (Ap DK a.y5 Mi.BS (AC (AB 7) AH)) AF) (AR AW (AB 7) AF) (Dq a.g2)) (AC (Lq c (AB 3) (AB 8)) AH))))) AH))) (AL (A5 (AZ (CV c) (AR AW (AB 7) AF) A1) (AL (B8 (V7 (AB 3) (AB 8)))) Ag)))))))) (AL (Aa (AB 4))))))))))
theorem DL:Fn P w K mg base "with_thing" ["things", "place", "thing"] 1 (Ad):=by
 obtain⟨f,b,d⟩:=a.e10;exact Ay (k:=0) .drop d.F sc_with_thing (PySem.W.mg_of a.X a.G d.a) (d.F.binds λ_ _ _ _ _ _=>lq3 λ_ _ _=>rfl) (λ_ _ _ _ _ _ c=>have e:=sc_with_thing.nd;(AL (Aa (Ah B2 (Ah B2 (D9 (AB 0) DW (C1 (AB 1))) (BC (AC (AB 2) AH))) (D9 (AB 0) (C1 (Ah B2 (AB 1) AF)) DW)))))
theorem FN:Fn P w K mg base "case_begun" ["case", "hand", "worth"] 2 (Ar):=by
 obtain⟨f,c,d⟩:=a.e11;exact Ay (k:=1) .drop d.F sc_case_begun (PySem.W.mg_of a.X a.G d.a) (d.F.binds λ_ _ _ _ _ _=>lq3 λ_ _ _=>rfl) (λ_ _ _ _ _ _ b=>have e:=sc_case_begun.nd;(AG (A5 (AZ (CV b) (AB 1) AF) (AL (Aa (BC (AC (AR AW (AB 0) AF) (AC (AB 2) (AC (AR AW (AB 0) AF) AH)))))) Ag) (AL (Aa (BC (AC (AR AW (AB 0) AF) (AC (AR AW (AB 0) AF) (AC (Am (DL a) b (AC (AR AW (AB 0) AF) (AC (Ah Gw (AB 1) AF) (AC (Dq a.g3) AH)))) AH))))))))
theorem HR:Fn P w K mg base "case_ended" ["case", "hand", "worth"] 2 (An):=by
 obtain⟨f,c,d⟩:=a.e12;exact Ay (k:=1) .drop d.F sc_case_ended (PySem.W.mg_of a.X a.G d.a) (d.F.binds λ_ _ _ _ _ _=>lq3 λ_ _ _=>rfl) (λ_ _ _ _ _ _ b=>have e:=sc_case_ended.nd;(AG (A5 (AZ (CV b) (AB 1) AF) (AL (Aa (JT (AZ (CV b) (AR AW (AB 0) AF) (Dq a.g0)) (BC (AC (AR AW (AB 0) AF) (AC (Dq a.g1) (AC (AR AW (AB 0) AF) AH)))) Bd))) Ag) (AL (Aa (JT (AZ (CV b) (AR AW (AR AW (AB 0) AF) (Ah Gw (AB 1) AF)) (AB 2)) (BC (AC (AR AW (AB 0) AF) (AC (AR AW (AB 0) AF) (AC (Am (DL a) b (AC (AR AW (AB 0) AF) (AC (Ah Gw (AB 1) AF) (AC (Dq a.g1) AH)))) AH)))) Bd)))))
theorem KG:Fn P w K mg base "paths_behind" ["paths", "act"] 3 (Cg):=by
 obtain⟨f,e,d⟩:=a.e13;exact Jq (k:=2) .all d.F sc_paths_behind (PySem.W.mg_of a.X a.G d.a) (d.F.binds λ_ _ _ _ _ _=>lq2 λ_ _=>rfl) (λ_ _ _ _ _ _ c=>have b:=sc_paths_behind.nd;(AG (AV 2 b JU) (AG (Pf PassesOwn.never rfl (AB 0) (Fi (is:=[3,4]) rfl (BR (Aq (i:=3) b rfl (by first|exact Or.inl rfl|exact Or.inr rfl)) (BR (Aq (i:=4) b rfl (by first|exact Or.inl rfl|exact Or.inr rfl)) DY))) (AG (A5 (AZ (CV c) (AR AW (AB 1) AF) A1) (AL (AV 5 b (Am (FN a) c (AC (AB 3) (AC (AR AW (AB 1) AF) (AC (AR AW (AB 1) AF) AH)))))) (AL (AV 5 b (Am (HR a) c (AC (AB 3) (AC (AR AW (AB 1) AF) (AC (AR AW (AB 1) AF) AH))))))) (AL (A5 (AZ DD (AB 5) Bd) (AL (Gr c (AB 2) (AB 5) (AB 4))) Ag)))) (AL (Aa (AB 2))))))
theorem KH:Fn P w K mg base "moments_from" ["case"] 2 (A3):=by
 obtain⟨f,e,d⟩:=a.e14;exact Ay (k:=1) .all d.F sc_moments_from (PySem.W.mg_of a.X a.G d.a) (d.F.binds λ_ _ _ _ _ _=>lq1 λ_=>rfl) (λ_ _ _ _ _ _ c=>have b:=sc_moments_from.nd;(AG (AV 1 b (DB AH)) (AG (A5 (AZ cY (AR AW (AB 0) AF) AF) (AL (B8 (Bu PySem.F.slot_list_append PySem.F.type_list_append CD (AB 1) (AC (BC (AC AF (AC (BC (AC (AR AW (AB 0) AF) (AC (Dq a.g0) (AC (AR AW (AB 0) AF) AH)))) AH))) AH)))) Ag) (AG (C3 PassesOwn.never rfl (Sv a.y2 (AC (AR AW (AB 0) AF) AH)) (Fi (is:=[2,3]) rfl (BR (Aq (i:=2) b rfl (by first|exact Or.inl rfl|exact Or.inr rfl)) (BR (Aq (i:=3) b rfl (by first|exact Or.inl rfl|exact Or.inr rfl)) DY))) (AL (A5 (AZ (CV c) (AB 3) (Dq a.g3)) (AL (B8 (Bu PySem.F.slot_list_append PySem.F.type_list_append CD (AB 1) (AC (BC (AC (Ah B2 (AB 2) AF) (AC (BC (AC (AR AW (AB 0) AF) (AC (AR AW (AB 0) AF) (AC (Am (DL a) c (AC (AR AW (AB 0) AF) (AC (AB 2) (AC (AR AW (AB 0) AF) AH)))) AH)))) AH))) AH)))) Ag))) (AL (Aa (AB 1)))))))
theorem LW:Fn P w K mg base "reached" ["cases"] 3 (Bb):=by
 obtain⟨f,e,d⟩:=a.e15;exact Ay (k:=2) .all d.F sc_reached (PySem.W.mg_of a.X a.G d.a) (d.F.binds λ_ _ _ _ _ _=>lq1 λ_=>rfl) (λ_ _ _ _ _ _ c=>have b:=sc_reached.nd;(AG (AV 1 b JU) (AG (C3 PassesOwn.never rfl (B1 (AB 0)) (DX 2 b) (AL (Gr c (AB 1) (AB 2) Bd))) (AG (AV 3 b (Ch (W7 rfl) a.y6 Mi.C8 (AC (AB 1) AH))) (AG (JQ GG PassesOwn.never (Pe (AB 3)) (AG (AV 2 b (Ks PySem.F.slot_list_pop PySem.F.type_list_pop bI (AB 3))) (AL (V3 1000 PassesOwn.never rfl (Am (KH a) c (AC (AB 2) AH)) (Fi (is:=[4,5]) rfl (BR (Aq (i:=4) b rfl (by first|exact Or.inl rfl|exact Or.inr rfl)) (BR (Aq (i:=5) b rfl (by first|exact Or.inl rfl|exact Or.inr rfl)) DY))) (AL (A5 (AZ (To c) (AB 5) (AB 1)) (AG (Gr c (AB 1) (AB 5) (BC (AC (AB 4) (AC (AB 2) AH)))) (AL (B8 (Bu PySem.F.slot_list_append PySem.F.type_list_append CD (AB 3) (AC (AB 5) AH))))) Ag)))))) (AL (Aa (AB 1))))))))
theorem KF:Fn P w K mg base "with_moments" ["paths", "going"] 4 (Cf):=by
 obtain⟨f,e,d⟩:=a.e16;exact Jq (k:=3) .all d.F sc_with_moments (PySem.W.mg_of a.X a.G d.a) (d.F.binds λ_ _ _ _ _ _=>lq2 λ_ _=>rfl) (λ_ _ _ _ _ _ b=>have c:=sc_with_moments.nd;(AG (AV 2 c JU) (AG (Pf PassesOwn.never rfl (Am (LW a) b (AC (Ch (Ut rfl) a.y6 Mi.C8 (AC (AB 0) AH)) AH)) (Fi (is:=[3,4]) rfl (BR (Aq (i:=3) c rfl (by first|exact Or.inl rfl|exact Or.inr rfl)) (BR (Aq (i:=4) c rfl (by first|exact Or.inl rfl|exact Or.inr rfl)) DY))) (AL (A5 (AZ Tn (AB 4) Bd) (AL (Gr b (AB 2) (AB 3) (Pj b (AB 0) (AB 3)))) (AL (Gr b (AB 2) (AB 3) (BC (AC (Lq b (AB 1) (AR AW (AB 4) AF)) (AC (Pj b (AB 2) (AR AW (AB 4) AF)) AH)))))))) (AL (Aa (AB 2))))))
theorem O8:Fn P w K mg base "order_of" ["path"] 1 (EH):=by
 obtain⟨f,c,d⟩:=a.e17;exact Jq (k:=0) .all d.F sc_order_of (PySem.W.mg_of a.X a.G d.a) (d.F.binds λ_ _ _ _ _ _=>lq1 λ_=>rfl) (λ_ _ _ _ _ _ e=>have b:=sc_order_of.nd;(AG (AV 1 b (DB AH)) (AG (JQ GG PassesOwn.never (AZ DD (AB 0) Bd) (AG (B8 (Bu PySem.F.slot_list_append PySem.F.type_list_append CD (AB 1) (AC (AR AW (AB 0) AF) AH))) (AL (AV 0 b (AR AW (AB 0) AF))))) (AG (B8 (Ks PySem.F.slot_list_reverse PySem.F.type_list_reverse Q9 (AB 1))) (AL (Aa (AB 1)))))))
theorem FM:Fn P w K mg base "moments_of" ["making", "events"] 5 (Ck):=by
 obtain⟨f,e,d⟩:=a.e18;exact UT (k:=4) d.F sc_moments_of (PySem.W.mg_of a.X a.G d.a) (d.F.binds λ_ _ _ _ _ _=>lq2 λ_ _=>rfl) (λ_ _ _ _ _ _ b=>have c:=sc_moments_of.nd;(AG (AV 2 c (Ah Gw (Ap DK a.y5 Mi.BS (AC (AR AW (AB 0) AF) AH)) AF)) (AG (AV 3 c (S6 b (BC (AC (AR AW (AB 0) AF) (AC (Dq a.g1) (AC (Ah OP (BC (AC (Dq a.g1) AH)) (AB 2)) AH)))) Bd)) (AG (AV 4 c Ia) (AG (C3 PassesOwn.never rfl (B1 (Am (IB a) b (AC (AB 0) (AC (AB 1) AH)))) (DX 5 c) (AG (IZ b (AB 4) (AR AW (AB 5) AF) (AR AW (AB 5) AF)) (AL (AV 3 c (Am (KF a) b (AC (Am (KG a) b (AC (AB 3) (AC (AB 5) AH))) (AC (AB 4) AH))))))) (AG (A5 (ES (V2 (AB 3))) (AL (Aa Bd)) Ag) (AL (Aa (Am (O8 a) b (AC (AR AW (Sz a.y6 (AB 3)) AF) AH))))))))))
theorem Kg:Fn P w K mg base "claim_begun" ["making"] 1 (Ao):=by
 obtain⟨f,e,d⟩:=a.e19;exact Ay (k:=0) .drop d.F sc_claim_begun (PySem.W.mg_of a.X a.G d.a) (d.F.binds λ_ _ _ _ _ _=>lq1 λ_=>rfl) (λ_ _ _ _ _ _ b=>have c:=sc_claim_begun.nd;(AG (AV 1 c (Ah Gw (Ap DK a.y5 Mi.BS (AC (AR AW (AB 0) AF) AH)) AF)) (AG (A5 (AZ (CV b) (AR AW (AB 0) AF) A1) (AL (Aa (BC (AC (BC (AC (AR AW (AB 0) AF) (AC (Dq a.g1) (AC (Ah OP (BC (AC (Dq a.g1) AH)) (AB 1)) AH)))) AH)))) Ag) (AL (Aa (BC (AC (AR AW (AB 0) AF) (AC (Dq a.g1) (AC (Ah OP (BC (AC Bd AH)) (AB 1)) AH)))))))))
theorem HQ:Fn P w K mg base "closed" ["cases"] 4 (B6):=by
 obtain⟨f,c,d⟩:=a.e20;exact Ay (k:=3) .drop d.F sc_closed (PySem.W.mg_of a.X a.G d.a) (d.F.binds λ_ _ _ _ _ _=>lq1 λ_=>rfl) (λ_ _ _ _ _ _ b=>have e:=sc_closed.nd;(AL (Aa (Ch MJ a.y11 Mi.FK (AC (Ap (Us b rfl) a.y10 PyProof.Rows.boot_sorted (AC (Am (LW a) b (AC (AB 0) AH)) AH)) AH)))))
theorem Nq:Fn P w K mg base "beside" ["kind", "size", "worths", "coming"] 1 (EI):=by
 obtain⟨f,b,d⟩:=a.e21;exact NV d.F (PySem.W.mg_of a.X a.G d.a) (d.F.binds λ_ _ _ _ _ _=>lq4 λ_ _ _ _=>rfl)
theorem KK:Fn P w K mg base "claim_writes" ["making", "claim", "worth"] 5 (BY):=by
 obtain⟨f,g,d⟩:=a.e22;exact Ay (k:=4) .drop d.F sc_claim_writes (PySem.W.mg_of a.X a.G d.a) (d.F.binds λ_ _ _ _ _ _=>lq3 λ_ _ _=>rfl) (λ_ _ _ _ _ _ c=>have e:=sc_claim_writes.nd;(AG (A5 (AZ (CV c) (AR AW (AB 0) AF) A1) (AL (Aa (Am (HQ a) c (AC (Ls (co:=none) (tgs:=["case"]) ⟨⟨rfl,by decide +kernel,by decide +kernel,⟨Or.inl rfl,trivial⟩,rfl,by decide +kernel⟩,rfl,⟨_,CY,λ_ _ _ _=>Aq (i:=0) (show List.Nodup (["case", "worth"]:List Str) from by decide +kernel) rfl (Or.inl rfl)⟩,λ_ _ _ _=>Ci,λ_ _ _ _=>(Am (FN a) c (AC (AB 0) (AC AF (AC (AB 1) AH))))⟩ (B1 (AB 1)) GH) AH)))) Ag) (AG (OG (co:=none) (tgs:=["told"]) ⟨⟨rfl,by decide +kernel,by decide +kernel,⟨Or.inl rfl,Or.inl rfl,trivial⟩,rfl,by decide +kernel⟩,rfl,⟨_,CY,λ_ _ _ _=>Aq (i:=0) (show List.Nodup (["told", "making", "worth"]:List Str) from by decide +kernel) rfl (Or.inl rfl)⟩,λ_ _ _ _=>Ci,λ_ _ _ _=>(JT (AZ Tn (AB 0) Bd) (AB 0) (Am (Nq a) c (AC (AR AW (AB 1) AF) (AC (AR AW (AB 1) AF) (AC (AB 0) (AC (AB 2) AH))))))⟩ (B1 (AR AW (AB 1) AF)) GH e) (AL (Aa (BC (AC (AR AW (AB 1) AF) (AC (AB 2) (AC (Ch MJ a.y11 Mi.FK (AC (AB 3) AH)) AH)))))))))
theorem GS:Fn P w K mg base "cases_ended" ["cases", "hand", "worth"] 3 (BA):=by
 obtain⟨f,g,d⟩:=a.e23;exact Ay (k:=2) .drop d.F sc_cases_ended (PySem.W.mg_of a.X a.G d.a) (d.F.binds λ_ _ _ _ _ _=>lq3 λ_ _ _=>rfl) (λ_ _ _ _ _ _ c=>have e:=sc_cases_ended.nd;(AG (OG (co:=none) (tgs:=["case"]) ⟨⟨rfl,by decide +kernel,by decide +kernel,⟨Or.inl rfl,Or.inl rfl,trivial⟩,rfl,by decide +kernel⟩,rfl,⟨_,CY,λ_ _ _ _=>Aq (i:=0) (show List.Nodup (["case", "hand", "worth"]:List Str) from by decide +kernel) rfl (Or.inl rfl)⟩,λ_ _ _ _=>Ci,λ_ _ _ _=>(Am (HR a) c (AC (AB 0) (AC (AB 1) (AC (AB 2) AH))))⟩ (B1 (AB 0)) GH e) (AL (Aa (Ls (co:=(some _)) (tgs:=["case"]) ⟨⟨rfl,by decide +kernel,by decide +kernel,trivial,rfl,by decide +kernel⟩,rfl,⟨_,CY,λ_ _ _ _=>Aq (i:=0) (show List.Nodup (["case"]:List Str) from by decide +kernel) rfl (Or.inl rfl)⟩,λ_ _ _ _=>EB (AZ DD (AB 0) Bd),λ_ _ _ _=>(AB 0)⟩ (B1 (AB 3)) GH)))))
theorem IU:Fn P w K mg base "claim_written" ["making", "claim"] 5 (A9):=by
 obtain⟨f,c,d⟩:=a.e24;exact Ay (k:=4) .drop d.F sc_claim_written (PySem.W.mg_of a.X a.G d.a) (d.F.binds λ_ _ _ _ _ _=>lq2 λ_ _=>rfl) (λ_ _ _ _ _ _ b=>have e:=sc_claim_written.nd;(AG (A5 (AZ (CV b) (AR AW (AB 0) AF) A1) (AL (Aa (Am (HQ a) b (AC (Am (GS a) b (AC (AB 1) (AC AF (AC (Dq a.g1) AH)))) AH)))) Ag) (AL (Aa (BC (AC (AR AW (AB 1) AF) (AC (Dq a.g1) (AC (AR AW (AB 1) AF) AH))))))))
theorem Kf:Fn P w K mg base "claim_reads" ["making", "claim", "reader"] 5 (BL):=by
 obtain⟨f,g,d⟩:=a.e25;exact Ay (k:=4) .drop d.F sc_claim_reads (PySem.W.mg_of a.X a.G d.a) (d.F.binds λ_ _ _ _ _ _=>lq3 λ_ _ _=>rfl) (λ_ _ _ _ _ _ c=>have e:=sc_claim_reads.nd;(AG (A5 (AZ (CV c) (AR AW (AB 0) AF) A1) (AL (Aa (Am (HQ a) c (AC (Ls (co:=none) (tgs:=["case"]) ⟨⟨rfl,by decide +kernel,by decide +kernel,⟨Or.inl rfl,trivial⟩,rfl,by decide +kernel⟩,rfl,⟨_,CY,λ_ _ _ _=>Aq (i:=0) (show List.Nodup (["case", "reader"]:List Str) from by decide +kernel) rfl (Or.inl rfl)⟩,λ_ _ _ _=>Ci,λ_ _ _ _=>(Am (FN a) c (AC (AB 0) (AC (Ah B2 (AB 1) AF) (AC (Dq a.g1) AH))))⟩ (B1 (AB 1)) GH) AH)))) Ag) (AG (AV 3 e (BC (AC (AR AW (AB 1) AF) AH))) (AG (A5 (AZ (KR c) (AR AW (AB 1) AF) (Dq a.g1)) (AL (AV 3 e (Am (Nq a) c (AC (AR AW (AB 0) AF) (AC (AR AW (AB 0) AF) (AC (AB 3) (AC (AR AW (AB 1) AF) AH))))))) Ag) (AL (Aa (BC (AC (AR AW (AB 1) AF) (AC (AR AW (AB 1) AF) (AC (Am (DL a) c (AC (AR AW (AB 1) AF) (AC (AB 2) (AC (AB 3) AH)))) AH))))))))))
theorem MV:Fn P w K mg base "claim_told" ["making", "claim", "reader", "worth"] 5 (Bh):=by
 obtain⟨f,e,d⟩:=a.e26;exact Ay (k:=4) .drop d.F sc_claim_told (PySem.W.mg_of a.X a.G d.a) (d.F.binds λ_ _ _ _ _ _=>lq4 λ_ _ _ _=>rfl) (λ_ _ _ _ _ _ b=>have c:=sc_claim_told.nd;(AG (A5 (AZ (CV b) (AR AW (AB 0) AF) A1) (AG (AV 4 c (Am (GS a) b (AC (AB 1) (AC (Ah B2 (AB 2) AF) (AC (AB 3) AH))))) (AL (Aa (JT (Pe (AB 4)) (Am (HQ a) b (AC (AB 4) AH)) Bd)))) Ag) (AG (A5 (AZ Ic (AB 3) (AR AW (AR AW (AB 1) AF) (AB 2))) (AL (Aa Bd)) Ag) (AL (Aa (BC (AC (AR AW (AB 1) AF) (AC (AR AW (AB 1) AF) (AC (Am (DL a) b (AC (AR AW (AB 1) AF) (AC (AB 2) (AC Bd AH)))) AH)))))))))
theorem KL:Fn P w K mg base "claim_behind" ["making", "claim", "act"] 6 (A8):=by
 obtain⟨f,e,d⟩:=a.e27;exact Ay (k:=5) .drop d.F sc_claim_behind (PySem.W.mg_of a.X a.G d.a) (d.F.binds λ_ _ _ _ _ _=>lq3 λ_ _ _=>rfl) (λ_ _ _ _ _ _ b=>have c:=sc_claim_behind.nd;(AG (AV 3 c (C4 (CV b) (AR AW (AB 2) AF) A1)) (AG (A5 (AZ (CV b) (AR AW (AB 2) AF) AF) (AL (Aa (JT (Di (AB 3)) (Am (KK a) b (AC (AB 0) (AC (AB 1) (AC (AR AW (AB 2) AF) AH)))) (Am (IU a) b (AC (AB 0) (AC (AB 1) AH)))))) Ag) (AG (AV 4 c (Ah Gw (AR AW (AB 2) AF) AF)) (AL (Aa (JT (Di (AB 3)) (Am (Kf a) b (AC (AB 0) (AC (AB 1) (AC (AB 4) AH)))) (Am (MV a) b (AC (AB 0) (AC (AB 1) (AC (AB 4) (AC (AR AW (AB 2) AF) AH))))))))))))
theorem U5:Fn P w K mg base "judged" ["making", "events"] 7 (CT):=by
 obtain⟨f,e,d⟩:=a.e28;exact Ay (k:=6) .drop d.F sc_judged (PySem.W.mg_of a.X a.G d.a) (d.F.binds λ_ _ _ _ _ _=>lq2 λ_ _=>rfl) (λ_ _ _ _ _ _ b=>have c:=sc_judged.nd;(AG (AV 2 c (Am (Kg a) b (AC (AB 0) AH))) (AG (C3 PassesOwn.never rfl (B1 (Am (IB a) b (AC (AB 0) (AC (AB 1) AH)))) (DX 3 c) (AG (AV 2 c (Am (KL a) b (AC (AB 0) (AC (AB 2) (AC (AB 3) AH))))) (AL (A5 (AZ Tn (AB 2) Bd) (AL (Aa DN)) Ag)))) (AL (Aa DN)))))
theorem PF:Fn P w K mg base "deeds_of" ["acts"] 1 (FG):=by
 obtain⟨f,e,d⟩:=a.e29;exact NU (k:=0) d.F sc_deeds_of (PySem.W.mg_of a.X a.G d.a) (d.F.binds λ_ _ _ _ _ _=>lq1 λ_=>rfl) (λ_ _ _ _ _ _ c=>have b:=sc_deeds_of.nd;(AG (AV 1 b (DB AH)) (AG (C3 PassesOwn.never rfl (Ee a.y2 (AC (AB 0) AH)) (Fi (is:=[2,3]) rfl (BR (Aq (i:=2) b rfl (by first|exact Or.inl rfl|exact Or.inr rfl)) (BR (Aq (i:=3) b rfl (by first|exact Or.inl rfl|exact Or.inr rfl)) DY))) (AL (A5 (AZ (CV c) (AR AW (AB 3) AF) A1) (AL (B8 (Bu PySem.F.slot_list_append PySem.F.type_list_append CD (AB 1) (AC (DB (AC (AR AW (AB 3) AF) (AC (AR AW (AB 3) AF) (AC (AB 2) (AC Bd AH))))) AH)))) (AG (AV 4 b (AR AW (AB 1) (AR AW (AB 3) AF))) (AG (Lo (AB 2) (Lp (AB 4) AF)) (AL (A5 (AZ ZG (AR AW (AB 3) AF) AF) (AL (Lo (AR AW (AB 3) AF) (Lp (AB 4) AF))) Ag))))))) (AL (Aa (AB 1))))))
theorem MW:Fn P w K mg base "are_unlike" ["names"] 1 (FH):=by
 obtain⟨f,c,d⟩:=a.e30;exact Ay (k:=0) .drop d.F sc_are_unlike (PySem.W.mg_of a.X a.G d.a) (d.F.binds λ_ _ _ _ _ _=>lq1 λ_=>rfl) (λ_ _ _ _ _ _ b=>have e:=sc_are_unlike.nd;(AL (Aa (C4 (CV b) (OF a.y5 a.y9 (AB 0)) (Ap DK a.y5 Mi.BS (AC (AB 0) AH))))))
theorem PB:Fn P w K mg base "is_order" ["thing", "count"] 2 (FF):=by
 obtain⟨f,e,d⟩:=a.e31;exact Ay (k:=1) .drop d.F sc_is_order (PySem.W.mg_of a.X a.G d.a) (d.F.binds λ_ _ _ _ _ _=>lq2 λ_ _=>rfl) (λ_ _ _ _ _ _ c=>have g:=sc_is_order.nd;(AL (Aa (E8 (Ap Hv a.y4 Mi.B3 (AC (AB 0) (AC (F4 a.y6 Mi.C8) AH))) (E8 (Ap (X2 rfl) a.y0 Mi.Nl (AC (Ls (co:=none) (tgs:=["part"]) ⟨⟨rfl,by decide +kernel,by decide +kernel,⟨Or.inl rfl,trivial⟩,rfl,by decide +kernel⟩,rfl,⟨_,CY,λ_ _ _ _=>Aq (i:=0) (show List.Nodup (["part", "count"]:List Str) from by decide +kernel) rfl (Or.inl rfl)⟩,λ_ _ _ _=>Ci,λ_ _ _ _=>(Am (KJ a) c (AC (AB 0) (AC AF (AC (Ah Gw (AB 1) AF) AH))))⟩ (B1 (AB 0)) GH) AH)) (HY (Am (MW a) c (AC (AB 0) AH))))))))
theorem IA:Fn P w K mg base "has_ended_ones" ["deeds", "order"] 1 (Cm):=by
 obtain⟨f,g,d⟩:=a.e32;exact Ay (k:=0) .drop d.F sc_has_ended_ones (PySem.W.mg_of a.X a.G d.a) (d.F.binds λ_ _ _ _ _ _=>lq2 λ_ _=>rfl) (λ_ _ _ _ _ _ c=>have e:=sc_has_ended_ones.nd;(AG (AV 2 e Ia) (AG (C3 PassesOwn.never rfl (B1 (AB 1)) (DX 3 e) (AL (IZ c (AB 2) (AB 3) DN))) (AL (Aa (Ap (X2 rfl) a.y0 Mi.Nl (AC (Ls (co:=(some _)) (tgs:=["number", "deed"]) ⟨⟨rfl,by decide +kernel,by decide +kernel,⟨Or.inl rfl,trivial⟩,rfl,by decide +kernel⟩,rfl,⟨_,SY,λ_ _ _ _=>OM rfl (BR (Aq (i:=0) (show List.Nodup (["number", "deed", "there"]:List Str) from by decide +kernel) rfl (Or.inl rfl)) (BR (Aq (i:=1) (show List.Nodup (["number", "deed", "there"]:List Str) from by decide +kernel) rfl (Or.inl rfl)) DY)) rfl rfl⟩,λ_ _ _ _=>EB (AZ DD (AR AW (AB 1) AF) Bd),λ_ _ _ _=>(S5 c (AB 0) (AB 2))⟩ (Ee a.y2 (AC (AB 0) AH)) GH) AH)))))))
theorem Ke:Fn P w K mg base "keeps_times" ["deeds", "order"] 1 (DZ):=by
 obtain⟨f,c,d⟩:=a.e33;exact Ay (k:=0) .drop d.F sc_keeps_times (PySem.W.mg_of a.X a.G d.a) (d.F.binds λ_ _ _ _ _ _=>lq2 λ_ _=>rfl) (λ_ _ _ _ _ _ e=>have b:=sc_keeps_times.nd;(AG (AV 2 b (XV Xb AF)) (AG (C3 PassesOwn.never rfl (B1 (AB 1)) (DX 3 b) (AG (AV 4 b (AR AW (AB 0) (AB 3))) (AG (A5 (RW.rt (E7 (AZ DD (AR AW (AB 4) AF) Bd) (EO (AZ WY (AR AW (AB 4) AF) (AB 2))))) (AL (Aa DN)) Ag) (AL (AV 2 b (Ap (bo rfl) a.y7 Mi.Uz (AC (AB 2) (AC (AR AW (AB 4) AF) AH)))))))) (AL (Aa DN)))))
theorem KI:Fn P w K mg base "keeps_worths" ["deeds", "order", "begin"] 1 (DH):=by
 obtain⟨f,e,d⟩:=a.e34;exact Ay (k:=0) .drop d.F sc_keeps_worths (PySem.W.mg_of a.X a.G d.a) (d.F.binds λ_ _ _ _ _ _=>lq3 λ_ _ _=>rfl) (λ_ _ _ _ _ _ c=>have b:=sc_keeps_worths.nd;(AG (AV 3 b (AB 2)) (AG (C3 PassesOwn.never rfl (B1 (AB 1)) (DX 4 b) (AG (AV 5 b (AR AW (AB 0) (AB 4))) (AL (A5 (AZ (CV c) (AR AW (AB 5) AF) AF) (AL (AV 3 b (AR AW (AB 5) AF))) (AL (A5 (RW.rt (E7 (AZ DD (AR AW (AB 5) AF) Bd) (EO (AZ (KR c) (AR AW (AB 5) AF) (AB 3))))) (AL (Aa DN)) Ag)))))) (AL (Aa DN)))))
theorem Fz:Fn P w K mg base "bears_out" ["making", "events", "order"] 4 (Dg):=by
 obtain⟨f,e,d⟩:=a.e35;exact Fn.thaw 2 (Ay (k:=3) .drop d.F sc_bears_out (PySem.W.mg_of a.X a.G d.a) (d.F.binds λ_ _ _ _ _ _=>lq3 λ_ _ _=>rfl) (λ_ _ _ _ _ _ b=>have c:=sc_bears_out.nd;(AG (AV 3 c (Am (PF a) b (AC (Am (IB a) b (AC (AB 0) (AC (AB 1) AH))) AH))) (AG (A5 (ES (Di (Am (PB a) b (AC (AB 2) (AC (Ap DK a.y5 Mi.BS (AC (AB 3) AH)) AH))))) (AL (Aa DN)) Ag) (AL (Aa (E8 (Am (IA a) b (AC (AB 3) (AC (AB 2) AH))) (E8 (Am (Ke a) b (AC (AB 3) (AC (AB 2) AH))) (HY (Am (KI a) b (AC (AB 3) (AC (AB 2) (AC (AR AW (AB 0) AF) AH)))))))))))))
theorem Nr:Fn P w K mg base "_law_bears" ["_law_making_here", "_law_deeds_here", "_law_order"] 1 (Fv):=by
 obtain⟨f,g,d⟩:=a.e36;exact Fn.thaw 2 (Ay (k:=0) .drop d.F sc_Lbears (PySem.W.mg_of a.X a.G d.a) (d.F.binds λ_ _ _ _ _ _=>lq3 λ_ _ _=>rfl) (λ_ _ _ _ _ _ c=>have e:=sc_Lbears.nd;(AG (A5 (AZ (KR c) (Ls (co:=(some _)) (tgs:=["_law_k", "_law_deed"]) ⟨⟨rfl,by decide +kernel,by decide +kernel,⟨Or.inl rfl,trivial⟩,rfl,by decide +kernel⟩,rfl,⟨_,SY,λ_ _ _ _=>OM rfl (BR (Aq (i:=0) (show List.Nodup (["_law_k", "_law_deed", "_law_order"]:List Str) from by decide +kernel) rfl (Or.inl rfl)) (BR (Aq (i:=1) (show List.Nodup (["_law_k", "_law_deed", "_law_order"]:List Str) from by decide +kernel) rfl (Or.inl rfl)) DY)) rfl rfl⟩,λ_ _ _ _=>EB (RW.rt (E7 (AZ DD (AR AW (AB 1) AF) Bd) (EO (AZ Ic (AB 0) (AB 2))))),λ_ _ _ _=>(AB 0)⟩ (Ee a.y2 (AC (AB 1) AH)) GH) (Cu AH)) (AL (Aa DN)) Ag) (AG (AV 3 e (AR AW (AB 0) AF)) (AG (C3 PassesOwn.never rfl (Ee a.y2 (AC (AB 2) AH)) (Fi (is:=[4,5]) rfl (BR (Aq (i:=4) e rfl (by first|exact Or.inl rfl|exact Or.inr rfl)) (BR (Aq (i:=5) e rfl (by first|exact Or.inl rfl|exact Or.inr rfl)) DY))) (AG (A5 (AZ (KR c) (Ls (co:=(some _)) (tgs:=["_law_j"]) ⟨⟨rfl,by decide +kernel,by decide +kernel,⟨Or.inl rfl,Or.inl rfl,trivial⟩,rfl,by decide +kernel⟩,rfl,⟨_,CY,λ_ _ _ _=>Aq (i:=0) (show List.Nodup (["_law_j", "_law_deeds_here", "_law_k"]:List Str) from by decide +kernel) rfl (Or.inl rfl)⟩,λ_ _ _ _=>EB (RW.rt (E7 (AZ DD (AR AW (AR AW (AB 1) (AB 2)) AF) Bd) (EO (AZ WY (AR AW (AR AW (AB 1) (AB 2)) AF) (AR AW (AR AW (AB 1) (AB 0)) AF))))),λ_ _ _ _=>(AB 0)⟩ (B1 (D9 (AB 2) DW (C1 (AB 4)))) GH) (Cu AH)) (AL (Aa DN)) Ag) (AL (A5 (AZ (CV c) (AR AW (AR AW (AB 1) (AB 5)) AF) A1) (AL (AV 3 e (AR AW (AR AW (AB 1) (AB 5)) AF))) (AL (A5 (RW.rt (E7 (AZ DD (AR AW (AR AW (AB 1) (AB 5)) AF) Bd) (EO (AZ (KR c) (AR AW (AR AW (AB 1) (AB 5)) AF) (AB 3))))) (AL (Aa DN)) Ag)))))) (AL (Aa DN)))))))
theorem U7:Fn P w K mg base "_law_right" ["_law_making_here", "_law_events_here"] 8 (Fu):=by
 obtain⟨f,e,d⟩:=a.e37;exact Ay (k:=7) .drop d.F sc_Lright (PySem.W.mg_of a.X a.G d.a) (d.F.binds λ_ _ _ _ _ _=>lq2 λ_ _=>rfl) (λ_ _ _ _ _ _ b=>have c:=sc_Lright.nd;(AG (AV 2 c (Am (KM a) b (AC (AB 0) (AC (AB 1) AH)))) (AG (AV 3 c (Ch W6 a.y6 Mi.C8 (AC (AB 1) AH))) (AG (AV 4 c (Am (FM a) b (AC (AB 0) (AC (AB 3) AH)))) (AG (A5 (RW.rt (M3 (AZ (KR b) (AB 3) (AB 1)) (OB (AZ (KR b) (C4 DD (AB 4) Bd) (Am (U5 a) b (AC (Ah B2 (BC (AC A1 AH)) (D9 (AB 0) (C1 AF) DW)) (AC (AB 1) AH))))))) (AL (Aa DN)) Ag) (AG (A5 (AZ Tn (AB 4) Bd) (AL (Aa DN)) Ag) (AG (A5 (RW.rt (M3 (ES (Di (Ap Hv a.y4 Mi.B3 (AC (AB 4) (AC (F4 a.y6 Mi.C8) AH))))) (M3 (ES (Di (Am (Fz a) b (AC (AB 0) (AC (AB 1) (AC (AB 4) AH)))))) (OB (ES (Di (Am (Nr a) b (AC (AB 0) (AC (AB 2) (AC (AB 4) AH)))))))))) (AL (Aa DN)) Ag) (AG (B8 (Bu PySem.F.slot_list_append PySem.F.type_list_append CD (AB 4) (AC AF AH))) (AG (AV 5 c (Am (FM a) b (AC (AB 0) (AC (AB 1) AH)))) (AL (Aa (E8 (C4 DD (AB 5) Bd) (HY (Am (Fz a) b (AC (AB 0) (AC (AB 1) (AC (AB 5) AH)))))))))))))))))
theorem Rq(n:Nat):Fn P w K mg base "_law_orders" ["_law_things"] (n+1) (Em n):=by
 obtain⟨f,j,d⟩:=a.e38
 induction n with
 |zero=>exact NV d.F (PySem.W.mg_of a.X a.G d.a) (d.F.binds λ_ _ _ _ _ _=>lq1 λ_=>rfl)
 |succ n g=>exact(Ay (k:=n+1) .drop d.F sc_Lorders (PySem.W.mg_of a.X a.G d.a) (d.F.binds λ_ _ _ _ _ _=>lq1 λ_=>rfl) (λ_ _ _ _ _ _ e=>have c:=sc_Lorders.nd;(AG (AV 1 c (Cu (AC (Cu AH) AH))) (AG (C3 PassesOwn.never rfl (B1 (AB 0)) (DX 2 c) (AG (OG (co:=(some _)) (tgs:=["_law_other"]) ⟨⟨rfl,by decide +kernel,by decide +kernel,⟨Or.inl rfl,trivial⟩,rfl,by decide +kernel⟩,rfl,⟨_,CY,λ_ _ _ _=>Aq (i:=0) (show List.Nodup (["_law_other", "_law_thing"]:List Str) from by decide +kernel) rfl (Or.inl rfl)⟩,λ_ _ _ _=>EB (AZ (KR e) (AB 0) (AB 1)),λ_ _ _ _=>(AB 0)⟩ (B1 (AB 0)) GH c) (AL (AV 1 c (Ah B2 (AB 1) (Ls (co:=none) (tgs:=["_law_order"]) ⟨⟨rfl,by decide +kernel,by decide +kernel,⟨Or.inl rfl,trivial⟩,rfl,by decide +kernel⟩,rfl,⟨_,CY,λ_ _ _ _=>Aq (i:=0) (show List.Nodup (["_law_order", "_law_thing"]:List Str) from by decide +kernel) rfl (Or.inl rfl)⟩,λ_ _ _ _=>Ci,λ_ _ _ _=>(Ah B2 (Cu (AC (AB 1) AH)) (AB 0))⟩ (B1 (Am (hkj:=AAE _) g e (AC (AB 3) AH))) GH)))))) (AL (Aa (AB 1))))))).mono (by lia)
end
theorem all_mk{l:PySem.W.OpenLaw}{w:World}{K:PySem.W.Frag}{h:Heap}{m:Str->Option Value}{q:Addr}(o:∀ns:List Int,ns.length<=63->∃Z',UU [.scr ns] []=some (.bl true,Z'))(a:Al w K m h)(p:m "law" = some (.ref q)):
  ∃r:FuncData,(∀(s:Shared) (v:Value),BindsTo s r ⟨[v],[]⟩ [("_law_script",v)])/\∀c:Heap,K.In c->c.Ns mainGlobals m->FnOk l.prog w K m c CX0 10 q r ["_law_script"] (Sh K):=by
 obtain⟨n,g,d⟩:=a.e39;have e:=p.symm.trans (PySem.W.mg_of a.X a.G d.a);cases e;refine⟨g,λs v=>?_,λc _ _=>?_⟩
 ·obtain⟨z,A,kV,t,B,C,u,E,x,rfl,F,y⟩:=d.F.ex;exact .of_eq rfl
 exact YT (φ:=UU) (US (k:=9) .drop d.F sc_law (λ_ _ _ _ _ _ f=>have j:=sc_law.nd;(AG (AV 1 j (Am (PH a) f (AC (AB 0) (AC AF AH)))) (AG (AV 2 j (Am (Rr a) f (AC (Ah DE (AB 1) AF) (AC (AR AW (Cu (AC A1 (AC A1 (AC A1 AH)))) (Ah EC (AB 1) AF)) AH)))) (AG (AV 3 j (Am (Rs a) f (AC (AB 2) (AC (D9 (AB 0) (C1 AF) (C1 (Ah Gw AF (Ah NA AF (Ch Uu a.y3 Mi.HK (AC (C4 ZG (Ap DK a.y5 Mi.BS (AC (AR AW (AB 2) AF) AH)) AF) AH)))))) AH)))) (AG (AV 4 j (Cu AH)) (AG (C3 PassesOwn.never rfl (Kr a.y8 (AC (Ah B2 (Ap DK a.y5 Mi.BS (AC (AB 3) AH)) AF) AH)) (DX 5 j) (AG (A5 (ES (Di (Am (U7 a) f (AC (AB 2) (AC (D9 (AB 3) DW (C1 (AB 5))) AH))))) (AL (Aa DN)) Ag) (AL (A5 (AZ Tl (Ap DK a.y5 Mi.BS (AC (Am (KM a) f (AC (AB 2) (AC (D9 (AB 3) DW (C1 (AB 5))) AH))) AH)) AF) (AL (AV 4 j (D9 (AB 3) DW (C1 (AB 5))))) Ag)))) (AG (AV 6 j (Am (KM a) f (AC (AB 2) (AC (AB 4) AH)))) (AG (OG (co:=(some _)) (tgs:=["_law_order"]) ⟨⟨rfl,by decide +kernel,by decide +kernel,⟨Or.inl rfl,Or.inl rfl,trivial⟩,rfl,by decide +kernel⟩,rfl,⟨_,CY,λ_ _ _ _=>Aq (i:=0) (show List.Nodup (["_law_order", "_law_deeds_here", "_law_making_here"]:List Str) from by decide +kernel) rfl (Or.inl rfl)⟩,λ_ _ _ _=>EB (Di (Am (Nr a) f (AC (AB 2) (AC (AB 1) (AC (AB 0) AH))))),λ_ _ _ _=>(AB 0)⟩ (B1 (Am (Rq a 8) f (AC (OE a.y6 a.y8 (Ap DK a.y5 Mi.BS (AC (AB 6) AH))) AH))) GH j) (AG (A5 (AZ (KR f) (Ls (co:=(some _)) (tgs:=["_law_order"]) ⟨⟨rfl,by decide +kernel,by decide +kernel,⟨Or.inl rfl,Or.inl rfl,trivial⟩,rfl,by decide +kernel⟩,rfl,⟨_,CY,λ_ _ _ _=>Aq (i:=0) (show List.Nodup (["_law_order", "_law_asked", "_law_making_here"]:List Str) from by decide +kernel) rfl (Or.inl rfl)⟩,λ_ _ _ _=>EB (ES (Di (Am (Fz a) f (AC (AB 2) (AC (AB 1) (AC (AB 0) AH)))))),λ_ _ _ _=>(AB 0)⟩ (B1 (AB 7)) GH) (Cu AH)) (AL (Aa DN)) Ag) (AL (Aa (C4 (CV f) (C4 Tn (Am (FM a) f (AC (AB 2) (AC (AB 4) AH))) Bd) (C4 (CV f) (AB 7) (Cu AH))))))))))))))) o
end K18
set_option maxHeartbeats 2000000
set_option maxHeartbeats 2000000
namespace Mi
open PySem L2
section
variable{B x5:Sl}{Z w5 w6 x6 u4:Mh}{d x y z:D}{ds:List D}{ma mb mc:Sl->M D}{tc tb:Sl->M Bool}{b:Bool}{m1 m2:Sl->M (Fl×Sl)}{g g':D->D->M D}{r:Fl×Sl}
theorem BT(h:B[i]?=some (some d)):AA i B Z=some (d,Z):=by unfold AA;rw[h]
theorem LH(a:ma B Z=some (x,w5))(c:mb B w5=some (y,w6))(e:g x y w6=some (d,x6)):mOp g ma mb B Z=some (d,x6):=by unfold mOp;rw[AM a,AM c,e]
theorem EL(a:ma B Z=some (x,w5))(c:e B w5=some (ds,w6)):AD ma e B Z=some (x::ds,w6):=by unfold AD;rw[AM a,AM c];rfl
theorem Bi(a:c B Z=some (ds,w5))(e:f ds w5=some (d,w6)):AE f c B Z=some (d,w6):=by unfold AE;rw[AM a,e]
theorem Da(a:ma B Z=some (x,w5))(c:EU x w5=some (u,w6))(e:h B w6=some (ds,x6))(i:f x ds x6=some (d,u4)):BG f ma h B Z=some (d,u4):=by unfold BG;rw[AM a,AM c,AM e,i]
theorem AX(h:ma B Z=some (.bl b,w5)):AN ma B Z=some (b,w5):=by unfold AN;rw[AM h];rfl
theorem EK(h:tc B Z=some (b,w5)):Dx tc B Z=some (!b,w5):=by unfold Dx;rw[AM h];rfl
theorem GC(a:tc B Z=some (true,w5))(c:tb B w5=some (b,w6)):Dj tc tb B Z=some (b,w6):=by unfold Dj;rw[AM a,if_pos rfl,c]
theorem GD(a:tc B Z=some (false,w5)):Dj tc tb B Z=some (false,w5):=by unfold Dj;rw[AM a];rfl
theorem Ho(a:tc B Z=some (false,w5))(c:tb B w5=some (b,w6)):mOr tc tb B Z=some (b,w6):=by unfold mOr;rw[AM a,if_neg (by decide),c]
theorem Cz(a:ma B Z=some (.bl true,w5))(c:mb B w5=some (d,w6)):DP ma mb B Z=some (d,w6):=by
 unfold DP;rw[AM a,AM rfl,if_pos rfl,c]
theorem Jv(a:ma B Z=some (.bl false,w5)):DP ma mb B Z=some (.bl false,w5):=by
 unfold DP;rw[AM a];rfl
theorem Ws(h:ma B Z=some (.bl b,w5)):NL ma B Z=some (.bl (!b),w5):=by
 unfold NL;rw[AM h];rfl
theorem Hq(a:ma B Z=some (x,w5))(c:mb B w5=some (y,w6))(e:g x y w6=some (.bl true,x6))(f:mc B x6=some (z,u4))(h:g' y z u4=some (d,u4)):Fp g g' ma mb mc B Z=some (d,u4):=by
 unfold Fp;rw[AM a,AM c,AM e,AM rfl,if_pos rfl,AM f,h]
theorem AT(a:m1 B Z=some ((.next,x5),w5))(c:m2 x5 w5=some (r,w6)):AS m1 m2 B Z=some (r,w6):=by unfold AS;rw[AM a];exact c
theorem Cn(a:m1 B Z=some ((.rt d,x5),w5)):AS m1 m2 B Z=some ((.rt d,x5),w5):=by unfold AS;rw[AM a];rfl
theorem DI(a:ma B Z=some (d,w5)):Bt ma B Z=some ((.next,B),w5):=by unfold Bt;rw[AM a];rfl
theorem C6(a:ma B Z=some (d,w5)):As ma B Z=some ((.rt d,B),w5):=by unfold As;rw[AM a];rfl
theorem Dk(a:tc B Z=some (true,w5))(c:m1 B w5=some (r,w6)):sIf tc m1 m2 B Z=some (r,w6):=by unfold sIf;rw[AM a,if_pos rfl,c]
theorem EW(a:tc B Z=some (false,w5))(c:m2 B w5=some (r,w6)):sIf tc m1 m2 B Z=some (r,w6):=by unfold sIf;rw[AM a,if_neg (by decide),c]
theorem CW(a:ma B Z=some (d,w5))(c:bf d B w5=some (x5,w6)):AY ma bf B Z=some ((.next,x5),w6):=by unfold AY;rw[AM a,AM c];rfl
theorem Ju(a:ma B Z=some (x,w5))(c:mb B w5=some (y,w6))(e:So x y d w6=some (u,x6)):Hz ma mb d B Z=some (B,x6):=by unfold Hz;rw[AM a,AM c,AM e];rfl
theorem Dl(c:a B Z=some (ds,w5))(e:B5 bf m1 ds B w5=some (r,w6)):D7 a bf m1 B Z=some (r,w6):=by unfold D7;rw[AM c,e]
theorem T8(h:i<=j):HZ (.int i) (.int j) Z=some (.bl true,Z):=by show some (D.bl _,Z)=_;rw[AAO h]
theorem T7(h:0<j):Cv (.int i) (.int j) Z=some (.int (i % j),Z):=by show (if 0<j then some _ else none)=_;rw[if_pos h]
theorem Oi(h:0<j)(a:j<1073741824):Cd (.int i) (.int j) Z=some (.int (i / j),Z):=by show (if 0<j/\j<1073741824 then some _ else none)=_;rw[if_pos ⟨h,a⟩]
theorem Xk(h:(-(2 ^ 64)<i/\i<2 ^ 64)∨(-(2 ^ 64)<j/\j<2 ^ 64)):Gv (.int i) (.int j) Z=some (.int (i * j),Z):=by show (if _∨_ then some _ else none)=_;rw[if_pos h]
theorem K4:EF [.int i,.ty "int"] Z=some (.bl true,Z):=by
 trivial
theorem K5:EF [.int i,.ty "bool"] Z=some (.bl false,Z):=by
 trivial
theorem K3:EF [.tup ds,.ty "tuple"] Z=some (.bl true,Z):=by
 trivial
theorem L5(h:Z[n]?=some (.lst ds))(a:atI ds i=some d):AJ (.ref n) (.int i) Z=some (d,Z):=by
 show bnd _ _ Z=_;rw[AM (by show (match Z[n]? with|some (.lst ds)=>_|_=>none)=_;rw[h])];unfold ixD;rw[a];rfl
theorem P5(a:atI ds i=some d):AJ (.tup ds) (.int i) Z=some (d,Z):=by
 show bnd (Dp (.tup ds)) (λds=>ixD ds i) Z=_;rw[AM rfl];unfold ixD;rw[a];rfl
theorem GQ(a:atI ds i=some d):AJ (.lst ds) (.int i) Z=some (d,Z):=by
 show bnd (Dp (.lst ds)) (λds=>ixD ds i) Z=_;rw[AM rfl];unfold ixD;rw[a];rfl
theorem NM(h:Z[n]?=some (.lst ds))(a:ixN ds.length k=some j):So (.ref n) (.int k) d Z=some ((),Z.set n (.lst (ds.set j d))):=by
 show (match Z[n]? with|some (.lst ds)=>_|_=>none)=_
 simp_all
end
end Mi
local macro_rules | `(tactic| wtm_at "m")=>`(tactic| first|rfl|assumption)
local macro_rules | `(tactic| wtm_at "h")=>`(tactic| first|assumption|decide|lia)
local macro_rules | `(tactic| wtm_at "m")=>`(tactic| first
 |((with_reducible apply Mi.T8);wtm_at "h")|((with_reducible apply Mi.l_leF);wtm_at "h")|((with_reducible apply Mi.l_lt);wtm_at "h")|((with_reducible apply Mi.l_ltF);wtm_at "h")|((with_reducible apply Mi.l_gt);wtm_at "h")|((with_reducible apply Mi.l_gtF);wtm_at "h")
 |(with_reducible apply Mi.K4)|(with_reducible apply Mi.K5)|(with_reducible apply Mi.l_inst_ss)|(with_reducible apply Mi.K3)|(with_reducible apply Mi.l_add)|(with_reducible apply Mi.l_sub)|((with_reducible apply Mi.T7);wtm_at "h")|((with_reducible apply Mi.Oi);(wtm_at "h");(wtm_at "h"))|((with_reducible apply Mi.Xk);first|(left;lia)|(right;lia))
 |((with_reducible apply Mi.P5);rfl)|((with_reducible apply Mi.GQ);rfl)|((with_reducible apply Mi.L5);(first|assumption|rfl);(rfl))|((with_reducible apply Mi.NM);(first|assumption|rfl);(rfl)))
namespace K13
open PySem L2 Mi Ht
noncomputable def hdD(n:Str):D:=.tup [.str n,.int 0,.tup []]
theorem A7{α:Type}{f:α->D}{k:Nat}(h:∀a,Cl k (f a)):∀xs:List α,ClL k (xs.map f)
 |[]=>by trivial
 |x::xs=>⟨h x,A7 h xs⟩
theorem BP(k:Nat)(i:Int):Cl k (.int i):=by unfold Cl;trivial
section
variable{Z w5 w6 x6 u4:Mh}{B x5:Sl}{x0 d:D}{ds es:List D}
theorem Ax(h:ds.length<=sizeLine):BE ds Z=some (.tup ds,Z):=by
 unfold BE;rw[AM (by unfold lim;rw[if_pos h])];rfl
theorem Ae(h:ds.length<=sizeLine):BU ds Z=some (.lst ds,Z):=by
 unfold BU;rw[AM (by unfold lim;rw[if_pos h])];rfl
theorem Zj{c:Sl->M D}{l h:Sl->M (Option Int)}{a b:Option Int}(e:c B Z=some (x0,w5))(f:l B w5=some (a,w6))(g:h B w6=some (b,x6))(i:JV a b x0 x6=some (d,u4)):DT c l h B Z=some (d,u4):=by unfold DT;rw[AM e,AM f,AM g,i]
theorem F7(h:ds.length+es.length<=sizeLine):Av (.tup ds) (.tup es) Z=some (.tup (ds++es),Z):=by
 cases ds with
 |nil=>rfl
 |cons a b=>exact Ax (by simp at h ⊢;lia)
theorem L7(h:ds.length+es.length<=sizeLine):Av (.lst ds) (.lst es) Z=some (.lst (ds++es),Z):=Ae (by simpa using h)
theorem E6{x:Str}(h:PyData.strOk x=true):SeqAt.shaped (.str x)=true:=by
 show (PyData.strOk x&&decide _)=true;rw[h];rfl
theorem Ej{x y:Str}(a:PyData.strOk x=true)(b:PyData.strOk y=true):Af (.str x) (.str y) Z=some (.bl (x==y),Z):=by
 show (if SeqAt.shaped _=true/\SeqAt.shaped _=true then some (D.bl (x==y),Z) else none)=_;rw[if_pos ⟨E6 a,E6 b⟩]
theorem BF:sizeLine=16777216:=by decide
section
variable{ma mb:Sl->M D}{x y:D}{g:D->D->M D}{as:Sl->M (List D)}{tc:Sl->M Bool}{b:Bool}{m1 m2:Sl->M (Fl×Sl)}{r:Fl×Sl}
theorem po(a:ma B Z=some (x,Z))(c:mb B Z=some (y,Z))(e:g x y Z=some (d,Z)):mOp g ma mb B Z=some (d,Z):=LH a c e
theorem pc(a:ma B Z=some (x,Z))(c:as B Z=some (ds,Z)):AD ma as B Z=some (x::ds,Z):=EL a c
theorem pd{f:List D->M D}(a:as B Z=some (ds,Z))(c:f ds Z=some (d,Z)):AE f as B Z=some (d,Z):=Bi a c
theorem p2{l h:Sl->M (Option Int)}{a b:Option Int}(c:ma B Z=some (x,Z))(e:l B Z=some (a,Z))(f:h B Z=some (b,Z))(i:JV a b x Z=some (d,Z)):DT ma l h B Z=some (d,Z):=Zj c e f i
theorem pq(a:m1 B Z=some ((.next,x5),Z))(c:m2 x5 Z=some (r,Z)):AS m1 m2 B Z=some (r,Z):=AT a c
theorem pa{bf:D->Sl->M Sl}(a:ma B Z=some (d,Z))(c:bf d B Z=some (x5,Z)):AY ma bf B Z=some ((.next,x5),Z):=CW a c
theorem piT(a:tc B Z=some (true,Z))(c:m1 B Z=some (r,Z)):sIf tc m1 m2 B Z=some (r,Z):=Dk a c
theorem piF(a:tc B Z=some (false,Z))(c:m2 B Z=some (r,Z)):sIf tc m1 m2 B Z=some (r,Z):=EW a c
theorem pr(a:ma B Z=some (d,Z)):As ma B Z=some ((.rt d,B),Z):=C6 a
theorem peT(a:tc B Z=some (true,Z))(c:ma B Z=some (d,Z)):mIf tc ma mb B Z=some (d,Z):=by unfold mIf;rw[AM a,if_pos rfl,c]
theorem peF(a:tc B Z=some (false,Z))(c:mb B Z=some (d,Z)):mIf tc ma mb B Z=some (d,Z):=by unfold mIf;rw[AM a,if_neg (by decide),c]
end
theorem EX{α:D}{j:Nat}(h:j<=ds.length):FT ds none (some (j:Int))=ds.take j:=by
 unfold FT;rw[HT.Mz,HT.IY,Nat.min_eq_left h];simp
theorem Ul{j:Nat}(h:j<=ds.length):FT ds (some (j:Int)) none=ds.drop j:=by
 unfold FT;rw[HT.Mz,HT.IY,Nat.min_eq_left h];exact List.take_of_length_le (by simp)
theorem HV{j:Nat}{x:D}(c:j<ds.length)(l:ds.length<=1000)(e:∀k,ClL k ds)(f:∀k,Cl k x):Ad [.tup ds,.int j,x] Z=some (.tup (ds.set j x),Z):=by
 have m:=BF;have b:∀k j ds,ClL k ds->ClL k (ds.set j x):=by
  intro k j ds
  induction ds generalizing j with
  |nil=>intro h;exact h
  |cons a n i=>
   intro h;cases j with
   |zero=>exact⟨f k,h.2⟩
   |succ j=>exact⟨h.1,i j h.2⟩
 refine Ac (g:=[]) (x3:=Bc 3 [.tup ds,.int j,x]) ?_ rfl (b _ _ _ (e _));rw[AAY];refine pr (po (y:=.tup (ds.drop (j+1))) (po (x:=.tup (ds.take j)) (p2 rfl rfl rfl ?_) rfl (F7 (by simp;lia))) (p2 rfl rfl rfl ?_) ?_)
 ·show some _=_;rw[EX (α:=x) (by lia)]
 ·show some _=_;rw[show (j+1)=((j+1:Nat):Int) by lia,Ul (by lia)]
 ·rw[F7 (by simp;lia),AAk];rw[List.set_eq_take_append_cons_drop,if_pos c];rfl
end
section
variable{Z Z':Mh}{B:Sl}{d:D}{ds es:List D}
theorem Bl:∀{xs:List α} {ys:List D},(∀a∈xs,mc (u3.set 0 (some (f a))) Z=some (p a,Z))->(∀a∈xs,p a=true->me (u3.set 0 (some (f a))) Z=some (F a,Z))->EY (AO 0) mc me u3 (xs.map f) ys Z=some (ys++(xs.filter p).map F,Z)
 |[],ys,_,_=>by show some (ys,Z)=_;simp
 |z::xs,ys,c,h=>by
  show bnd (AO 0 (f z) u3) _ Z=_;rw[AM rfl,AM (c z (by simp))];cases q:p z with
  |true=>
   rw[if_pos rfl,AM (h z (by simp) q),Bl (λw b=>c w (by simp[b])) λw b=>h w (by simp[b])];simp[q]
  |false=>
   rw[if_neg (by decide),Bl (λw b=>c w (by simp[b])) (λw b=>h w (by simp[b]))];simp[q]
theorem BD(c:a B Z=some (ds,Z))(e:ds.length<=sizeLine)(f:EY bf mc me (Ey N ix B) ds [] Z=some (es,Z))(g:b es Z=some (d,Z')):Bm N ix a bf mc me b B Z=some (d,Z'):=by
 unfold Bm;rw[AM c,AM (by unfold lim;rw[if_pos e]),AM f,g]
theorem Ba(xs:List α):xs.filter (λ_=>true)=xs:=by simp
theorem Ez(h:a B Z=some (.tup ds,Z)):CM a B Z=some (ds,Z):=by unfold CM;rw[AM h];rfl
theorem BB(h:a B Z=some (.lst ds,Z)):CM a B Z=some (ds,Z):=by unfold CM;rw[AM h];rfl
theorem Ft(a:α):∀k:Nat,(List.replicate k [a]).flatten=List.replicate k a
 |0=>rfl
 |k+1=>by simp
theorem P3:DA (.int i) (.int j) Z=some (.bl (!(i==j)),Z):=rfl
theorem BZ{ds:List D}{r:Nat}{x:D}(h:ds[r]?=some x):atI ds (r:Int)=some x:=by
 have a  := (AAT.mp h).1;unfold atI ixN
 simp_all
end
inductive Ev where
 |wb (v:Int)|we|rb (r:Nat)|re (r:Nat) (v:Int)
deriving DecidableEq
noncomputable def Ev.beg:Ev->Bool
 | .wb _=>true
 | .we=>false
 | .rb _=>true
 | .re _ _=>false
noncomputable def Ev.hand:Ev->Nat
 | .wb _=>0
 | .we=>0
 | .rb r=>r+1
 | .re r _=>r+1
noncomputable def Ev.val:Ev->Option Int
 | .wb v=>some v
 | .re _ v=>some v
 |_=>none
abbrev nm(ns:List Str)(h:Nat):Str:=ns.getD h "w"
noncomputable def bS:Bool->Str
 |true => "begin"
 |false => "end"
noncomputable def evD(ns:List Str)(e:Ev):D:=.tup (D.str (bS e.beg)::.str (nm ns e.hand)::(match e.val with|some v=>[.int v]|none=>[]))
noncomputable def BH(e:Ev)(g:Int):D:=.tup [.str (bS e.beg),.int e.hand,.int (e.val.getD (-1)),.int g]
structure Ns(ns:List Str):Prop where
 ok:∀n∈ns,PyData.strOk n=true
 nd:ns.Nodup
 lo:2<=ns.length
 hi:ns.length<=4
structure Ev.Ok(ns:List Str)(sz:Int)(e:Ev):Prop where
 h:e.hand<ns.length
 v:∀v,e.val=some v->0<=v/\v<sz
theorem Ns.nok(N:Ns ns)(a:h<ns.length):PyData.strOk (nm ns h)=true:=N.ok _ (by simp[nm,a])
theorem Ns.mem(a:h<ns.length):nm ns h∈ns:=by simp[nm,a]
theorem Ns.inj(N:Ns ns)(a:h<ns.length)(b:k<ns.length)(e:nm ns h=nm ns k):h=k:=by
 have c  := by simpa[a,b] using e
 exact(List.getElem_inj N.nd).mp c
section
variable{Z:Mh}{ds:List D}
variable{sz:Int}{ns:List Str}
theorem LS:∀b,PyData.strOk (bS b)=true:=by decide +kernel
theorem Zx:∀b,(bS b==("begin" : Str))=b:=by decide +kernel
theorem Zw:∀b,(bS b==("end" : Str))=!b:=by decide +kernel
theorem GR:Af (.str (bS b)) (.str "begin") Z=some (.bl b,Z):=by rw[Ej (LS b) (by decide +kernel),Zx]
theorem bP:Af (.str (bS b)) (.str "end") Z=some (.bl (!b),Z):=by rw[Ej (LS b) (by decide +kernel),Zw]
theorem II:Af (.bl a) (.bl b) Z=some (.bl (a==b),Z):=rfl
theorem C7:Af (.int i) (.int j) Z=some (.bl (i==j),Z):=rfl
theorem Og(N:Ns ns)(a:h<ns.length)(b:k<ns.length):Af (.str (nm ns h)) (.str (nm ns k)) Z=some (.bl (h==k),Z):=by
 rw[Ej (N.nok a) (N.nok b)];by_cases e:h=k
 ·subst e;simp
 ·rw[AAd.mpr e,AAd.mpr λz=>e (N.inj a b z)]
theorem F9:∀xs:List Str,DV (xs.map D.str)=some (xs.map V.str)
 |[]=>rfl
 |x::r=>by show (HA (.str x)).bind _=_;rw[F9 r];rfl
theorem NQ:∀xs:List Str,inV (.str x) (xs.map V.str)=decide (x∈xs)
 |[]=>rfl
 |y::r=>by
  have h:=NQ (x:=x) r;unfold inV at h ⊢;rw[AAW,List.any_cons,h];show (y==x||decide (x∈r))=_
  grind
theorem T9{a:Bool}{c:D}{xs:List Str}(h:Dp c Z=some (xs.map D.str,Z)):G4 a (.str x) c Z=some (.bl (if a then !decide (x∈xs) else decide (x∈xs)),Z):=by
 unfold G4;rw[AM h];simp[F9];show some _=_;rw[NQ]
theorem LY(a:lo<=v)(b:v<=hi):Aw [.int v,.int lo,.int hi] Z=some (.bl true,Z):=by
 refine Ac (g:=[]) (x3:=[some (.int v),some (.int lo),some (.int hi)]) ?_ rfl (by unfold Cl;trivial);rw[AAY];exact pr (Cz (pd rfl K4) (Cz (Ws (pd rfl K5)) (Hq rfl rfl (T8 a) rfl (T8 b))))
theorem Vp{lo hi:Int}(a:lo<=ds.length)(b:ds.length<=hi):BX [.tup ds,.int lo,.int hi] Z=some (.bl true,Z):=by
 refine Ac (g:=[]) (x3:=[some (.tup ds),some (.int lo),some (.int hi)]) ?_ rfl (by unfold Cl;trivial);rw[AAY];exact pr (Cz (pd rfl K3) (Hq rfl (pd rfl rfl) (T8 a) rfl (T8 b)))
noncomputable def evL(ns:List Str)(e:Ev):List D:=D.str (bS e.beg)::.str (nm ns e.hand)::(match e.val with|some v=>[.int v]|none=>[])
theorem Zk:evD ns e=.tup (evL ns e):=rfl
theorem QJ:(evL ns e).length=if e.val.isSome then 3 else 2:=by cases e<;>rfl
theorem Vs(N:Ns ns){e:Ev}(h:e.Ok ns sz):BN [evD ns e,.lst (ns.map D.str),.int sz] Z=some (.bl true,Z):=by
 have q:=BF;have j:=N.lo;refine Ac (g:=[]) (x3:=[some (evD ns e),some (.lst (ns.map D.str)),some (.int sz)]) ?_ rfl (by unfold Cl;trivial);rw[AAY];have a:=QJ (ns:=ns) (e:=e);have f:mOp AJ (AA 0) (mC (.int 0)) [some (evD ns e),some (.lst (ns.map D.str)),some (.int sz)] Z=some (.str (bS e.beg),Z):=by cases e<;>rfl
 have i:mOp AJ (AA 0) (mC (.int 1)) [some (evD ns e),some (.lst (ns.map D.str)),some (.int sz)] Z=some (.str (nm ns e.hand),Z):=by cases e<;>rfl
 have k:Dx (AN (AE BX (AD (AA 0) (AD (mC (.int 2)) (AD (mC (.int 3)) AK))))) [some (evD ns e),some (.lst (ns.map D.str)),some (.int sz)] Z=some (false,Z):=
  EK (b:=true) (AX (pd rfl (by rw[Zk];exact Vp (by rw[a];split<;>decide) (by rw[a];split<;>decide))))
 have l:AN (mOp (FA true) (mOp AJ (AA 0) (mC (.int 0))) (AE BE (AD (mC (.str "begin")) (AD (mC (.str "end")) AK)))) [some (evD ns e),some (.lst (ns.map D.str)),some (.int sz)] Z=some (false,Z):=by
  refine AX (po f (pd rfl (Ax (by simp;lia))) ?_);show G4 true (.str (bS e.beg)) (.tup ((["begin", "end"]:List Str).map D.str)) Z=_;rw[T9 rfl];cases e.beg<;>rfl
 have m:AN (mOp (FA true) (mOp AJ (AA 0) (mC (.int 1))) (AA 1)) [some (evD ns e),some (.lst (ns.map D.str)),some (.int sz)] Z=some (false,Z):=by
  refine AX (po i rfl ?_);show G4 true (.str (nm ns e.hand)) (.lst (ns.map D.str)) Z=_;rw[T9 rfl,AAO (Ns.mem h.h)];rfl
 have c:AN (mOp Af (mOp Af (mOp AJ (AA 0) (mC (.int 0))) (mC (.str "begin"))) (mOp Af (mOp AJ (AA 0) (mC (.int 1))) (mOp AJ (AA 1) (mC (.int 0))))) [some (evD ns e),some (.lst (ns.map D.str)),some (.int sz)] Z=some (e.val.isSome,Z):=by
  refine AX ?_;have n:(ns.map D.str)[0]?=some (D.str (nm ns 0)):=by
   rw[AAV];simp[nm,show 0<ns.length by lia]
  refine po (po f rfl GR) (po i (po rfl rfl (GQ (BZ n))) (Og N h.h (by lia))) ?_;rw[II];cases e<;>rfl
 refine pq (piF (Ho k (Ho l m)) rfl) ?_;cases d:e.val with
 |none=>
  rw[d] at c a;refine pq (piF c rfl) (pr (po (x:=.int 2) (pd rfl ?_) rfl rfl));show some (D.int (evL ns e).length,Z)=_;rw[a];rfl
 |some v=>
  rw[d] at c a;obtain⟨o,r⟩:=h.v v d;have p:mOp AJ (AA 0) (mC (.int 2)) [some (evD ns e),some (.lst (ns.map D.str)),some (.int sz)] Z=some (.int v,Z):=by cases e<;>cases d<;>rfl
  refine Cn (piT c (pr (Cz (po (x:=.int 3) (pd rfl ?_) rfl rfl) (pd (pc p rfl) (LY o (by lia))))));show some (D.int ((evL ns e).length),Z)=_;rw[a];rfl
end
noncomputable def wfG:(Nat->Bool)->List Ev->Prop
 |_,[]=>True
 |G,e::a=>G e.hand=!e.beg/\wfG (λh=>if h=e.hand then e.beg else G h) a
def DG(L:List (Key×D))(G:Nat->Bool):Prop:=∀h:Nat,(CU L (.inl (h:Int))=none/\G h=false)∨∃g:Int,CU L (.inl (h:Int))=some (.int g)/\G h=true
theorem Dt(L:List (Key×D))(k f:Key)(d:D):CU (Dc L k d) f=if f=k then some d else CU L f:=by
 unfold Dc;split
 ·rename_i h
  induction L with
  |nil=>simp at h
  |cons a L j=>
   unfold CU at j ⊢;rw[AAW,List.find?_cons,List.find?_cons];by_cases g:a.1=k
   ·rw[if_pos g];by_cases e:f=k
    ·subst e;simp[g]
    ·have:¬a.1=f:=λz=>e (z.symm.trans g);simp only[this,decide_false,e,if_false];by_cases c:(L.any λkv=>decide (kv.1=k))=true
     ·have:=j c;simpa[e] using this
     ·have n:L.map (λkv=>if kv.1=k then (kv.1,d) else kv)=L:=by
       conv=>rhs;rw[←List.map_id L]
       refine List.map_congr_left λb l=>?_;rw[if_neg λz=>c (List.any_eq_true.mpr ⟨b,l,by simpa using z⟩)];rfl
      rw[n]
   ·rw[if_neg g];have c:(L.any λkv=>decide (kv.1=k))=true:=by simp_all
    have:=j c;by_cases e:a.1=f
    ·have m:¬f=k:=λz=>g (e.trans z);simp[e,m]
    ·simp only[e,decide_false];exact this
 ·rename_i h;unfold CU;rw[List.find?_append];by_cases e:f=k
  ·subst e;have:L.find? (λkv=>decide (kv.1=f))=none:=by
    rw[List.find?_eq_none];intro b l z;exact h (List.any_eq_true.mpr ⟨b,l,z⟩)
   rw[this];simp
  ·rw[if_neg e];have:¬k=f:=λz=>e z.symm;cases L.find? _<;>simp[this]
theorem Mc(L:List (Key×D))(k b:Key):CU (HE L k) b=if b=k then none else CU L b:=by
 unfold HE CU
 induction L with
 |nil=>simp
 |cons a L e=>
  by_cases d:a.1=k
  ·rw[List.filter_cons_of_neg (by simp[d]),e];by_cases c:b=k
   ·simp[c]
   ·have:¬a.1=b:=λz=>c (z.symm.trans d);simp[c,this]
  ·rw[List.filter_cons_of_pos (by simp[d]),List.find?_cons,List.find?_cons];by_cases c:a.1=b
   ·simp_all
   ·simp only[c,decide_false];exact e
theorem Du(L:List (Key×D))(k:Key)(d:D):(Dc L k d).length<=L.length+1:=by unfold Dc;split<;>simp
theorem UZ(L:List (Key×D))(k:Key):(HE L k).length<=L.length:=List.length_filter_le _ _
theorem DG.put(h:DG L G)(k:Nat)(g:Int):DG (Dc L (.inl (k:Int)) (.int g)) (λh=>if h=k then true else G h):=λj=>by
 rw[Dt];by_cases e:j=k
 ·subst e;exact .inr ⟨g,by simp,by simp⟩
 ·have:¬(Sum.inl j:Key)=.inl k:=(by grind);simp only[this,e];exact h j
theorem DG.drop(h:DG L G)(k:Nat):DG (HE L (.inl (k:Int))) (λh=>if h=k then false else G h):=λj=>by
 rw[Mc];by_cases e:j=k
 ·subst e;exact .inl ⟨by simp,by simp⟩
 ·have:¬(Sum.inl j:Key)=.inl k:=λz=>e (by have:=Sum.inl.inj z;lia);simp only[this,e];exact h j
section
variable{Z w5 w6 x6:Mh}{B x5:Sl}{d:D}{ds:List D}{n:Nat}
variable{sz:Int}{ns:List Str}
theorem g2a:(Z++[a,b])[Z.length]?=some a:=by rw[AAR (AAE _)];simp
theorem g2b:(Z++[a,b])[Z.length+1]?=some b:=by simp_all
theorem s2a:(Z++[a,b]).set Z.length c=Z++[c,b]:=by simp_all
theorem s2b:(Z++[a,b]).set (Z.length+1) c=Z++[a,c]:=by simp_all
theorem Db(h:Z[n]?=some (.dK L)):FL (.ref n) Z=some ((n,L),Z):=by unfold FL;dsimp;rw[h]
theorem L6(h:Z[n]?=some (.dK L)):Kc false (.int k) (.ref n) Z=some (.bl (CU L (.inl k)).isSome,Z):=by
 unfold Kc;rw[AM (Db h)];rfl
theorem Ij(h:Z[n]?=some (.dK L))(a:CU L (.inl k)=some d):Dr (.ref n) (.int k) Z=some (d,Z):=by
 unfold Dr;rw[AM (Db h)];show (CU L _).map _=_;rw[a];rfl
theorem En(a:mv B Z=some (v,Z))(b:mo B Z=some (.ref n,Z))(c:mi B Z=some (.int k,Z))(h:Z[n]?=some (.dK L))(e:L.length<sizeLine):EN mo mi mv B Z=some ((.next,B),Z.set n (.dK (Dc L (.inl k) v))):=by
 unfold EN;rw[AM a,AM b,AM c,AM (Db h)];show (if L.length<sizeLine then some _ else none)=_;rw[if_pos e]
theorem Wt(a:mo B Z=some (.ref n,Z))(b:mi B Z=some (.int k,Z))(h:Z[n]?=some (.dK L))(c:CU L (.inl k)=some d):Kw mo mi B Z=some (d,Z.set n (.dK (HE L (.inl k)))):=by
 unfold Kw;rw[AM a,AM (by unfold Oq;rw[AM (Db h)];rfl),AM b];unfold Xw;rw[AM (Db h)];show (CU L _).map _=_;rw[c];rfl
theorem BJ(h:Z[n]?=some (.lst ds)):EU (.ref n) Z=some ((),Z):=by
 unfold EU;rw[AM (by unfold EZ;dsimp;rw[h])];rfl
theorem B9(h:Z[n]?=some (.lst ds))(a:ds.length<sizeLine):DM (.ref n) [d] Z=some (.non,Z.set n (.lst (ds++[d]))):=by
 show FY n _ Z=_;unfold FY
 simp_all
theorem QH:∀{ns:List Str} {h:Nat},ns.Nodup->h<ns.length->(ns.map V.str).findIdx? (λz=>eqV z (V.str (nm ns h)))=some h
 |[],h,_,b=>absurd b (by simp)
 |n::ns,0,_,_=>by
  show (if (n==n)=true then some 0 else _)=_;simp
 |n::ns,h+1,c,b=>by
  obtain⟨f,g⟩:=List.nodup_cons.mp c;have a  := by simpa using b
  have e:nm (n::ns) (h+1)=nm ns h:=by simp[nm]
  rw[AAW,List.findIdx?_cons,e];have:eqV (V.str n) (V.str (nm ns h))=false:=AAd.mpr λz=>f (z ▸ Ns.mem a);rw[this,QH g a];rfl
theorem bM(N:Ns ns)(a:h<ns.length):LA (.lst (ns.map D.str)) [.str (nm ns h)] Z=some (.int h,Z):=by
 show bnd (Dp (.lst _)) (λds=>λZ=>match HA _,DV ds with
  |some y,some b=>(b.findIdx? λz=>eqV z y).map _
  |_,_=>none) Z=_
 rw[AM (rfl)];simp only[F9];show Option.map _ _=_;rw[QH N.nd a];rfl
noncomputable abbrev c9:Sl->M (Fl×Sl):=(AS (sIf (Dx (AN (AE BN (AD (AA 7) (AD (AA 2) (AD (mOp AJ (AA 0) (mC (.int 1))) AK)))))) D6 A6)
  (AS (AY (BG LA (AA 2) (AD (mOp AJ (AA 7) (mC (.int 1))) AK)) (AO 8))
  (AS (sIf (AN (mOp Af (mOp Af (mOp AJ (AA 7) (mC (.int 0))) (mC (.str "begin"))) (mOp (Kc false) (AA 8) (AA 3)))) D6 A6)
  (AS (sIf (AN (mOp Af (mOp AJ (AA 7) (mC (.int 0))) (mC (.str "begin")))) (AS (EN (AA 3) (AA 8) (AA 5))
  (AY (mOp Lu (AA 5) (mC (.int 1))) (AO 5))) A6)
  (AS (Bt (BG DM (AA 4) (AD (AE BE (AD (mOp AJ (AA 7) (mC (.int 0))) (AD (AA 8) (AD (mIf (AN (mOp Af (AE Bp (AD (AA 7) AK)) (mC (.int 3)))) (mOp AJ (AA 7) (mC (.int 2))) (mC BO)) (AD (mOp Dr (AA 3) (AA 8)) AK))))) AK)))
  (sIf (AN (mOp Af (mOp AJ (AA 7) (mC (.int 0))) (mC (.str "end")))) (Bt (Kw (AA 3) (AA 8))) A6))))))
theorem AU(b:bf x B Z=some (x5,w5))(c:a x5 w5=some ((.next,x3),w6))(e:B5 bf a ds x3 w6=some (r,x6)):B5 bf a (x::ds) B Z=some (r,x6):=by
 show bnd _ _ Z=_;rw[AM b,AM c];exact e
theorem U3{e:Ev}{S:Sl}{M:Mh}{o:D}{g:Int}(m:e.Ok ns sz)(h:S[7]?=some (some (evD ns e)))(f:S[8]?=some (some (.int e.hand)))(i:S[3]?=some (some o))(j:Dr o (.int e.hand) M=some (.int g,M)):
  AE BE (AD (mOp AJ (AA 7) (mC (.int 0))) (AD (AA 8) (AD (mIf (AN (mOp Af (AE Bp (AD (AA 7) AK)) (mC (.int 3)))) (mOp AJ (AA 7) (mC (.int 2))) (mC BO)) (AD (mOp Dr (AA 3) (AA 8)) AK)))) S M=some (BH e g,M):=by
 have p:=BF;have b:=BT (Z:=M) h;have k:=QJ (ns:=ns) (e:=e);have a:AN (mOp Af (AE Bp (AD (AA 7) AK)) (mC (.int 3))) S M=some (e.val.isSome,M):=by
  refine AX (po (pd (ds:=[.tup (evL ns e)]) (pc b rfl) rfl) rfl ?_);cases e<;>rfl
 have l:mIf (AN (mOp Af (AE Bp (AD (AA 7) AK)) (mC (.int 3)))) (mOp AJ (AA 7) (mC (.int 2))) (mC BO) S M=some (.int (e.val.getD (-1)),M):=by
  cases c:e.val with
  |none=>rw[c] at a;exact peF a rfl
  |some v=>
   rw[c] at a;refine peT a (po b rfl ?_);cases e<;>cases c<;>rfl
 exact pd (pc (po b rfl (by cases e<;>rfl)) (pc (BT f) (pc l (pc (po (BT i) (BT f) j) rfl)))) (Ax (by simp;lia))
end
section
variable{Z w5 w6:Mh}{B x5:Sl}{d:D}{ds:List D}
theorem Zr(p:Ev×Int):Cl k (BH p.1 p.2):=by simp[BH,Cl,ClL]
theorem CL(a:bf x B Z=some (x5,w5))(b:c x5 w5=some ((.rt d,x3),w6)):B5 bf c (x::ds) B Z=some ((.rt d,x3),w6):=by
 show bnd _ _ Z=_;rw[AM a,AM b];rfl
theorem Gf:∀{es:List Ev} {a:List Int},a.length=es.length->(es.zip a).map (·.1)=es
 |[],[],_=>rfl
 |e::es,g::a,h=>by rw[List.zip_cons_cons,AAW,Gf (by simpa using h)]
 |[],_::_,h=>rfl
 |_::_,[],h=>by simp at h
end
section
variable{Z:Mh}{a c:D}
variable{ns:List Str}
theorem bO(d:KO Z a=some p)(e:KO Z c=some q)(f:SeqAt.shaped p=true)(g:SeqAt.shaped q=true):Fj b a c Z=some (.bl (if b then !PyData.eqv p q else PyData.eqv p q),Z):=by
 unfold Fj;rw[d,e];exact if_pos ⟨f,g⟩
theorem OS(N:Ns ns)(b:h<ns.length)(d:k<ns.length):(nm ns h==nm ns k)=(h==k):=by
 by_cases e:h=k
 ·subst e;simp
 ·rw[AAd.mpr e,AAd.mpr λz=>e (N.inj b d z)]
theorem aV(k:Nat):KQ 0 (k:Int)=(List.range k).map λj:Nat=>D.int j:=by
 unfold KQ;simp
end
noncomputable def gS(G:Nat->Bool)(e:Ev):Nat->Bool:=λh=>if h=e.hand then e.beg else G h
noncomputable def gA(G:Nat->Bool)(es:List Ev):Nat->Bool:=es.foldl gS G
theorem wf_app:∀{G:Nat->Bool} {es a:List Ev},wfG G (es++a)↔wfG G es/\wfG (gA G es) a
 |G,[],a=>by simp[wfG,gA]
 |G,e::es,a=>by
  show G _=!e.beg/\wfG (gS G e) (es++a)↔(G _=!e.beg/\wfG (gS G e) es)/\wfG (gA (_) es) a;rw[wf_app,and_assoc]
theorem QC:gA G (es++[e])=gS (gA G es) e:=by unfold gA;simp_all
noncomputable abbrev G0:Nat->Bool:=λ_=>false
section
variable{Z w6 x6:Mh}{B:Sl}{ds:List D}{n:Nat}
theorem Oh(h:Z[n]?=some (.lst ds)):Bp [.ref n] Z=some (.int ds.length,Z):=by
 unfold Bp;simp[h]
theorem Ou(b:mc B Z=some (true,Z))(c:a B Z=some ((.next,x3),w6))(d:IQ mc a k x3 w6=some (r,x6)):IQ mc a (k+1) B Z=some (r,x6):=by
 unfold IQ;rw[AM b,if_pos rfl,AM c];exact d
theorem Ov(a:mc B Z=some (false,Z)):IQ mc b (k+1) B Z=some ((.next,B),Z):=by
 unfold IQ;rw[AM a];rfl
end
section
variable{n:Nat}
noncomputable abbrev nL0:List Str:=["w", "r", "s", "t"]
noncomputable abbrev nL1:List Str:=["writer", "a", "ab", "b"]
noncomputable abbrev nL2:List Str:=["z", "zz", "zzzzzzzz", "begin"]
theorem Ps{L:List Str}(c:∀n∈L,PyData.strOk n=true)(d:L.Nodup)(f:L.length=4)(a:2<=j)(b:j<=4):Ns (L.take j):=
 ⟨λn e=>c n (List.mem_of_mem_take e),d.sublist (List.take_sublist _ _),by grind,by grind⟩
end
end K13
namespace K11
open PySem L2 Mi Ht K13
section
variable{Z w5 w6:Mh}{B x5 x3:Sl}{n:Nat}{ds:List D}
theorem RQ(hn:Z[n]?=some (.lst ds))(b:ds[i]?=some y)(c:bf y B Z=some (x5,w5))(d:a x5 w5=some ((.next,x3),w6))(e:Hk n bf a k (i+1) x3 w6=some r):Hk n bf a (k+1) i B Z=some r:=by
 unfold Hk;simp[hn,b];rw[AM c,AM d];exact e
theorem RU(hn:Z[n]?=some (.lst ds))(a:ds[i]?=none):Hk n bf b (k+1) i B Z=some ((.next,B),Z):=by
 unfold Hk;simp[hn,a]
end
end K11
namespace Wb
open PySem Nk
noncomputable def mvR(c:Cs)(i:Nat):Cs:=(c.1,c.2.1,c.2.2.set i c.1)
noncomputable def rdF:Nat->List Int->List Nat
 |_,[]=>[]
 |k,t::r=>if t=-2 then k::rdF (k+1) r else rdF (k+1) r
noncomputable def S7(c:Cs):List Nat:=rdF 0 c.2.2
theorem mem_rdF:∀{ts:List Int} {k:Nat},i∈rdF k ts↔k<=i/\ts[i-k]?=some (-2)
 |[],k=>by simp[rdF]
 |t::r,k=>by
  have b:=mem_rdF (i:=i) (ts:=r) (k:=k+1);unfold rdF;by_cases a:i=k
  ·subst a
   grind
  ·have e:k<=i/\(t::r)[i-k]?=some (-2)↔k+1<=i/\r[i-(k+1)]?=some (-2):=by grind
   rw[e,←b];split
   ·simp[a]
   ·rfl
theorem Pl:∀(ts:List Int) (k:Nat),(rdF k ts).length<=ts.length
 |[],k=>by simp[rdF]
 |t::r,k=>by
  have:=Pl r (k+1);unfold rdF;split<;>simp<;>lia
noncomputable def Dw(c:Cs):List (Nat×Cs):=(if 0<=c.2.1 then [(0,(c.2.1,-2,c.2.2))] else [])++(S7 c).map λi=>(i+1,mvR c i)
noncomputable def nxt(c:Cs):List Cs:=(Dw c).map (·.2)
noncomputable def Fm(v:Int):List Int->List (List Int)
 |[]=>[[]]
 |t::r=>if t=-2 then (Fm v r).map (-2::·)++(Fm v r).map (v::·) else (Fm v r).map (t::·)
noncomputable def rch(c:Cs):List Cs:=(Fm c.1 c.2.2).map (λt=>(c.1,c.2.1,t))++if 0<=c.2.1 then ((Fm c.1 c.2.2).flatMap (Fm c.2.1)).map (λt=>(c.2.1,-2,t)) else []
theorem Hc(v:Int):∀ts,ts∈Fm v ts
 |[]=>by simp[Fm]
 |t::r=>by
  unfold Fm;have:=Hc v r;split
  ·simp_all
  ·simp[this]
theorem Fk:∀{ts b:List Int} {i:Nat},b∈Fm v ts->b[i]?=some (-2)->b.set i v∈Fm v ts
 |[],b,i,h,e=>by simp[Fm] at h;simp_all
 |t::r,b,i,h,e=>by
  unfold Fm at h ⊢;split at h
  ·rename_i c;rw[if_pos c];rcases AAJ.mp h with h|h
   ·obtain⟨x,a,rfl⟩:=AAL.mp h;cases i with
    |zero=>exact AAZ _ (AAL.mpr ⟨x,a,rfl⟩)
    |succ i=>exact AAa _ (AAL.mpr ⟨x.set i v,Fk a (by simpa using e),rfl⟩)
   ·obtain⟨x,a,rfl⟩:=AAL.mp h;cases i with
    |zero=>exact AAZ _ (AAL.mpr ⟨x,a,rfl⟩)
    |succ i=>exact AAZ _ (AAL.mpr ⟨x.set i v,Fk a (by simpa using e),rfl⟩)
  ·rename_i c;rw[if_neg c];obtain⟨x,a,rfl⟩:=AAL.mp h;cases i with
   |zero=>simp_all
   |succ i=>exact AAL.mpr ⟨x.set i v,Fk a (by simpa using e),rfl⟩
theorem mem_rdrs:i∈S7 c↔c.2.2[i]?=some (-2):=by
 unfold S7;rw[mem_rdF];simp
theorem mem_nxt:x∈nxt c↔(0<=c.2.1/\x=(c.2.1,-2,c.2.2))∨∃i,c.2.2[i]?=some (-2)/\x=mvR c i:=by
 unfold nxt Dw;rw[AAX,AAJ,List.map_map];constructor
 ·rintro(h|h)
  ·split at h
   ·rename_i b;simp at h;exact .inl ⟨b,h⟩
   ·simp at h
  ·obtain⟨i,a,rfl⟩:=AAL.mp h;exact .inr ⟨i,mem_rdrs.mp a,rfl⟩
 ·rintro(⟨b,rfl⟩|⟨i,a,rfl⟩)
  ·left;simp_all
  ·right;exact AAL.mpr ⟨i,mem_rdrs.mpr a,rfl⟩
theorem Gs(c:Cs):c∈rch c:=AAa _ (AAL.mpr ⟨_,Hc _ _,rfl⟩)
theorem Lr(h:x∈rch c)(f:y∈nxt x):y∈rch c:=by
 unfold rch at h ⊢;rcases AAJ.mp h with h|h
 ·obtain⟨b,a,rfl⟩:=AAL.mp h;rcases mem_nxt.mp f with ⟨d,rfl⟩|⟨i,e,rfl⟩
  ·refine AAZ _ ?_;rw[if_pos d];exact AAL.mpr ⟨b,List.mem_flatMap.mpr ⟨b,a,Hc _ _⟩,rfl⟩
  ·exact AAa _ (AAL.mpr ⟨_,Fk a e,rfl⟩)
 ·split at h
  ·rename_i d;obtain⟨b,a,rfl⟩:=AAL.mp h;obtain⟨g,j,k⟩:=List.mem_flatMap.mp a;rcases mem_nxt.mp f with ⟨l,rfl⟩|⟨i,e,rfl⟩
   ·exact absurd l (show ¬0<=-2 by decide)
   ·refine AAZ _ ?_;rw[if_pos d];exact AAL.mpr ⟨_,List.mem_flatMap.mpr ⟨g,j,Fk k e⟩,rfl⟩
  ·cases h
inductive Rch:Cs->Cs->Prop
 |refl (c:Cs):Rch c c
 |step {a b c:Cs}:Rch a b->c∈nxt b->Rch a c
theorem Rch.trans(h:Rch a b)(g:Rch b c):Rch a c:=by
 induction g with
 |refl=>exact h
 |step _ s d=>exact .step d s
theorem Gu:∀{ts e:List Int} (b:List Int),e∈Fm v ts->Rch (v,c,b++ts) (v,c,b++e)
 |[],e,b,h=>by simp[Fm] at h;subst h;exact .refl _
 |t::r,e,b,h=>by
  unfold Fm at h;have f:∀a {x:List Int},x∈Fm v r->_:=λa x d=>by
   have:=Gu (c:=c) (b++[a]) d;simpa using this
  split at h
  ·rename_i g;subst g;rcases AAJ.mp h with h|h
   ·obtain⟨x,d,rfl⟩:=AAL.mp h;exact f _ d
   ·obtain⟨x,d,rfl⟩:=AAL.mp h;refine Rch.trans (.step (.refl _) (mem_nxt.mpr (.inr ⟨b.length,by simp,rfl⟩))) ?_;have:mvR (v,c,b++-2::r) b.length=(v,c,b++v::r):=by simp[mvR]
    rw[this];exact f v d
  ·obtain⟨x,d,rfl⟩:=AAL.mp h;exact f _ d
theorem rch_iff:x∈rch c↔Rch c x:=by
 constructor
 ·intro h;rcases AAJ.mp h with h|h
  ·obtain⟨b,a,rfl⟩:=AAL.mp h;exact Gu [] a
  ·split at h
   ·rename_i d;obtain⟨b,a,rfl⟩:=AAL.mp h;obtain⟨i,e,f⟩:=List.mem_flatMap.mp a;exact(Rch.step (Gu [] e) (mem_nxt.mpr (.inl ⟨d,rfl⟩))).trans (Gu [] f)
   ·cases h
 ·intro h
  induction h with
  |refl=>exact Gs _
  |step _ s g=>exact Lr g s
noncomputable def clo(cs:List Cs):List Cs:=cs.flatMap rch
theorem mem_clo:x∈clo cs↔∃c∈cs,x∈rch c:=List.mem_flatMap
noncomputable def vis(s:List Cs×List Cs)(c:Cs):List Cs×List Cs:=if c∈s.1 then s else (s.1++[c],s.2++[c])
noncomputable def hop(s:List Cs×List Cs)(c:Cs):List Cs×List Cs:=(nxt c).foldl vis (s.1,s.2.dropLast)
structure Wk(cs:List Cs)(ways wait:List Cs):Prop where
 nd:ways.Nodup
 sub:∀x∈wait,x∈ways
 don:∀x∈ways,x∈wait∨∀y∈nxt x,y∈ways
 frm:∀x∈ways,x∈clo cs
 all:∀x∈cs,x∈ways
theorem Wk.done(w:Wk cs a []):x∈a↔x∈clo cs:=by
 refine⟨w.frm x,λh=>?_⟩;obtain⟨c,b,d⟩:=mem_clo.mp h;have:=rch_iff.mp d
 induction this with
 |refl=>exact w.all _ b
 |step g s e=>
  rcases w.don _ (e (mem_clo.mpr ⟨c,b,rch_iff.mpr g⟩) (rch_iff.mpr g)) with z|z
  ·cases z
  ·exact z _ s
structure Wm(cs:List Cs)(c:Cs)(ys:List Cs)(s:List Cs×List Cs):Prop where
 nd:s.1.Nodup
 sub:∀x∈s.2,x∈s.1
 don:∀x∈s.1,x∈s.2∨x=c∨∀y∈nxt x,y∈s.1
 ths:∀y∈nxt c,y∈ys∨y∈s.1
 frm:∀x∈s.1,x∈clo cs
 all:∀x∈cs,x∈s.1
 me:c∈s.1
theorem Wm.vis(w:Wm cs c (y::ys) s)(i:y∈nxt c):Wm cs c ys (vis s y):=by
 unfold Wb.vis;split
 ·rename_i h;exact⟨w.nd,w.sub,w.don,λz g=>(w.ths z g).elim (λq=>(AAI.mp q).elim (λe=>.inr (e ▸ h)) .inl) .inr,w.frm,w.all,w.me⟩
 ·rename_i h;refine⟨?_,?_,?_,?_,?_,λx f=>AAa _ (w.all x f),AAa _ w.me⟩
  ·refine List.nodup_append.mpr ⟨w.nd,by simp,λa n b j e=>h (by simp at j;simp_all)⟩
  ·intro x f;rcases AAJ.mp f with z|z
   ·exact AAa _ (w.sub x z)
   ·exact AAZ _ z
  ·intro x f;rcases AAJ.mp f with z|z
   ·rcases w.don x z with q|q|q
    ·exact .inl (AAa _ q)
    ·exact .inr (.inl q)
    ·exact .inr (.inr λu k=>AAa _ (q u k))
   ·exact .inl (AAZ _ z)
  ·intro z g;rcases w.ths z g with q|q
   ·rcases AAI.mp q with e|q
    ·exact .inr (AAZ _ (by rw[e];simp))
    ·exact .inl q
   ·exact .inr (AAa _ q)
  ·intro x f;rcases AAJ.mp f with z|z
   ·exact w.frm x z
   ·rw[AAK] at z;subst z;obtain⟨d,l,m⟩:=mem_clo.mp (w.frm c w.me);exact mem_clo.mpr ⟨d,l,Lr m i⟩
theorem Wm.fold:∀{ys:List Cs} {s:List Cs×List Cs},Wm cs c ys s->(∀y∈ys,y∈nxt c)->Wm cs c [] (ys.foldl Wb.vis s)
 |[],_,w,_=>w
 |y::ys,s,w,h=>Wm.fold (ys:=ys) (w.vis (h y AAP)) λz a=>h z (AAQ _ a)
theorem Wk.hop(w:Wk cs a (wait++[c])):Wk cs (hop (a,wait++[c]) c).1 (hop (a,wait++[c]) c).2:=by
 have m:Wm cs c (nxt c) (a,(wait++[c]).dropLast):=by
  rw[List.dropLast_concat];refine⟨w.nd,λx b=>w.sub x (AAa _ b),λx b=>?_,λy=>.inl,w.frm,w.all,w.sub c (by simp)⟩;rcases w.don x b with q|q
  ·rcases AAJ.mp q with q|q
   ·exact .inl q
   ·exact .inr (.inl (by simpa using q))
  ·exact .inr (.inr q)
 have f:=m.fold λ_ h=>h;refine⟨f.nd,f.sub,λx b=>?_,f.frm,f.all⟩;rcases f.don x b with q|q|q
 ·exact .inl q
 ·subst q;exact .inr λy d=>(f.ths y d).elim (λz=>by cases z) id
 ·exact .inr q
theorem PQ(s:List Cs×List Cs)(c:Cs):(vis s c).1.length+s.2.length=s.1.length+(vis s c).2.length:=by
 unfold vis
 grind
theorem NT:∀(ys:List Cs) (s:List Cs×List Cs),(ys.foldl vis s).1.length+s.2.length=s.1.length+(ys.foldl vis s).2.length
 |[],s=>rfl
 |y::ys,s=>by
  have a:=PQ s y;have b:=NT ys (vis s y)
  grind
theorem CB[DecidableEq α]:∀{xs ys:List α},xs.Nodup->(∀x∈xs,x∈ys)->xs.length<=ys.length
 |[],_,_,_=>AAi _
 |x::xs,ys,b,h=>by
  obtain⟨c,d⟩:=List.nodup_cons.mp b;have f:=h x AAP;have:=CB (ys:=ys.erase x) d λy a=>(List.mem_erase_of_ne (λe=>c (by rw[←e];exact a))).mpr (h y (AAQ _ a))
  grind
end Wb
namespace K16
open PySem L2 Mi Nk Wb
open K13 (A7 BP Ax Ae po pc pd pq pa piT piF pr peT peF HV BZ BF C7 BJ B9 AU BB Ez Bl BD Ba)
section
variable{Z w5:Mh}{x3:Sl}{d:D}{ds:List D}{n:Nat}
theorem QK:Ad=K13.Ad:=rfl
theorem eq_acts:Ai=K13.Ai:=rfl
theorem eq_begun:Ao=K13.Ao:=rfl
noncomputable def Cw(p:Nat×Cs):D:=.tup [.int p.1,csD p.2]
theorem ER(k:Nat)(c:Cs):Cl k (csD c):=⟨BP _ _,BP _ _,A7 (BP k) _,by trivial⟩
theorem QX(k:Nat)(p:Nat×Cs):Cl k (Cw p):=⟨BP _ _,ER _ _,by trivial⟩
theorem J7(e:b (Bc n ds) Z=some ((.rt d,x3),Z++g))(f:ds.length=i)(j:∀o∈g,∀k,ClO k o)(c:Cl (Z++g).length d):Az .all n i b ds Z=some (d,Z++g):=
 J6 e f (.inr ⟨d,rfl⟩) ⟨⟨[],by show Z++g=Z++g++[];simp⟩,by show Z.length<=(Z++g).length;simp,λn o h=>by
  by_cases l:n<Z.length
  ·left;have a:(Z++g)[n]?=some o:=h;rw[AAS l] at a;exact a
  ·right;have a:(Z++g)[n]?=some o:=h;rw[AAR (by lia)] at a;exact j o (AAU a) _,.inl ⟨rfl,c⟩⟩
theorem bN:TD (.int i) (.int j) Z=some (.bl (decide (j<=i)),Z):=rfl
theorem g1a:(Z++[a])[Z.length]?=some a:=by rw[AAR (AAE _)];simp
theorem s1a:(Z++[a]).set Z.length b=Z++[b]:=by simp
theorem br(h:S[k]?=some (some (.ref Z.length)))(b:ds.length<=1000)(a:me S (Z++[.lst ds])=some (x,Z++[.lst ds])):Bt (BG DM (AA k) (AD me AK)) S (Z++[.lst ds])=some ((.next,S),Z++[.lst (ds++[x])]):=by
 have c:=BF;refine DI (d:=.non) (Da (x:=.ref Z.length) (ds:=[x]) (BT h) (BJ g1a) (pc a rfl) ?_);rw[B9 g1a (by lia),s1a]
noncomputable abbrev cZ:Sl->M (Fl×Sl):=(sIf (AN (mOp Af (AA 3) (mC Co))) (Bt (BG DM (AA 1) (AD (AE BE (AD (mOp Av (AA 2) (mC (.int 1))) (AD (AE BE (AD (mOp AJ (AA 0) (mC (.int 0))) (AD (mOp AJ (AA 0) (mC (.int 1))) (AD (AE Ad (AD (mOp AJ (AA 0) (mC (.int 2))) (AD (AA 2) (AD (mOp AJ (AA 0) (mC (.int 0))) AK)))) AK)))) AK))) AK))) A6)
theorem OU(l:c.2.2.length<=100):∀(b:List Int) (k:Nat) (a:List D) (o2 o3:Option D),k+b.length=c.2.2.length->a.length+b.length<=1000->∃f g:Option D,
  B5 (Cq [2,3]) cZ (Ct k (b.map D.int)) [some (csD c),some (.ref Z.length),o2,o3] (Z++[.lst a])=some ((.next,[some (csD c),some (.ref Z.length),f,g]),Z++[.lst (a++(rdF k b).map λi=>Cw (i+1,mvR c i))])
 |[],k,a,o2,o3,_,_=>⟨o2,o3,by simp[rdF,Ct];rfl⟩
 |t::r,k,a,o2,o3,o,p=>by
  have s:=BF;have m:AN (mOp Af (AA 3) (mC Co)) [some (csD c),some (.ref Z.length),some (.int k),some (.int t)] (Z++[.lst a])=some (t==-2,Z++[.lst a]):=AX (po (x:=.int t) (y:=.int (-2)) rfl rfl C7);simp only[AAH] at o p;by_cases e:t=-2
  ·obtain⟨f,g,h⟩:=OU l r (k+1) (a++[Cw (k+1,mvR c k)]) (some (.int k)) (some (.int t)) (by lia) (by simp;lia);refine⟨f,g,?_⟩;have j:rdF k (t::r)=k::rdF (k+1) r:=by rw[rdF,if_pos e]
   rw[j];have q:a++List.map (λi=>Cw (i+1,mvR c i)) (k::rdF (k+1) r)=a++[Cw (k+1,mvR c k)]++(rdF (k+1) r).map λi=>Cw (i+1,mvR c i):=by simp
   rw[q];refine AU (w5:=Z++[.lst a]) rfl (Dk (by rw[m,e];rfl) (br (Z:=Z) rfl (by lia) ?_)) h;refine pd (pc (po (x:=.int k) (y:=.int 1) rfl rfl rfl) (pc (x:=csD (mvR c k)) (pd (ds:=[.int c.1,.int c.2.1,.tup ((c.2.2.set k c.1).map D.int)]) (pc (x:=.int c.1) rfl (pc (x:=.int c.2.1) rfl (pc (pd rfl ?_) rfl))) (Ax (by simp;lia))) rfl)) (by
     have:=Ax (Z:=Z++[.lst a]) (ds:=[.int ((k:Int)+1),csD (mvR c k)]) (by simp;lia);rw[this];unfold Cw;simp)
   rw[QK,HV (by rw[AAF];lia) (by rw[AAF];lia) (λk=>A7 (BP k) _) (λk=>BP k _),List.map_set]
  ·obtain⟨f,g,h⟩:=OU l r (k+1) a (some (.int k)) (some (.int t)) (by lia) (by lia);refine⟨f,g,?_⟩;have j:rdF k (t::r)=rdF (k+1) r:=by rw[rdF,if_neg e]
   rw[j];exact AU (w5:=Z++[.lst a]) (x:=.tup [.int k,.int t]) rfl (EW (by rw[m,AAd.mpr e]) rfl) h
theorem HW(j:c.2.2.length<=100):A3 [csD c] Z=some (.ref Z.length,Z++[.lst ((Dw c).map Cw)]):=by
 have r:=BF;have l:∀S (M:Mh),S[0]?=some (some (csD c))->mOp AJ (AA 0) (mC (.int 1)) S M=some (.int c.2.1,M):=λS M h=>po (x:=csD c) (y:=.int 1) (BT h) rfl rfl;have b:sIf (AN (mOp TD (mOp AJ (AA 0) (mC (.int 1))) (mC (.int 0)))) (Bt (BG DM (AA 1) (AD (AE BE (AD (mC (.int 0)) (AD (AE BE (AD (mOp AJ (AA 0) (mC (.int 1))) (AD (mC Eo) (AD (mOp AJ (AA 0) (mC (.int 2))) AK)))) AK))) AK))) A6 [some (csD c),some (.ref Z.length),none,none] (Z++[.lst []])=some ((.next,[some (csD c),some (.ref Z.length),none,none]),Z++[.lst ((if 0<=c.2.1 then [(0,(c.2.1,-2,c.2.2))] else []).map Cw)]):=by
  have t:AN (mOp TD (mOp AJ (AA 0) (mC (.int 1))) (mC (.int 0))) [some (csD c),some (.ref Z.length),none,none] (Z++[.lst []])=some (decide (0<=c.2.1),Z++[.lst []]):=AX (po (y:=.int 0) (l _ _ rfl) rfl bN);by_cases a:0<=c.2.1
  ·rw[if_pos a];refine Dk (by rw[t,AAO a]) (br (Z:=Z) (ds:=[]) rfl (by simp) ?_);refine pd (pc (x:=.int 0) rfl (pc (pd rfl (Ax (by simp;lia))) rfl)) (Ax (by simp;lia))
  ·rw[if_neg a];exact EW (w5:=Z++[.lst []]) (by rw[t,AAN a]) rfl
 have e:((if 0<=c.2.1 then [(0,(c.2.1,(-2:Int),c.2.2))] else []).map Cw).length<=1:=by split<;>simp
 obtain⟨m,p,f⟩:=OU (Z:=Z) j c.2.2 0 ((if 0<=c.2.1 then [(0,(c.2.1,-2,c.2.2))] else []).map Cw) none none (by lia) (by lia);have q:(if 0<=c.2.1 then [(0,(c.2.1,(-2:Int),c.2.2))] else []).map Cw++(rdF 0 c.2.2).map (λi=>Cw (i+1,mvR c i))=(Dw c).map Cw:=by
  unfold Dw S7;rw[AAX,List.map_map];rfl
 rw[q] at f;refine J7 (x3:=[some (csD c),some (.ref Z.length),m,p]) ?_ rfl (λo g k=>by rw[AAK] at g;subst g;exact A7 (QX k) _) (by unfold Cl;simp);refine AT ?_ (AT b (AT (Dl (w5:=_) rfl f) (C6 (BT rfl))));refine CW (Bi (ds:=[]) (w5:=Z) rfl ?_) rfl;unfold Dv;rw[AM (by unfold lim;rw[if_pos (by simp)])]
end
section
variable{Z w5 x6 g:Mh}{B:Sl}{d:D}{ds:List D}{n:Nat}
theorem gA:(Z++(a::b::g))[Z.length]?=some a:=by rw[AAR (AAE _)];simp
theorem gB:(Z++(a::b::g))[Z.length+1]?=some b:=by simp
theorem sA:(Z++(a::b::g)).set Z.length c=Z++(c::b::g):=by simp
theorem sB:(Z++(a::b::g)).set (Z.length+1) c=Z++(a::c::g):=by simp
theorem asCs_csD(c:Cs):Kd (csD c)=some c:=by
 obtain⟨a,b,i⟩:=c;have h:∀e ,DU (e.map D.int)=some e:=λe=>by
  induction e with
  |nil=>rfl
  |cons x r f=>show (DU _).map _=_;rw[f];rfl
 show (DU _).map _=_;rw[h];rfl
theorem Ds(h:Z[n]?=some (.dC L)):GJ (.ref n) Z=some ((n,L),Z):=by unfold GJ;dsimp;rw[h]
theorem MR{L:List (Cs×D)}:(L.any λz=>decide (z.1=c))=decide (c∈L.map (·.1)):=by grind
theorem ZN{L:List (Cs×D)}(h:Z[n]?=some (.dC L)):Rf true (csD c) (.ref n) Z=some (.bl (!decide (c∈L.map (·.1))),Z):=by
 unfold Rf;rw[AM (Ds h)];rw[asCs_csD,←MR];rfl
theorem FI{mo mi mv:Sl->M D}{v:D}(a:mv B Z=some (v,Z))(b:mo B Z=some (.ref n,Z))(e:mi B Z=some (csD c,Z))(h:Z[n]?=some (.dC L))(f:L.length<sizeLine)(hn:c∉L.map (·.1)):Ed mo mi mv B Z=some ((.next,B),Z.set n (.dC (L++[(c,v)]))):=by
 unfold Ed;rw[AM a,AM b,AM e,AM (Ds h)];rw[asCs_csD];show (if L.length<sizeLine/\(_)=false then some _ else none)=_;rw[if_pos ⟨f,by rw[MR,AAN hn]⟩]
def Ways(cs:List Cs)(W:List (Cs×D)):Prop:=∀(i:Nat) (y:Cs×D),W[i]?=some y->(y.2=.non/\y.1∈cs)∨∃(h:Nat) (p:Cs) (j:Nat),y.2=.tup [.int h,csD p]/\(h,y.1)∈Dw p/\j<i/\(W.map (·.1))[j]?=some p
theorem Ways.more(w:Ways cs W)(f:(h,x)∈Dw c)(k:c∈W.map (·.1)):Ways cs (W++[(x,.tup [.int h,csD c])]):=λi y e=>by
 have a:∀{j:Nat} {p:Cs},(W.map (·.1))[j]?=some p->((W++[(x,D.tup [.int h,csD c])]).map (·.1))[j]?=some p:=λ{j p} z=>by
  rw[AAX,AAS (AAT.mp z).1];exact z
 by_cases l:i<W.length
 ·rw[AAS l] at e;rcases w i y e with z|⟨m,p,j,o,q,r,s⟩
  ·exact .inl z
  ·exact .inr ⟨m,p,j,o,q,r,a s⟩
 ·have t:i=W.length:=by
   have:=(AAT.mp e).1;rw[AAG,List.length_singleton] at this;lia
  subst t;rw[AAR (AAE _),AAt] at e;cases e;obtain⟨j,b⟩:=List.mem_iff_getElem?.mp k;have:=(AAT.mp b).1;rw[AAF] at this;exact .inr ⟨h,c,j,rfl,f,this,a b⟩
theorem Ways.cl(w:Ways cs W)(k:Nat):ClL k (W.map (·.2)):=by
 have a:∀ds ,(∀d∈ds,Cl k d)->ClL k ds:=λds=>by
  induction ds with
  |nil=>intro _;trivial
  |cons d ds b=>intro h;exact⟨h d AAP,b λz c=>h z (AAQ _ c)⟩
 refine a _ λd e=>?_;obtain⟨y,f,rfl⟩:=AAL.mp e;obtain⟨i,j⟩:=List.mem_iff_getElem?.mp f;rcases w i y j with ⟨z,_⟩|⟨h,p,_,z,_⟩
 ·rw[z];trivial
 ·rw[z];exact⟨BP _ _,ER _ _,by unfold ClL;trivial⟩
noncomputable abbrev wH(Z:Mh)(W:List (Cs×D))(wait:List Cs)(g:Mh):Mh:=Z++(.dC W::.lst (wait.map csD)::g)
noncomputable abbrev YO:Sl->M (Fl×Sl):=(sIf (AN (mOp (Rf true) (AA 5) (AA 1))) (AS (Ed (AA 1) (AA 5) (AE BE (AD (AA 4) (AD (AA 2) AK))))
  (Bt (BG DM (AA 3) (AD (AA 5) AK)))) A6)
theorem SG(j:W.length<=3000)(k:wait.length<=3000)(i:(h,x)∈Dw c)(a:c∈W.map (·.1))(f:Ways cs W):∃b,(b.map (·.1))=(vis (W.map (·.1),wait) x).1/\Ways cs b /\
  YO [o0,some (.ref Z.length),some (csD c),some (.ref (Z.length+1)),some (.int h),some (csD x)] (wH Z W wait g)=some ((.next,[o0,some (.ref Z.length),some (csD c),some (.ref (Z.length+1)),some (.int h),some (csD x)]),wH Z b (vis (W.map (·.1),wait) x).2 g):=by
 have l:=BF;have t:AN (mOp (Rf true) (AA 5) (AA 1)) [o0,some (.ref Z.length),some (csD c),some (.ref (Z.length+1)),some (.int h),some (csD x)] (wH Z W wait g)=some (!decide (x∈W.map (·.1)),wH Z W wait g):=AX (po rfl rfl (ZN gA));by_cases e:x∈W.map (·.1)
 ·refine⟨W,by unfold vis;rw[if_pos e],f,?_⟩;unfold vis;rw[if_pos e];exact EW (by rw[t,AAO e];rfl) rfl
 ·refine⟨W++[(x,.tup [.int h,csD c])],by unfold vis;rw[if_neg e,AAX];rfl,f.more i a,?_⟩
  ·unfold vis;rw[if_neg e];refine Dk (by rw[t,AAN e];rfl) (AT ?_ (DI (d:=.non) (Da (x6:=wH Z (W++[(x,.tup [.int h,csD c])]) wait g) rfl (BJ gB) rfl ?_)))
   ·have:=FI (B:=[o0,some (.ref Z.length),some (csD c),some (.ref (Z.length+1)),some (.int h),some (csD x)]) (Z:=wH Z W wait g) (mo:=AA 1) (mi:=AA 5) (mv:=AE BE (AD (AA 4) (AD (AA 2) AK))) (L:=W) (pd rfl (Ax (by simp;lia))) rfl rfl gA (by lia) e;rw[sA] at this;exact this
   ·rw[B9 gB (by rw[AAF];lia),sB];show some _=some (D.non,Z++(MO.dC (W++[(x,D.tup [D.int h,csD c])])::MO.lst ((wait++[x]).map csD)::g));rw[AAX];rfl
theorem gL:(wH Z W wait (g++[o]))[Z.length+2+g.length]?=some o:=by
 rw[AAR (by lia)];have:Z.length+2+g.length-Z.length=g.length+1+1:=by lia
 rw[this];simp
theorem SH{o0:Option D}{cs U:List Cs}(s:∀x∈clo cs,x∈U)(z:U.length<3000):∀(b a:List (Nat×Cs)) (k:Nat) (W:List (Cs×D)) (wait:List Cs) (o4 o5:Option D),b.length<k->Wm cs c (b.map (·.2)) (W.map (·.1),wait)->(∀p∈b,p∈Dw c)->wait.length<=W.length->Ways cs W->
  ∃(h:List (Cs×D)) (e f:Option D),h.map (·.1)=((b.map (·.2)).foldl vis (W.map (·.1),wait)).1/\Ways cs h /\
   Hk (Z.length+2+g.length) (Cq [4,5]) YO k a.length [o0,some (.ref Z.length),some (csD c),some (.ref (Z.length+1)),o4,o5] (wH Z W wait (g++[.lst ((a++b).map Cw)]))=some ((.next,[o0,some (.ref Z.length),some (csD c),some (.ref (Z.length+1)),e,f]),wH Z h ((b.map (·.2)).foldl vis (W.map (·.1),wait)).2 (g++[.lst ((a++b).map Cw)]))
 |[],a,k+1,W,wait,o4,o5,i,w,j,A,l=>⟨W,o4,o5,rfl,l,K11.RU gL (by simp)⟩
 |p::b,a,k+1,W,wait,o4,o5,i,w,j,A,l=>by
  have t:W.length<=2999:=by
   have:=CB w.nd λx C=>s x (w.frm x C);simp at this;lia
  obtain⟨u,m,E,F⟩:=SG (wait:=wait) (by lia) (by lia) (j p AAP) w.me l;have G:=w.vis (AAL.mpr ⟨p,j p AAP,rfl⟩);have o:(vis (W.map (·.1),wait) p.2).2.length<=u.length:=by
   have:=PQ (W.map (·.1),wait) p.2;have H:=congrArg List.length m;simp at this H;lia
  obtain⟨h,e,f,v,I,r⟩:=SH s z b (a++[p]) k u (vis (W.map (·.1),wait) p.2).2 (some (.int p.1)) (some (csD p.2)) (by simp at i;lia) (by rw[m];exact G) (λq J=>j q (AAQ _ J)) o E;rw[m] at v r;refine⟨h,e,f,v,I,?_⟩;have K:a++[p]++b=a++p::b:=by simp
  rw[K] at r;refine K11.RQ (y:=Cw p) gL (by simp) rfl F ?_;simpa using r
 |_,_,0,_,_,_,_,i,_,_,_,_=>absurd i (by lia)
noncomputable abbrev whB:Sl->M (Fl×Sl):=(AS (AY (FC WH (AA 3)) (AO 2))
  (Pd 1000 (AE A3 (AD (AA 2) AK)) (Cq [4,5]) YO))
theorem Tu(c:Cs):(Dw c).length<=c.2.2.length+1:=by
 unfold Dw S7;have:=Pl c.2.2 0;split<;>simp<;>lia
theorem Mn(h:S[3]?=some (some (.ref (Z.length+1)))):Jc (AA 3) S (wH Z W wait g)=some (!wait.isEmpty,wH Z W wait g):=by
 unfold Jc;rw[AM (BT h),AM (by
  show (match (wH Z W wait g)[Z.length+1]? with|some (.lst ds)=>_|_=>none)=_;rw[gB])]
 cases wait<;>rfl
theorem Ma{o0:Option D}{cs U:List Cs}(r:∀x∈clo cs,x∈U)(E:U.length<3000)(F:∀x∈clo cs,x.2.2.length<=100):∀(k:Nat) (W:List (Cs×D)) (wait:List Cs) (g:Mh) (o2 o4 o5:Option D),U.length+wait.length<k+W.length->Wk cs (W.map (·.1)) wait->wait.length<=W.length->Ways cs W->(∀o∈g,∀k,ClO k o)->
  ∃(f:List (Cs×D)) (l:Mh) (a b e:Option D),Wk cs (f.map (·.1)) []/\Ways cs f/\(∀o∈l,∀k,ClO k o) /\
   IQ (Jc (AA 3)) whB k [o0,some (.ref Z.length),o2,some (.ref (Z.length+1)),o4,o5] (wH Z W wait g)=some ((.next,[o0,some (.ref Z.length),a,some (.ref (Z.length+1)),b,e]),wH Z f [] l)
 |0,W,wait,g,o2,o4,o5,G,w,_,_,_=>by
  have:=CB w.nd λx h=>r x (w.frm x h);simp at this;lia
 |k+1,W,wait,g,o2,o4,o5,G,w,N,H,I=>by
  rcases List.eq_nil_or_concat wait with rfl|⟨q,c,rfl⟩
  ·exact⟨W,g,o2,o4,o5,w,H,I,K13.Ov (Mn rfl)⟩
  ·rw[List.concat_eq_append] at *;have s:c∈clo cs:=w.frm c (w.sub c (by simp));have t:=F c s;have m:Wm cs c ((Dw c).map (·.2)) (W.map (·.1),q):=⟨w.nd,λx h=>w.sub x (AAa _ h),λx h=>by
    rcases w.don x h with z|z
    ·rcases AAJ.mp z with z|z
     ·exact .inl z
     ·exact .inr (.inl (by simpa using z))
    ·exact .inr (.inr z),λy O=>.inl O,w.frm,w.all,w.sub c (by simp)⟩
   have hm:=Tu c;simp at N G;obtain⟨P,b,e,J,Q,K⟩:=SH (g:=g) r E (Dw c) [] 1000 W q o4 o5 (by lia) m (λp R=>R) (by lia) H;rw[List.nil_append] at K;have u:=w.hop;have S:(hop (W.map (·.1),q++[c]) c)=((Dw c).map (·.2)).foldl vis (W.map (·.1),q):=by
    unfold hop nxt;rw[List.dropLast_concat]
   rw[S] at u;have v:=NT ((Dw c).map (·.2)) (W.map (·.1),q);have A:=congrArg List.length J;simp only[AAF] at v A;rw[←J] at u;have C:∀o∈g++[.lst ((Dw c).map Cw)],∀k,ClO k o:=λo T k=>by
    rcases AAJ.mp T with z|z
    ·exact I o z k
    ·rw[AAK] at z;subst z;exact A7 (QX k) _
   obtain⟨f,l,a,i,j,X,Y,r3,r4⟩:=Ma r E F k P _ (g++[.lst ((Dw c).map Cw)]) (some (csD c)) b e (by lia) u (by lia) Q C;refine⟨f,l,a,i,j,X,Y,r3,K13.Ou ((Mn rfl).trans (by simp)) ?_ r4⟩;refine AT (CW (d:=csD c) (w5:=wH Z W q g) ?_ rfl) ?_
   ·unfold FC;rw[AM (rfl),AM (BJ gB)];show FY (Z.length+1) _ (wH Z W (q++[c]) g)=_;unfold FY;rw[gB];show Option.map _ (((q++[c]).map csD)[((q++[c]).map csD).length-1]?.map λd=>(d,((q++[c]).map csD).dropLast))=_;have e0:((q++[c]).map csD)[((q++[c]).map csD).length-1]?=some (csD c):=by simp
    have e2:((q++[c]).map csD).dropLast=q.map csD:=by simp
    rw[e0,e2];show some (csD c,(wH Z W (q++[c]) g).set (Z.length+1) (.lst (q.map csD)))=_;rw[sB]
   ·unfold Pd;have L:=HW (Z:=wH Z W q g) t;have A:(wH Z W q g).length=Z.length+2+g.length:=by
     show (Z++(MO.dC W::MO.lst (q.map csD)::g)).length=_;rw[AAG];simp;lia
    have ew:wH Z W q g++[.lst ((Dw c).map Cw)]=wH Z W q (g++[.lst ((Dw c).map Cw)]):=by
     simp
    rw[A,ew] at L;rw[AM (Bi rfl L)];exact K
end
section
variable{Z g:Mh}{B x3:Sl}{n:Nat}
noncomputable def Eh(cs:List Cs):List (Cs×D):=cs.map λc=>(c,D.non)
theorem ND(cs:List Cs):(Eh cs).map (·.1)=cs:=by unfold Eh;rw[List.map_map];exact List.map_id cs
theorem Q4(cs:List Cs):Ways cs (Eh cs):=λi y e=>by
 obtain⟨c,a,rfl⟩:=AAL.mp (AAU e);exact .inl ⟨rfl,a⟩
theorem QI:∀(cs a:List Cs) (o2:Option D),(a++cs).Nodup->(a++cs).length<=3000->∃b:Option D,
  B5 (AO 2) (Ed (AA 1) (AA 2) (mC .non)) (cs.map csD) [o0,some (.ref Z.length),o2,o3,o4,o5] (Z++[.dC (Eh a)])=some ((.next,[o0,some (.ref Z.length),b,o3,o4,o5]),Z++[.dC (Eh (a++cs))])
 |[],a,o2,_,_=>⟨o2,by simp;rfl⟩
 |c::cs,a,o2,f,i=>by
  have l:=BF;obtain⟨b,j⟩:=QI (o0:=o0) (o3:=o3) (o4:=o4) (o5:=o5) cs (a++[c]) (some (csD c)) (by simpa using f) (by simpa using i);refine⟨b,?_⟩;have k:c∉(Eh a).map (·.1):=by
   rw[ND];intro h;have:=(List.nodup_append.mp f).2.2 c h c (by simp);exact this rfl
  have d:(Eh a).length<sizeLine:=by unfold Eh;rw[AAF];simp at i;lia
  refine AU rfl ?_ (by simpa using j);have:=FI (B:=[o0,some (.ref Z.length),some (csD c),o3,o4,o5]) (n:=Z.length) (mo:=AA 1) (mi:=AA 2) (mv:=mC .non) (v:=.non) (c:=c) (L:=Eh a) rfl rfl rfl g1a d k;rw[s1a] at this;have e:Eh a++[(c,D.non)]=Eh (a++[c]):=by unfold Eh;simp
  rw[e] at this;exact this
theorem F0{cs U:List Cs}(b:cs.Nodup)(j:∀x∈clo cs,x∈U)(q:U.length<3000)(r:∀x∈clo cs,x.2.2.length<=100):∃(W:List (Cs×D)) (g:Mh),Wk cs (W.map (·.1)) []/\Ways cs W/\(∀o∈g,∀k,ClO k o)/\Bb [.lst (cs.map csD)] Z=some (.ref Z.length,wH Z W [] g):=by
 have A:=BF;have l  := by
  have:=CB b λx s=>j x (mem_clo.mpr ⟨x,s,Gs x⟩);omega
 obtain⟨t,u⟩:=QI cs [] none (by simpa using b) (by simp;omega);have v:Wk cs ((Eh cs).map (·.1)) cs:=by
  rw[ND];exact⟨b,λx h=>h,λx=>.inl,λx h=>mem_clo.mpr ⟨x,h,Gs x⟩,λx h=>h⟩
 have c:(Eh cs).length=cs.length:=by unfold Eh;simp
 obtain⟨W,g,d,f,i,w,m,p,z⟩:=Ma j q r GG (Eh cs) cs [] t none none (by rw[c];unfold GG;omega) v (by omega) (Q4 cs) (λo h=>by cases h);refine⟨W,g,w,m,p,J7 (g:=.dC W::.lst []::g) (x3:=[some (.lst (cs.map csD)),some (.ref Z.length),d,some (.ref (Z.length+1)),f,i]) ?_ rfl (λo a k=>?_) (by unfold Cl;simp)⟩
 ·refine AT rfl (AT (Dl (BB rfl) u) (AT (CW (Bi rfl ?_) rfl) (AT z (C6 (BT rfl)))));show bnd (GJ (.ref Z.length)) _ _=_;rw[AM (Ds g1a)];show some (_,Z++[MO.dC (Eh cs)]++[MO.lst ((Eh cs).map λy=>csD y.1)])=_;have e:(Eh cs).map (λy=>csD y.1)=cs.map csD:=by unfold Eh;rw[List.map_map];rfl
  rw[e];simp
 ·rcases AAI.mp a with rfl|a
  ·exact m.cl k
  ·rcases AAI.mp a with rfl|a
   ·show ClL k [];unfold ClL;trivial
   ·exact p o a k
end
end K16
namespace Wb
open PySem Nk
open K13 (Ev)
noncomputable def KB(v:Int)(c:Cs):Cs:=(c.1,v,c.2.2)
noncomputable def GI(r:Nat)(c:Cs):Cs:=(c.1,c.2.1,c.2.2.set r (-2))
noncomputable def HB(c:Cs):Option Cs:=if c.2.1=-2 then some (c.1,-1,c.2.2) else none
noncomputable def FJ(r:Nat)(v:Int)(c:Cs):Option Cs:=if c.2.2[r]?=some v then some (c.1,c.2.1,c.2.2.set r (-1)) else none
noncomputable def pre(S:List Cs):Ev->List Cs
 | .wb v=>S.map (KB v)
 | .we=>S.filterMap HB
 | .rb r=>S.map (GI r)
 | .re r v=>S.filterMap (FJ r v)
noncomputable def Jn(S:List Cs):Ev->Bool
 | .re r v=>(S.filterMap (FJ r v)).isEmpty
 |_=>false
noncomputable def Ga:List Cs->List Ev->Bool
 |_,[]=>true
 |S,e::a=>if Jn S e=true then false else Ga (clo (pre S e)) a
theorem nodup_map_on:∀{xs:List α},(∀a∈xs,∀b∈xs,f a=f b->a=b)->xs.Nodup->(xs.map f).Nodup
 |[],_,_=>List.nodup_nil
 |x::xs,h,d=>by
  obtain⟨g,i⟩:=List.nodup_cons.mp d;refine List.nodup_cons.mpr ⟨λz=>?_,nodup_map_on (λa j b k=>h a (AAQ _ j) b (AAQ _ k)) i⟩;obtain⟨y,c,e⟩:=AAL.mp z;have:=h y (AAQ _ c) x AAP e;exact g (this ▸ c)
theorem nodup_fm_on:∀{xs:List α},(∀a∈xs,∀b∈xs,∀y,f a=some y->f b=some y->a=b)->xs.Nodup->(xs.filterMap f).Nodup
 |[],_,_=>List.nodup_nil
 |x::xs,h,g=>by
  obtain⟨i,j⟩:=List.nodup_cons.mp g;have c:=nodup_fm_on (λa k b l=>h a (AAQ _ k) b (AAQ _ l)) j;rw[List.filterMap_cons];split
  ·exact c
  ·rename_i y e;refine List.nodup_cons.mpr ⟨λz=>?_,c⟩;obtain⟨w,d,m⟩:=List.mem_filterMap.mp z;have:=h w (AAQ _ d) x AAP y m e;exact i (this ▸ d)
theorem Lm{i:Nat}{a b v:Int}:∀{xs ys:List Int},xs[i]?=some a->ys[i]?=some a->xs.set i v=ys.set i v->xs=ys
 |[],_,h,_,_=>by simp at h
 |_::_,[],_,h,_=>by simp at h
 |x::xs,y::ys,c,d,e=>by
  cases i with
  |zero=>
   simp at c d e;rw[c,d,e]
  |succ i=>
   simp at c d e;rw[e.1,Lm (b:=b) c d e.2]
theorem Ly(h:∀x,x∈K↔x∈S)(e:Ev)(x:Cs):x∈pre K e↔x∈pre S e:=by
 cases e<;>simp only[pre,AAL,List.mem_filterMap,h]
theorem Wz(h:∀x,x∈cs↔x∈ds)(x:Cs):x∈clo cs↔x∈clo ds:=by
 rw[mem_clo,mem_clo];constructor
 ·rintro⟨c,a,b⟩;exact⟨c,(h c).mp a,b⟩
 ·rintro⟨c,a,b⟩;exact⟨c,(h c).mpr a,b⟩
end Wb
namespace K16
open PySem L2 Mi Nk Wb
open K13 (A7 BP Ax Ae po pc pd pq pa piT piF pr peT peF HV BZ BF C7 BJ B9 AU BB Ez Bl BD Ba hdD Ej Ft Ev BH GR bS Ev.beg Ev.hand Ev.val)
section
variable{Z g:Mh}{x3:Sl}{sz bg:Int}{ns:List Str}
noncomputable def mkK(kd:Str)(sz bg:Int)(ns:List Str):D:=.tup [.str kd,.int sz,.int bg,.tup [],.tup (ns.map hdD)]
noncomputable abbrev mkW(sz bg:Int)(ns:List Str):D:=mkK "whole" sz bg ns
noncomputable def clW(K:List Cs):D:=.tup (K.map csD)
noncomputable def oC:Option Cs->D
 |some c=>csD c
 |none=>.non
theorem cl_clW(k:Nat)(K:List Cs):Cl k (clW K):=A7 (ER k) K
theorem bQ(h:S[0]?=some (some (mkW sz bg ns))):AN (mOp Af (mOp AJ (AA 0) (mC (.int 0))) (mC (.str "whole"))) S Z=some (true,Z):=
 AX (po (po (BT h) rfl rfl) rfl (by rw[Ej (by decide +kernel) (by decide +kernel)];simp))
theorem v_begunW(h:ns.length<=1000)(a:2<=ns.length):Ao [mkW sz bg ns] Z=some (clW [(bg,-1,List.replicate (ns.length-1) (-1))],Z):=by
 have b:=BF;refine Ac (g:=[]) (x3:=[some (mkW sz bg ns),some (.int (ns.length-1))]) ?_ rfl (cl_clW _ _);rw[AAY];refine pq (pa (po (x:=.int _) (pd rfl ?_) rfl rfl) rfl) (Cn (piT (bQ rfl) (pr (pd (pc (pd (pc rfl (pc rfl (pc (po rfl rfl ?_) rfl))) (Ax (by simp;lia))) rfl) (Ax (by simp;lia))))))
 ·show some _=_;rw[AAF]
 ·show (if [_]≠[]/\[_].length<=1000/\1<=_-1/\_-1<=1000 then some (D.tup (List.replicate _ [D.int _]).flatten,Z) else none)=_;rw[if_pos (by grind),Ft,List.map_replicate,show ((_:Int)-1).toNat=ns.length-1 by lia]
theorem v_cbW:Ar [csD c,.int 0,.int v] Z=some (csD (KB v c),Z):=by
 have a:=BF;refine Ac (g:=[]) (x3:=[some (csD c),some (.int 0),some (.int v)]) ?_ rfl (ER _ _);rw[AAY];rfl
theorem PN{ts:List Int}(h:r<ts.length)(a:ts.length<=1000):Ad [.tup (ts.map D.int),.int r,.int v] Z=some (.tup ((ts.set r v).map D.int),Z):=by
 rw[QK,HV (by rw[AAF];exact h) (by rw[AAF];exact a) (λk=>A7 (BP k) _) λk=>BP k _,List.map_set]
theorem v_cbR{c:Cs}(h:r<c.2.2.length)(a:c.2.2.length<=1000):Ar [csD c,.int ((r:Int)+1),.int v] Z=some (csD (GI r c),Z):=by
 have b:=BF;refine Ac (g:=[]) (x3:=[some (csD c),some (.int (r+1)),some (.int v)]) ?_ rfl (ER _ _);rw[AAY];refine pq (piF (AX ((po rfl rfl C7).trans rfl)) rfl) (pr (pd (pc rfl (pc rfl (pc (pd (pc rfl (pc (po rfl rfl ?_) rfl)) (PN h a)) rfl))) (Ax (by simp;lia))));show some (D.int _,Z)=_;rw[show (r:Int)+1-1=r by lia]
theorem v_ceW:An [csD c,.int 0,.int v] Z=some (oC (HB c),Z):=by
 have a:=BF;refine Ac (g:=[]) (x3:=[some (csD c),some (.int 0),some (.int v)]) ?_ rfl (by cases HB c with|none=>trivial|some c=>exact ER _ _);rw[AAY];have t:AN (mOp Af (mOp AJ (AA 0) (mC (.int 1))) (mC Eo)) [some (csD c),some (.int 0),some (.int v)] Z=some _:=AX (po rfl rfl C7);refine Cn (piT (AX (po rfl rfl C7)) (pr ?_));unfold HB;by_cases e:c.2.1=-2
 ·rw[if_pos e];exact peT (t.trans (by rw[e];rfl)) (pd rfl (Ax (by simp;lia)))
 ·rw[if_neg e];exact peF (t.trans (by rw[AAd.mpr e])) rfl
theorem v_ceR{c:Cs}(h:r<c.2.2.length)(d:c.2.2.length<=1000):An [csD c,.int ((r:Int)+1),.int v] Z=some (oC (FJ r v c),Z):=by
 have f:=BF;refine Ac (g:=[]) (x3:=[some (csD c),some (.int (r+1)),some (.int v)]) ?_ rfl (by cases FJ r v c with|none=>trivial|some c=>exact ER _ _);rw[AAY];have b:mOp EA (AA 1) (mC (.int 1)) [some (csD c),some (.int (r+1)),some (.int v)] Z=some (.int r,Z):=by
  show some (D.int _,Z)=_;rw[show (r:Int)+1-1=r by lia]
 have t:AN (mOp Af (mOp AJ (mOp AJ (AA 0) (mC (.int 2))) _) (AA 2)) _ Z=some (c.2.2[r]==v,Z):=
  AX (po (po rfl b (P5 (BZ (by simp[h])))) rfl C7)
 refine pq (piF (AX ((po rfl rfl C7).trans rfl)) rfl) (pr ?_);unfold FJ;by_cases e:c.2.2[r]?=some v
 ·rw[if_pos e];have a  := by rw[AAr h] at e;exact Option.some.inj e
  refine peT (t.trans (by rw[a];simp)) (pd (pc rfl (pc rfl (pc (pd (pc rfl (pc b rfl)) (PN h d)) rfl))) (Ax (by simp;lia)))
 ·rw[if_neg e];have a:¬c.2.2[r]=v:=λz=>e (by rw[AAr h,z]);exact peF (t.trans (by rw[AAd.mpr a])) rfl
theorem Xv:∀K:List Cs,((K.map λc=>f c).filter λo=>o.isSome).map oC=(K.filterMap f).map csD
 |[]=>rfl
 |c::K=>by
  have a:=Xv (f:=f) K;rw[AAW,List.filterMap_cons];cases e:f c with
  |none=>exact a
  |some y=>rw[List.filter_cons_of_pos (by simp),AAW,a];rfl
theorem v_csEnd(d:K.length<=1000)(a:∀c∈K,∀Z:Mh,An [csD c,.int h,.int v] Z=some (oC (f c),Z)):BA [clW K,.int h,.int v] Z=some (.lst ((K.filterMap f).map csD),Z):=by
 have e:=BF;refine Ac (g:=[]) (x3:=[some (clW K),some (.int h),some (.int v),some (.lst ((K.map f).map oC))]) ?_ rfl (A7 (ER _) _);rw[AAY];refine pq (pa (BD (Ez rfl) (by rw[AAF];lia) ?_ (Ae (by rw[AAF,AAF];lia))) rfl) (pr (BD (BB rfl) (by rw[AAF,AAF];lia) ?_ (Ae (by grind))))
 ·have:=Bl (mc:=DO) (me:=AE An (AD (AA 0) (AD (AA 1) (AD (AA 2) AK)))) (u3:=[none,some _,some _]) (ys:=[]) (λ_ _=>rfl) λc b _=>pd rfl (a c b Z);rw[Ba] at this;rw[List.map_map];exact this
 ·have:=Bl (Z:=Z) (mc:=AN (mOp (CA true) (AA 0) (mC .non))) (me:=AA 0) (u3:=[none]) (F:=oC) (p:=λo=>o.isSome) (xs:=K.map f) (ys:=[]) (λo _=>AX (po rfl rfl (by cases o<;>rfl))) λo _ _=>rfl;rw[Xv] at this;exact this
end
end K16
namespace Mi
open PySem L2
def WP{α:Type}(m:M α)(Z:Mh)(Q:α->Mh->Prop):Prop:=∃a b,m Z=some (a,b)/\Q a b
section
variable{α β:Type}{m:M α}{f:α->M β}{Z Z':Mh}{Q Q':α->Mh->Prop}{R:β->Mh->Prop}{a:α}
theorem BQ(h:m Z=some (a,Z'))(q:Q a Z'):WP m Z Q:=⟨a,Z',h,q⟩
theorem Ak(h:WP m Z Q)(k:∀a Z',Q a Z'->Q' a Z'):WP m Z Q':=by
 obtain⟨a,Z',e,q⟩:=h;exact⟨a,Z',e,k a Z' q⟩
theorem A0(h:WP m Z λa w5=>WP (f a) w5 R):WP (bnd m f) Z R:=by
 obtain⟨a,w5,e,b,c,d,q⟩:=h;exact⟨b,c,by rw[AM e];lia,q⟩
theorem CO(q:Q a Z):WP (ret a) Z Q:=⟨a,Z,rfl,q⟩
end
section
variable{B x5:Sl}{Z w5:Mh}{d x y:D}{ds:List D}{ma mb:Sl->M D}{ra:Sl->M (List D)}{tc tb:Sl->M Bool}{m1 m2:Sl->M (Fl×Sl)}{g:D->D->M D}{QD:D->Mh->Prop}{QB:Bool->Mh->Prop}{QL:List D->Mh->Prop}{QS:Fl×Sl->Mh->Prop}{QO:Option Int->Mh->Prop}{i j:Int}
theorem VJ{i:Nat}(h:B[i]?=some (some d))(q:QD d Z):WP (AA i B) Z QD:=BQ (BT h) q
theorem b8(q:QD d Z):WP (mC d B) Z QD:=⟨d,Z,rfl,q⟩
theorem Z4(h:WP (ma B) Z λx w5=>WP (mb B) w5 λy w6=>WP (g x y) w6 QD):WP (mOp g ma mb B) Z QD:=A0 (Ak h λ_ _=>A0)
theorem Z3(h:WP (ma B) Z λx w5=>WP (u x) w5 QD):WP (mUn u ma B) Z QD:=A0 h
theorem VX(h:WP (ra B) Z λds w5=>WP (f ds) w5 QD):WP (AE f ra B) Z QD:=A0 h
theorem VQ(q:QL [] Z):WP (AK B) Z QL:=⟨[],Z,rfl,q⟩
theorem SC(h:WP (ma B) Z λx w5=>WP (ra B) w5 λds w6=>QL (x::ds) w6):WP (AD ma ra B) Z QL:=A0 (Ak h λ_ _ z=>A0 (Ak z λ_ _=>CO))
theorem X8(z:WP (ma B) Z λx w5=>WP (l B) w5 λa w6=>WP (h B) w6 λb x6=>WP (JV a b x) x6 QD):WP (DT ma l h B) Z QD:=A0 (Ak z λ_ _ z=>A0 (Ak z λ_ _=>A0))
theorem Qk(q:QO none Z):WP (Bv B) Z QO:=⟨none,Z,rfl,q⟩
theorem VP(h:WP (ma B) Z λd w5=>∃i,d=.int i/\QO (some i) w5):WP (CN ma B) Z QO:=A0 (Ak h λ_ _ ⟨i,e,q⟩=>by subst e;exact CO q)
theorem R8(h:WP (mc B) Z λb w5=>(b=true->WP (ma B) w5 QD)/\(b=false->WP (mb B) w5 QD)):WP (mIf mc ma mb B) Z QD:=A0 (Ak h λb _ z=>by cases b;exact z.2 rfl;exact z.1 rfl)
theorem VI(h:WP (ma B) Z λd w5=>∃b,d=.bl b/\QB b w5):WP (AN ma B) Z QB:=A0 (Ak h λ_ _ ⟨b,e,q⟩=>by subst e;exact CO q)
noncomputable def XC(m:M Bool)(QB:Bool->Mh->Prop):Bool->Mh->Prop
 |true,Z=>WP m Z QB
 |false,Z=>QB false Z
theorem YI(h:WP (tc B) Z (XC (tb B) QB)):WP (Dj tc tb B) Z QB:=A0 (Ak h λb _ z=>by cases b;exact CO z;exact z)
noncomputable def SX(m2:Sl->M (Fl×Sl))(QS:Fl×Sl->Mh->Prop):Fl×Sl->Mh->Prop
 |(.next,x5),w5=>WP (m2 x5) w5 QS
 |r,w5=>QS r w5
theorem MY(h:WP (m2 x5) w5 QS):SX m2 QS (.next,x5) w5:=h
theorem YK(h:QS (.rt d,x5) w5):SX m2 QS (.rt d,x5) w5:=h
theorem R7(h:WP (m1 B) Z (SX m2 QS)):WP (AS m1 m2 B) Z QS:=A0 (Ak h λr _ z=>by
 obtain⟨a,x5⟩:=r;cases a
 ·exact z
 ·exact CO z
 ·exact CO z
 ·exact CO z
 ·exact CO z)
theorem VZ{i:Nat}(h:WP (ma B) Z λd w5=>QS (.next,B.set i (some d)) w5):WP (AY ma (AO i) B) Z QS:=A0 (Ak h λ_ _ q=>A0 (CO (CO q)))
theorem X9(h:WP (ma B) Z λd w5=>QS (.rt d,B) w5):WP (As ma B) Z QS:=A0 (Ak h λ_ _=>CO)
theorem VW(h:WP (ma B) Z λ_ w5=>QS (.next,B) w5):WP (Bt ma B) Z QS:=A0 (Ak h λ_ _=>CO)
theorem YB(q:QS (.next,B) Z):WP (A6 B) Z QS:=⟨_,Z,rfl,q⟩
noncomputable def ifK(m1 m2:Sl->M (Fl×Sl))(B:Sl)(QS:Fl×Sl->Mh->Prop):Bool->Mh->Prop
 |true,Z=>WP (m1 B) Z QS
 |false,Z=>WP (m2 B) Z QS
theorem Vj(h:WP (m1 B) Z QS):ifK m1 m2 B QS true Z:=h
theorem Vk(h:WP (m2 B) Z QS):ifK m1 m2 B QS false Z:=h
theorem YL(a:b=true->WP (m1 B) Z QS)(c:b=false->WP (m2 B) Z QS):ifK m1 m2 B QS b Z:=by cases b;exact c rfl;exact a rfl
theorem Z5(h:WP (tc B) Z (ifK m1 m2 B QS)):WP (sIf tc m1 m2 B) Z QS:=A0 (Ak h λb _ z=>by cases b;exact z;exact z)
theorem YG(h:WP (a B) Z λds w5=>WP (B5 bf m1 ds B) w5 QS):WP (D7 a bf m1 B) Z QS:=A0 h
noncomputable def Kx(I:Sl->Mh->Prop)(QS:Fl×Sl->Mh->Prop):Fl×Sl->Mh->Prop
 |(.next,B),Z=>I B Z
 |(.cont,B),Z=>I B Z
 |(.brk,B),Z=>QS (.next,B) Z
 |(.rt d,B),Z=>QS (.rt d,B) Z
 |(.xc x,B),Z=>QS (.xc x,B) Z
theorem MZ(h:I B Z):Kx I QS (.next,B) Z:=h
theorem Ix(I:List D->Sl->Mh->Prop)(step:∀x xs B Z,I (x::xs) B Z->WP (bf x B) Z λx5 w5=>WP (m1 x5) w5 (Kx (I xs) QS))(a:∀B Z,I [] B Z->QS (.next,B) Z):∀{ds:List D} {B:Sl} {Z:Mh},I ds B Z->WP (B5 bf m1 ds B) Z QS
 |[],B,Z,h=>CO (a B Z h)
 |x::xs,B,Z,h=>A0 (Ak (step x xs B Z h) λx5 w5 z=>A0 (Ak z λr c z=>by
   obtain⟨b,e⟩:=r;cases b
   ·exact Ix I step a z
   ·exact CO z
   ·exact Ix I step a z
   ·exact CO z
   ·exact CO z))
theorem SD{a:Sl->Mh->Prop}{i:Nat}(q:a (B.set i (some d)) Z):WP (AO i d B) Z a:=⟨_,Z,rfl,q⟩
theorem VY(h:WP (a B) Z λds w5=>ds.length<=sizeLine/\WP (EY bf tc ma (Ey N ix B) ds []) w5 λes w6=>WP (b es) w6 QD):WP (Bm N ix a bf tc ma b B) Z QD:=A0 (Ak h λds w5 z=>A0 (BQ (He z.1 w5) (A0 z.2)))
theorem LX(I:List D->List D->Mh->Prop)(step:∀x xs ys Z,I (x::xs) ys Z->WP (bf x u3) Z λx5 w5=>WP (tc x5) w5 λc w6=>(c=true->WP (ma x5) w6 λy x6=>I xs (ys++[y]) x6)/\(c=false->I xs ys w6))(a:∀ys Z,I [] ys Z->QL ys Z):∀{ds ys:List D} {Z:Mh},I ds ys Z->WP (EY bf tc ma u3 ds ys) Z QL
 |[],ys,Z,h=>CO (a ys Z h)
 |x::xs,ys,Z,h=>A0 (Ak (step x xs ys Z h) λx5 w5 z=>A0 (Ak z λc w6 z=>by
   cases c
   ·exact LX I step a (z.2 rfl)
   ·exact A0 (Ak (z.1 rfl) λy x6=>LX I step a)))
theorem VG(q:QB true Z):WP (DO B) Z QB:=⟨true,Z,rfl,q⟩
theorem Vc(q:QD (.int (i+j)) Z):WP (Av (.int i) (.int j)) Z QD:=⟨_,Z,rfl,q⟩
theorem X5(q:QD (.int (i-j)) Z):WP (EA (.int i) (.int j)) Z QD:=⟨_,Z,rfl,q⟩
theorem Nu(h:0<j)(q:QD (.int (i % j)) Z):WP (Cv (.int i) (.int j)) Z QD:=BQ (T7 h) q
theorem VV(h:0<j)(a:j<1073741824)(q:QD (.int (i / j)) Z):WP (Cd (.int i) (.int j)) Z QD:=BQ (Oi h a) q
theorem YD(h:(-(2 ^ 64)<i/\i<2 ^ 64)∨(-(2 ^ 64)<j/\j<2 ^ 64))(q:QD (.int (i * j)) Z):WP (Gv (.int i) (.int j)) Z QD:=BQ (Xk h) q
theorem R9(q:QD (.bl (decide (i<j))) Z):WP (IS (.int i) (.int j)) Z QD:=⟨_,Z,rfl,q⟩
theorem Z6(q:QD (.bl (decide (j<i))) Z):WP (OI (.int i) (.int j)) Z QD:=⟨_,Z,rfl,q⟩
theorem Nw(q:QD (.bl (i==j)) Z):WP (Af (.int i) (.int j)) Z QD:=⟨_,Z,rfl,q⟩
theorem VU(q:QD (.int (if b then 1 else 0)) Z):WP (MB [.bl b]) Z QD:=⟨_,Z,rfl,q⟩
theorem PK(h:ds.length<=sizeLine)(q:QD (.tup ds) Z):WP (BE ds) Z QD:=by
 refine BQ ?_ q;unfold BE;rw[AM (He h _)];rfl
theorem Gg(h:ds.length<=sizeLine)(q:QD (.lst ds) Z):WP (BU ds) Z QD:=by
 refine BQ ?_ q;unfold BU;rw[AM (He h _)];rfl
theorem PL(h:ds.length<=sizeLine)(q:QD (.ref Z.length) (Z++[.lst ds])):WP (Dv ds) Z QD:=by
 refine BQ ?_ q;unfold Dv;rw[AM (He h _)]
theorem YE(a:atI ds i=some d)(q:QD d Z):WP (AJ (.tup ds) (.int i)) Z QD:=BQ (P5 a) q
theorem SB(a:atI ds i=some d)(q:QD d Z):WP (AJ (.lst ds) (.int i)) Z QD:=BQ (GQ a) q
theorem X6(h:WP (ma B) Z λd w5=>WP (Qh d) w5 QL):WP (CM ma B) Z QL:=A0 h
theorem VL(q:QL ds Z):WP (Qh (.tup ds)) Z QL:=⟨_,Z,rfl,q⟩
theorem VM(q:QL ds Z):WP (Qh (.lst ds)) Z QL:=⟨_,Z,rfl,q⟩
theorem VN(h:WP (ra B) Z λds w5=>∃j:Nat,ds=[.int j]/\j<1000000/\QL ((List.range j).map λ(i:Nat)=>.int (i:Int)) w5):WP (Kv ra B) Z QL:=A0 (Ak h λds w5 ⟨j,e,c,q⟩=>by
 subst e;refine BQ (a:=KQ 0 j) (Z':=w5) ?_ ?_
 ·have b:-2 ^ 62<=(j:Int)/\(j:Int)<2 ^ 62:=⟨by lia,by lia⟩;unfold Pi;simp only[];rw[if_pos b]
 ·have e:KQ 0 j=(List.range j).map λi=>.int i:=by
   unfold KQ
   simp_all
  simp_all)
theorem VF(q:QD (.tup ds) Z):WP (HX [.lst ds]) Z QD:=⟨_,Z,rfl,q⟩
theorem C0{N a:Nat}{mb:Sl->M (Fl×Sl)}(f:ds.length=a)(h:WP (mb (Bc N ds)) Z λr w6=>∃d x3 b,r=(.rt d,x3)/\w6=Z++b/\Cl Z.length d/\QD d Z):WP (Az .drop N a mb ds) Z QD:=by
 obtain⟨r,w6,e,d,x3,b,rfl,rfl,c,q⟩:=h;exact BQ (Ac e f c) q
end
mutual
def Pz:D->Prop
 | .non=>True
 | .int _=>True
 | .str x=>PyData.strOk x=true
 | .tup ds=>PzL ds
 | .lst ds=>PzL ds
 |_=>False
def PzL:List D->Prop
 |[]=>True
 |d::ds=>Pz d/\PzL ds
end
mutual
def dpt:D->Nat
 | .tup ds=>Kb ds+1
 | .lst ds=>Kb ds+1
 |_=>0
def Kb:List D->Nat
 |[]=>0
 |d::ds=>max (dpt d) (Kb ds)
end
mutual
def toZ:D->PyData
 | .int i=>.int i
 | .str x=>.str x
 | .tup ds=>.tuple (IR ds)
 | .lst ds=>.list (IR ds)
 |_=>.none
def IR:List D->List PyData
 |[]=>[]
 |d::ds=>toZ d::IR ds
end
mutual
theorem N5(Z:Mh):∀{d:D},Pz d->toP Z d=some (toZ d)
 | .non,_=>rfl
 | .int _,_=>rfl
 | .str _,_=>rfl
 | .tup a,h=>by unfold toP toZ;rw[Ld Z h];rfl
 | .lst a,h=>by unfold toP toZ;rw[Ld Z h];rfl
 | .bl _,h | .ty _,h | .scr _,h | .ref _,h=>h.elim
theorem Ld Z:∀{a:List D},PzL a->GU Z a=some (IR a)
 |[],_=>rfl
 |d::a,h=>by
  unfold GU IR;rw[N5 Z h.1,Ld Z h.2];rfl
end
mutual
theorem Lc:∀{d:D},Pz d->PyData.canLay0 (toZ d)=true/\PyData.depth (toZ d)=dpt d
 | .non,_=>⟨rfl,rfl⟩
 | .int _,_=>⟨rfl,rfl⟩
 | .str _,h=>⟨h,rfl⟩
 | .tup a,h=>by
  obtain⟨b,c⟩:=JD h;unfold toZ dpt;exact⟨b,by show PyData.depthAll _+1=_;rw[c]⟩
 | .lst a,h=>by
  obtain⟨b,c⟩:=JD h;unfold toZ dpt;exact⟨b,by show PyData.depthAll (_)+1=_;rw[c]⟩
 | .bl _,h | .ty _,h | .scr _,h | .ref _,h=>h.elim
theorem JD:∀{a:_},PzL a->PyData.canLayAll0 (IR a)=true/\PyData.depthAll (IR a)=Kb a
 |[],_=>⟨rfl,rfl⟩
 |d::a,h=>by
  obtain⟨b,c⟩:=Lc h.1;obtain⟨e,f⟩:=JD h.2;unfold IR Kb;refine⟨?_,?_⟩
  ·show (PyData.canLay0 _&&PyData.canLayAll0 _)=true;rw[b,e];rfl
  ·show max (_) _=_;rw[c,f]
end
mutual
theorem eqZ:∀{a b:D},Pz a->Pz b->(PyData.eqv (toZ a) (toZ b)=true↔a=b)
 | .non,b,_,hb=>by
  cases b<;>first|exact⟨λ_=>rfl,λ_=>rfl⟩|(exact hb.elim)|(exact⟨λz=>(by cases z),λz=>(by cases z)⟩)
 | .int i,b,_,hb=>by
  cases b with
  |int j=>exact⟨λz=>by have  := z;rw[beq_iff_eq.mp this],λz=>by cases z;show (i==i)=true;simp⟩
  |_=>first|(exact hb.elim)|(exact⟨λz=>(by cases z),λz=>(by cases z)⟩)
 | .str i,b,_,hb=>by
  cases b with
  |str j=>exact⟨λz=>by have:(i==j)=true:=z;rw[beq_iff_eq.mp this],λz=>by cases z;show (i==i)=true;simp⟩
  |_=>first|(unfold Pz at hb;exact hb.elim)|(exact⟨λz=>(by cases z),λz=>(by cases z)⟩)
 | .tup g,b,ha,hb=>by
  cases b with
  |tup k=>
   have:=Zl ha hb;exact⟨λz=>by rw[this.mp z],λz=>by cases z;exact this.mpr rfl⟩
  |_=>first|(unfold Pz at hb;exact hb.elim)|(unfold toZ;exact⟨λz=>(by cases z),λz=>(by cases z)⟩)
 | .lst g,b,ha,hb=>by
  cases b with
  |lst k=>
   have:=Zl ha hb;exact⟨λz=>by rw[this.mp z],λz=>by cases z;exact this.mpr rfl⟩
  |_=>first|(unfold Pz at hb;exact hb.elim)|(unfold toZ;exact⟨λz=>(by cases z),λz=>(by cases z)⟩)
 | .bl _,_,h,_ | .ty _,_,h,_ | .scr _,_,h,_ | .ref _,_,h,_=>h.elim
theorem Zl:∀{d e:List D},PzL d->PzL e->(PyData.eqvAll (IR d) (IR e)=true↔d=e)
 |[],[],_,_=>⟨λ_=>rfl,λ_=>rfl⟩
 |[],_::_,_,_=>⟨λz=>(by cases z),λz=>(by cases z)⟩
 |_::_,[],_,_=>⟨λz=>(by cases z),λz=>(by cases z)⟩
 |a::d,b::e,ha,hb=>by
  have l:=eqZ ha.1 hb.1;have m:=Zl ha.2 hb.2;show (PyData.eqv (toZ a) (toZ b)&&PyData.eqvAll (IR d) (IR e))=true↔_
  grind
end
section
variable{Z:Mh}{a b:D}{QD:D->Mh->Prop}
theorem Ow(c:Pz a)(d:Pz b)(k:dpt a<=64)(l:dpt b<=64):∃e:Bool,(e=true↔a=b)/\Fj f a b Z=some (.bl (if f then !e else e),Z):=by
 refine⟨_,eqZ c d,?_⟩;obtain⟨m,o⟩:=Lc c;obtain⟨p,q⟩:=Lc d;have g:SeqAt.shaped (toZ a)=true:=by
  show (PyData.canLay0 _&&decide _)=true
  grind
 have h:SeqAt.shaped (toZ b)=true:=by
  show (PyData.canLay0 _&&decide _)=true
  grind
 have i:KO Z a=some (toZ a):=by
  cases a with
  |ref n=>exact c.elim
  |_=>exact N5 Z c
 have j:KO Z b=some (toZ b):=by
  cases b with
  |ref n=>exact d.elim
  |_=>exact N5 Z d
 unfold Fj;rw[i,j];exact if_pos ⟨g,h⟩
theorem YH(c:Pz a)(d:Pz b)(f:dpt a<=64)(g:dpt b<=64)(q:∀e:Bool,(e=true↔a=b)->QD (.bl e) Z):WP (Af a b) Z QD:=by
 obtain⟨e,h,i⟩:=Ow c d f g;exact BQ i (q e h)
end
end Mi
namespace Mi
section
variable{b:Bool}{i:Int}
theorem SE{P:Bool->Prop}(h:P b):∃a,D.bl b=D.bl a/\P a:=⟨b,rfl,h⟩
theorem Vi{P:Int->Prop}(h:P i):∃a,D.int i=D.int a/\P a:=⟨i,rfl,h⟩
theorem Vg{n:Nat}{P:Nat->Prop}(e:i=n)(hn:n<1000000)(h:P n):∃j:Nat,[D.int i]=[D.int j]/\j<1000000/\P j:=⟨n,by rw[e],hn,h⟩
end
end Mi
local macro_rules | `(tactic| wtm_at "j")=>`(tactic| first|assumption|decide|lia|exact Nat.le_of_ble_eq_true rfl)
local macro_rules | `(tactic| wtm_at "o")=>`(tactic| first
 |(with_reducible apply Mi.R7)|(with_reducible apply Mi.MY)|(with_reducible apply Mi.VZ)|(with_reducible apply Mi.X9)|(with_reducible apply Mi.YK)|(with_reducible apply Mi.VW)|(with_reducible apply Mi.YB)|(with_reducible apply Mi.Z5)|(with_reducible apply Mi.Vj)|(with_reducible apply Mi.Vk)|(with_reducible apply Mi.Z4)|(with_reducible apply Mi.b8)|((with_reducible apply Mi.VJ);rfl)|(with_reducible apply Mi.SC)|(with_reducible apply Mi.VQ)|(with_reducible apply Mi.VX)|(with_reducible apply Mi.Z3)
 |(with_reducible apply Mi.VI)|(with_reducible apply Mi.SE)|(with_reducible apply Mi.wq_not)|(with_reducible apply Mi.YI)|(with_reducible apply Mi.wq_or)|(with_reducible apply Mi.YG)|(with_reducible apply Mi.VY)|(with_reducible apply Mi.X6)|(with_reducible apply Mi.VL)|(with_reducible apply Mi.VM)|(with_reducible apply Mi.VN)|(with_reducible apply Mi.X8)|(with_reducible apply Mi.Qk)|(with_reducible apply Mi.VP)|(with_reducible apply Mi.Vi)
 |(with_reducible apply Mi.Vc)|(with_reducible apply Mi.wq_add)|(with_reducible apply Mi.X5)|(with_reducible apply Mi.R9)|(with_reducible apply Mi.Z6)|(with_reducible apply Mi.wq_ge)|(with_reducible apply Mi.Nw)|(with_reducible apply Mi.wq_neI)|(with_reducible apply Mi.wq_isF)|(with_reducible apply Mi.wq_isT)|(with_reducible apply Mi.VU)|(with_reducible apply Mi.wq_neB)|(with_reducible apply Mi.wq_tupT)|(with_reducible apply Mi.VF)|(with_reducible apply Mi.wq_lenT)|(with_reducible apply Mi.VG)|(with_reducible apply Mi.SD)
 |((with_reducible apply Mi.Nu);(wtm_at "j"))|((with_reducible apply Mi.VV);(wtm_at "j");(wtm_at "j"))|((with_reducible apply Mi.PK);(wtm_at "j"))|((with_reducible apply Mi.Gg);(wtm_at "j"))|((with_reducible apply Mi.PL);(wtm_at "j"))|((with_reducible apply Mi.YE);rfl)|((with_reducible apply Mi.SB);rfl))
local macro_rules | `(tactic| wtm_at "c")=>`(tactic| repeat wtm_at "o")
namespace Mi
open PySem L2
section
variable{x5:Sl}{Z w5:Mh}{x y:D}{ma:Sl->M D}{tc:Sl->M Bool}{QD:D->Mh->Prop}{QL:List D->Mh->Prop}
theorem FW{α:Type}(f:α->D)(p:α->Bool)(F:α->D){bf:D->Sl->M Sl}{xs:List α}(h:∀a∈xs,WP (bf (f a) u3) Z λx5 w5=>w5=Z/\WP (tc x5) Z λc w6=>c=p a/\w6=Z/\(p a=true->WP (ma x5) Z λy x6=>y=F a/\x6=Z))(q:QL ((xs.filter p).map F) Z):WP (EY bf tc ma u3 (xs.map f) []) Z QL:=by
 refine LX (I:=λd i j=>∃a b,a++b=xs/\d=b.map f/\i=(a.filter p).map F/\j=Z) (λz B i j k=>?_) (λi j k=>?_) ⟨[],xs,rfl,rfl,rfl,rfl⟩
 ·obtain⟨a,b,g,l,rfl,rfl⟩:=k;cases b with
  |nil=>cases l
  |cons w b=>
   obtain⟨o,m⟩:=List.cons.inj l;subst o;have r:w∈xs:=by rw[←g];simp
   refine Ak (h w r) λx5 w5 ⟨e,z⟩=>?_;subst e;refine Ak z λc w6 ⟨s,t,u⟩=>?_;subst s t;refine⟨λn=>Ak (u n) λy x6 ⟨v,A⟩=>?_,λn=>?_⟩
   ·subst v A;exact⟨a++[w],b,by simp_all,m,by simp_all,rfl⟩
   ·exact⟨a++[w],b,by simp_all,m,by simp_all,rfl⟩
 ·obtain⟨a,b,g,l,rfl,rfl⟩:=k
  simp_all
theorem Qb:∀xs:List α,ML (xs.map λa=>D.bl (f a))=some (xs.map f)
 |[]=>rfl
 |x::xs=>by rw[AAW];unfold ML;rw[Qb xs];rfl
theorem Nv{x y:Str}(a:PyData.strOk x=true)(b:PyData.strOk y=true)(q:QD (.bl (x==y)) Z):WP (Af (.str x) (.str y)) Z QD:=by
 refine YH (a) b (by show 0<=64;lia) (by show 0<=64;lia) λe c=>?_;have:e=(x==y):=by
  rw[Bool.eq_iff_iff]
  simp_all
 simp_all
end
end Mi
namespace K12
open PySem L2 Mi Ht Nk Wb
section
structure Cl1(cs K:List Cs):Prop where
 nd:K.Nodup
 mem:∀x,x∈K↔x∈clo cs
 up:K.Pairwise λx y=>cLt x y=true
end
end K12
namespace Wb
open Nk
noncomputable def tlU(a:List Int):List Bool->List (List Int)
 |[]=>[[]]
 |b::c=>(if b then [(-1:Int)] else -2::a).flatMap λv=>(tlU a c).map (v::·)
theorem mem_tlU:t∈tlU a (b::is)↔∃v r,t=v::r/\(if b then v=-1 else v=-2∨v∈a)/\r∈tlU a is:=by
 show t∈(if b then [-1] else -2::a).flatMap _↔_;rw[List.mem_flatMap];constructor
 ·rintro⟨v,c,h⟩;obtain⟨r,d,rfl⟩:=AAL.mp h;refine⟨v,r,rfl,?_,d⟩;cases b<;>simpa using c
 ·rintro⟨v,r,rfl,c,d⟩;refine⟨v,?_,AAL.mpr ⟨r,d,rfl⟩⟩;cases b<;>simpa using c
theorem Lf:∀{is:List Bool} {t:List Int},t∈tlU c is->t.length=is.length
 |[],t,h=>by
  have  := by simpa[tlU] using h
  subst this;rfl
 |b::is,t,h=>by
  obtain⟨v,r,rfl,_,a⟩:=mem_tlU.mp h;simp[Lf a]
theorem N6:∀{is:List Bool} {t:List Int} {r:Nat} {b:Bool},t∈tlU a is->is[r]?=some b->∃v,t[r]?=some v/\(if b then v=-1 else v=-2∨v∈a)
 |[],_,_,_,_,e=>by simp at e
 |f::is,t,r,b,h,e=>by
  obtain⟨v,g,rfl,c,d⟩:=mem_tlU.mp h;cases r with
  |zero=>simp at e;subst e;exact⟨v,rfl,c⟩
  |succ r=>simpa using N6 d (by simpa using e)
theorem Le:∀{is:List Bool} {t:List Int} {r:Nat} {b:Bool} {v:Int},t∈tlU a is->(if b then v=-1 else v=-2∨v∈a)->t.set r v∈tlU a (is.set r b)
 |[],t,r,b,v,h,_=>by
  have  := by simpa[tlU] using h
  subst this;exact h
 |g::is,t,r,b,v,h,c=>by
  obtain⟨u,e,rfl,f,d⟩:=mem_tlU.mp h;cases r with
  |zero=>exact mem_tlU.mpr ⟨v,e,rfl,c,d⟩
  |succ r=>exact mem_tlU.mpr ⟨u,_,rfl,f,Le d c⟩
theorem PY(a:List Int):∀is:List Bool,(tlU a is).length<=(1+a.length) ^ is.length
 |[]=>by simp[tlU]
 |b::is=>by
  have h:(tlU a (b::is)).length=(if b then [-1] else -2::a).length * (tlU a is).length:=by
   show ((if b then [-1] else -2::a).flatMap _).length=_;generalize (if b then [-1] else -2::a)=l
   induction l with
   |nil=>simp
   |cons x l c=>rw[List.flatMap_cons,AAG,c,AAF,AAH,Nat.add_mul,Nat.one_mul,Nat.add_comm]
  rw[h,AAH,Nat.mul_comm];refine Nat.mul_le_mul (PY a is) ?_;cases b<;>simp<;>lia
noncomputable def Uc(c:List Int)(is:List Bool)(a:Int):Option Int->List Cs
 |none=>(tlU c is).map λt=>(a,-1,t)
 |some b=>(tlU c is).map (λt=>(a,b,t))++(tlU c is).map λt=>(b,-2,t)
theorem mem_Uc:c∈Uc g is a m↔c.2.2∈tlU g is/\(match m with|none=>c.1=a/\c.2.1=-1|some b=>(c.1=a/\c.2.1=b)∨(c.1=b/\c.2.1=-2)):=by
 cases m with
 |none=>
  show c∈(tlU g is).map _↔_;rw[AAL];constructor
  ·rintro⟨t,d,rfl⟩;exact⟨d,rfl,rfl⟩
  ·rintro⟨d,e,f⟩;exact⟨_,d,by rw[←e,←f]⟩
 |some b=>
  show c∈(tlU g is).map _++(tlU g is).map _↔_;rw[AAJ,AAL,AAL];constructor
  ·rintro(⟨t,d,rfl⟩|⟨t,d,rfl⟩)
   ·exact⟨d,.inl ⟨rfl,rfl⟩⟩
   ·exact⟨d,.inr ⟨rfl,rfl⟩⟩
  ·rintro⟨d,⟨e,f⟩|⟨e,f⟩⟩
   ·exact .inl ⟨_,d,by rw[←e,←f]⟩
   ·exact .inr ⟨_,d,by rw[←e,←f]⟩
theorem Z1(c:List Int)(is:List Bool)(a:Int)(m:Option Int):(Uc c is a m).length<=2 * (1+c.length) ^ is.length:=by
 have:=PY c is;cases m with
 |none=>unfold Uc;rw[AAF];lia
 |some b=>unfold Uc;rw[AAG,AAF,AAF];lia
end Wb
namespace K12
open PySem L2 Mi Ht Nk Wb
section
variable{v:Int}{r:Nat}
theorem D1(h:HB c=some y):c.2.1=-2/\y=(c.1,-1,c.2.2):=by
 unfold HB at h
 simp_all
theorem D2(h:FJ r v c=some y):c.2.2[r]?=some v/\y=(c.1,c.2.1,c.2.2.set r (-1)):=by
 unfold FJ at h
 simp_all
end
theorem M9:PyData.strOk ("whole" : Str)=true:=by decide +kernel
theorem Iw(q:QD (.bl true) Z):WP (Af (.str "whole") (.str "whole")) Z QD:=Nv M9 M9 q
noncomputable abbrev mwD(sz bg:Int)(a:List D):D:=.tup [.str "whole",.int sz,.int bg,.tup [],.tup a]
noncomputable abbrev clD(cs:List Cs):D:=.tup (cs.map csD)
theorem FR(k:Nat)(cs:List Cs):Cl k (clD cs):=K16.cl_clW k cs
section
variable{v:Int}{cs:List Cs}{r:Nat}
noncomputable def JC(cs:List Cs)(r:Nat)(v:Int):List Cs:=cs.filterMap (FJ r v)
end
end K12
namespace K16
open PySem L2 Mi Nk Wb Ht K13
section
variable{Z w5 w6 x6:Mh}{B x5:Sl}{d:D}{ds es:List D}{n:Nat}
variable{sz bg:Int}{ns:List Str}{kd:Str}
noncomputable def Dy:Int->(Nat->Int)->List Ev->List Int
 |_,_,[]=>[]
 |b,c,e::es=>(if e.beg then b else c e.hand)::Dy (if e.beg then b+1 else b) (if e.beg then λh=>if h=e.hand then b else c h else c) es
theorem gs_beg{b:Int}{c:Nat->Int}{es:List Ev}(h:e.beg=true):Dy b c (e::es)=b::Dy (b+1) (λh=>if h=e.hand then b else c h) es:=by
 show _::Dy _ _ es=_;rw[h];rfl
theorem gs_end{b:Int}{c:Nat->Int}{es:List Ev}(h:e.beg=false):Dy b c (e::es)=c e.hand::Dy b c es:=by
 show _::Dy _ _ es=_;rw[h];rfl
theorem MS(N:Ns ns):∀(es:List Ev) (k:Nat) (L:List (Key×D)) (G:Nat->Bool) (a:List D) (b:Int) (c:Nat->Int) (F H w:Option D),(∀e∈es,e.Ok ns sz)->wfG G es->DG L G->(∀(h:Nat) (g:Int),CU L (.inl (h:Int))=some (.int g)->g=c h)->L.length+es.length<=1000->a.length+es.length<=1000->
  ∃(f:List Int) (C:List (Key×D)) (E:Int) (i j l:Option D),f.length=es.length/\f=Dy b c es /\
   B5 (Cq [6,7]) c9 (Ct k (es.map (evD ns))) [some (mkK kd sz bg ns),some (.lst ev),some (.lst (ns.map D.str)),some (.ref Z.length),some (.ref (Z.length+1)),some (.int b),F,H,w] (Z++[.dK L,.lst a]) =
    some ((.next,[some (mkK kd sz bg ns),some (.lst ev),some (.lst (ns.map D.str)),some (.ref Z.length),some (.ref (Z.length+1)),some (.int E),i,j,l]),Z++[.dK C,.lst (a++(es.zip f).map λp=>BH p.1 p.2)])
 |[],k,L,G,a,b,c,F,H,w,_,_,_,_,_,_=>⟨[],L,b,F,H,w,rfl,rfl,by simp[Ct];rfl⟩
 |e::es,k,L,G,a,b,c,F,H,w,O,wf,r,P,hL,hA=>by
  have hz:=BF;have I:=O e (by simp);obtain⟨J,K⟩:=wf;rw[AAH] at hL hA;have t1:∀(S:Sl) (M:Mh),S[7]?=some (some (evD ns e))->S[2]?=some (some (.lst (ns.map D.str)))->S[0]?=some (some (mkK kd sz bg ns))->sIf (Dx (AN (AE BN (AD (AA 7) (AD (AA 2) (AD (mOp AJ (AA 0) (mC (.int 1))) AK)))))) D6 A6 S M=some ((.next,S),M):=λS M m Q h0=>
   piF (EK (b:=true) (AX (pd (ds:=[evD ns e,.lst (ns.map D.str),.int sz]) (pc (BT m) (pc (BT Q) (pc (po (x:=mkK kd sz bg ns) (y:=.int 1) (BT h0) rfl rfl) rfl))) (Vs N I)))) rfl
  have t2:∀(S:Sl) (M:Mh),S[7]?=some (some (evD ns e))->S[2]?=some (some (.lst (ns.map D.str)))->AY (BG LA (AA 2) (AD (mOp AJ (AA 7) (mC (.int 1))) AK)) (AO 8) S M=some ((.next,S.set 8 (some (.int e.hand))),M):=λS M m Q=>
   pa (Da (x:=.lst (ns.map D.str)) (w5:=M) (w6:=M) (x6:=M) (ds:=[.str (nm ns e.hand)]) (BT Q) rfl (pc (po (x:=evD ns e) (y:=.int 1) (BT m) rfl (by cases e<;>rfl)) rfl) (bM N I.h)) rfl
  have R:∀(S:Sl) (M:Mh),S[7]?=some (some (evD ns e))->mOp Af (mOp AJ (AA 7) (mC (.int 0))) (mC (.str "begin")) S M=some (.bl e.beg,M):=λS M m=>po (x:=.str (bS e.beg)) (y:=.str "begin") (po (x:=evD ns e) (y:=.int 0) (BT m) rfl (by cases e<;>rfl)) rfl GR;have te:∀(S:Sl) (M:Mh),S[7]?=some (some (evD ns e))->AN (mOp Af (mOp AJ (AA 7) (mC (.int 0))) (mC (.str "end"))) S M=some (!e.beg,M):=λS M m=>AX (po (x:=.str (bS e.beg)) (y:=.str "end") (po (x:=evD ns e) (y:=.int 0) (BT m) rfl (by cases e<;>rfl)) rfl bP);have t3:∀(S:Sl) (M:Mh) (L:List (Key×D)),S[7]?=some (some (evD ns e))->S[8]?=some (some (.int e.hand))->S[3]?=some (some (.ref Z.length))->M[Z.length]?=some (.dK L)->DG L G->sIf (AN (mOp Af (mOp Af (mOp AJ (AA 7) (mC (.int 0))) (mC (.str "begin"))) (mOp (Kc false) (AA 8) (AA 3)))) D6 A6 S M=some ((.next,S),M):=λS M L m h8 h3 hM r=>by
   have hv:(CU L (.inl (e.hand:Int))).isSome=!e.beg:=by
    rcases r e.hand with ⟨A,s⟩|⟨g,A,s⟩
    ·rw[A,←J,s];rfl
    ·rw[A,←J,s];rfl
   refine piF (AX (po (x:=.bl e.beg) (y:=.bl (!e.beg)) (R S M m) (po (x:=.int e.hand) (y:=.ref Z.length) (BT h8) (BT h3) (by rw[L6 hM,hv])) ?_)) rfl;rw[II];cases e.beg<;>rfl
  cases o:e.beg with
  |true=>
   have t:=r.put e.hand b;rw[o] at K;obtain⟨f,C,E,i,j,l,T,u,U⟩:=MS N (ev:=ev) es (k+1) (Dc L (.inl (e.hand:Int)) (.int b)) (λh=>if h=e.hand then true else G h) (a++[BH e b]) (b+1) (λh=>if h=e.hand then b else c h) (some (.int k)) (some (evD ns e)) (some (.int e.hand)) (λx W=>O x (by simp[W])) K t (λh g z=>by
    rw[Dt] at z;by_cases y:h=e.hand
    ·subst y;rw[if_pos rfl] at z;cases z;exact(if_pos rfl).symm
    ·rw[if_neg λq=>y (by have:=Sum.inl.inj q;lia)] at z;show g=if h=e.hand then b else c h;rw[if_neg y];exact P h g z) (by have:=Du L (.inl (e.hand:Int)) (.int b);lia) (by simp;lia)
   refine⟨b::f,C,E,i,j,l,by simp[T],by rw[u,gs_beg o],?_⟩;have X:a++List.map (λp:Ev×Int=>BH p.1 p.2) ((e,b)::es.zip f)=a++[BH e b]++(es.zip f).map (λp=>BH p.1 p.2):=by simp
   rw[List.zip_cons_cons,X];refine AU (x:=.tup [.int k,evD ns e]) (x5:=[some (mkK kd sz bg ns),some (.lst ev),some (.lst (ns.map D.str)),some (.ref Z.length),some (.ref (Z.length+1)),some (.int b),some (.int k),some (evD ns e),w]) (w5:=Z++[.dK L,.lst a]) rfl ?_ U;refine AT (t1 _ _ rfl rfl rfl) (AT (t2 _ _ rfl rfl) (AT (t3 _ _ L rfl rfl rfl g2a r) (AT (x5:=[some (mkK kd sz bg ns),some (.lst ev),some (.lst (ns.map D.str)),some (.ref Z.length),some (.ref (Z.length+1)),some (.int (b+1)),some (.int k),some (evD ns e),some (.int e.hand)]) (w5:=Z++[.dK (Dc L (.inl (e.hand:Int)) (.int b)),.lst a]) (Dk (w5:=Z++[.dK L,.lst a]) (AX ((R _ _ rfl).trans (by rw[o]))) (AT (x5:=[some (mkK kd sz bg ns),some (.lst ev),some (.lst (ns.map D.str)),some (.ref Z.length),some (.ref (Z.length+1)),some (.int b),some (.int k),some (evD ns e),some (.int e.hand)]) (w5:=Z++[.dK (Dc L (.inl (e.hand:Int)) (.int b)),.lst a]) ?_ (pa (po (x:=.int b) (y:=.int 1) rfl rfl rfl) rfl))) (AT (w5:=Z++[.dK (Dc L (.inl (e.hand:Int)) (.int b)),.lst (a++[BH e b])]) (DI (d:=.non) (Da (x:=.ref (Z.length+1)) (ds:=[BH e b]) (w5:=Z++[.dK (Dc L (.inl (e.hand:Int)) (.int b)),.lst a]) (w6:=Z++[.dK (Dc L (.inl (e.hand:Int)) (.int b)),.lst a]) (x6:=Z++[.dK (Dc L (.inl (e.hand:Int)) (.int b)),.lst a]) rfl (BJ g2b) (pc (U3 I rfl rfl rfl (Ij g2a (by rw[Dt,if_pos rfl]))) rfl) ?_)) (EW (w5:=Z++[.dK (Dc L (.inl (e.hand:Int)) (.int b)),.lst (a++[BH e b])]) ((te _ _ rfl).trans (by rw[o];rfl)) rfl)))))
   ·have:=En (B:=[some (mkK kd sz bg ns),some (.lst ev),some (.lst (ns.map D.str)),some (.ref Z.length),some (.ref (Z.length+1)),some (.int b),some (.int k),some (evD ns e),some (.int e.hand)]) (Z:=Z++[.dK L,.lst a]) (n:=Z.length) (mo:=AA 3) (mi:=AA 8) (mv:=AA 5) (v:=.int b) (k:=(e.hand:Int)) rfl rfl rfl g2a (by lia);rw[s2a] at this;exact this
   ·rw[B9 g2b (by lia),s2b]
  |false=>
   have t:=r.drop e.hand;rw[o] at J K;obtain⟨g,Y⟩:∃g:Int,CU L (.inl (e.hand:Int))=some (.int g):=by
    rcases r e.hand with ⟨A,s⟩|⟨g,A,s⟩
    ·rw[J] at s;cases s
    ·exact⟨g,A⟩
   obtain⟨f,C,E,i,j,l,T,u,U⟩:=MS N (ev:=ev) es (k+1) (HE L (.inl (e.hand:Int))) (λh=>if h=e.hand then false else G h) (a++[BH e g]) b c (some (.int k)) (some (evD ns e)) (some (.int e.hand)) (λx W=>O x (by simp[W])) K t (λh g z=>by
    rw[Mc] at z;by_cases y:(Sum.inl (h:Int):Key)=.inl (e.hand:Int)
    ·rw[if_pos y] at z;cases z
    ·rw[if_neg y] at z;exact P h g z) (by have:=UZ L (.inl (e.hand:Int));lia) (by simp;lia)
   refine⟨g::f,C,E,i,j,l,by simp[T],by rw[u,P _ _ Y,gs_end o],?_⟩;have X:a++List.map (λp:Ev×Int=>BH p.1 p.2) ((e,g)::es.zip f)=a++[BH e g]++(es.zip f).map (λp=>BH p.1 p.2):=by simp
   rw[List.zip_cons_cons,X];refine AU (x:=.tup [.int k,evD ns e]) (x5:=[some (mkK kd sz bg ns),some (.lst ev),some (.lst (ns.map D.str)),some (.ref Z.length),some (.ref (Z.length+1)),some (.int b),some (.int k),some (evD ns e),w]) (w5:=Z++[.dK L,.lst a]) rfl ?_ U;refine AT (t1 _ _ rfl rfl rfl) (AT (t2 _ _ rfl rfl) (AT (t3 _ _ L rfl rfl rfl g2a r) (AT (x5:=[some (mkK kd sz bg ns),some (.lst ev),some (.lst (ns.map D.str)),some (.ref Z.length),some (.ref (Z.length+1)),some (.int b),some (.int k),some (evD ns e),some (.int e.hand)]) (w5:=Z++[.dK L,.lst a]) (EW (w5:=Z++[.dK L,.lst a]) (AX ((R _ _ rfl).trans (by rw[o]))) rfl) (AT (w5:=Z++[.dK L,.lst (a++[BH e g])]) (DI (d:=.non) (Da (x:=.ref (Z.length+1)) (ds:=[BH e g]) (w5:=Z++[.dK L,.lst a]) (w6:=Z++[.dK L,.lst a]) (x6:=Z++[.dK L,.lst a]) rfl (BJ g2b) (pc (U3 I rfl rfl rfl (Ij g2a Y)) rfl) ?_)) (Dk (w5:=Z++[.dK L,.lst (a++[BH e g])]) ((te _ _ rfl).trans (by rw[o];rfl)) (DI (d:=.int g) ?_))))))
   ·rw[B9 g2b (by lia),s2b]
   ·have:=Wt (B:=[some (mkK kd sz bg ns),some (.lst ev),some (.lst (ns.map D.str)),some (.ref Z.length),some (.ref (Z.length+1)),some (.int b),some (.int k),some (evD ns e),some (.int e.hand)]) (Z:=Z++[.dK L,.lst (a++[BH e g])]) (n:=Z.length) (mo:=AA 3) (mi:=AA 8) (k:=(e.hand:Int)) rfl rfl g2a Y;rw[s2a] at this;exact this
theorem OT(h:S[0]?=some (some (mkK kd sz bg ns)))(a:ns.length<=1000):Bm 1 [] (CM (mOp AJ (AA 0) (mC (.int 4)))) (AO 0) DO (mOp AJ (AA 0) (mC (.int 0))) BU S Z=some (.lst (ns.map D.str),Z):=by
 have b:=BF;refine BD (Ez (po (BT h) rfl rfl)) (by rw[AAF];lia) ?_ (Ae (by rw[AAF];lia));have:=Bl (Z:=Z) (mc:=DO) (me:=mOp AJ (AA 0) (mC (.int 0))) (u3:=[none]) (f:=hdD) (xs:=ns) (ys:=[]) (λ_ _=>rfl) λt _ _=>po rfl rfl rfl;rw[Ba] at this;exact this
theorem v_actsX(N:Ns ns){es:List Ev}(j:∀e∈es,e.Ok ns sz)(k:wfG (λ_=>false) es)(t:es.length<=100):∃a:List Int,a.length=es.length/\a=Dy 0 (λ_=>0) es/\Ai [mkK kd sz bg ns,.lst (es.map (evD ns))] Z=some (.lst ((es.zip a).map λp=>BH p.1 p.2),Z):=by
 have u:=BF;have l:=N.hi;obtain⟨a,m,o,q,r,s,c,f,i⟩:=MS (Z:=Z) (kd:=kd) (sz:=sz) (bg:=bg) N es 0 [] (λ_=>false) [] 0 (λ_=>0) none none none j k (λh=>.inl ⟨rfl,rfl⟩) (λh g z=>by cases z) (by simp;lia) (by simp;lia);refine⟨a,c,f,?_⟩;rw[eq_acts];refine LL (x3:=[some (mkK kd sz bg ns),some (.lst (es.map (evD ns))),some (.lst (ns.map D.str)),some (.ref Z.length),some (.ref (Z.length+1)),some (.int o),q,r,s]) (g:=[.dK m,.lst ((es.zip a).map λp=>BH p.1 p.2)]) ?_ rfl (by lia) g2b (A7 (λp=>Zr p) _);rw[List.nil_append] at i;refine AT (piF (EK (b:=true) (AX (pd rfl ?_))) rfl) (AT (pa (OT rfl (by lia)) rfl) (AT rfl (AT (x5:=[some (mkK kd sz bg ns),some (.lst (es.map (evD ns))),some (.lst (ns.map D.str)),some (.ref Z.length),some (.ref (Z.length+1)),none,none,none,none]) ?_ (AT (w5:=Z++[.dK [],.lst []]) rfl (AT (Dl (w5:=Z++[.dK [],.lst []]) rfl i) (C6 rfl))))))
 ·show (K9 "list" "list").map (λb=>(D.bl b,Z))=_;rw[show K9 "list" "list" = some true from by decide];rfl
 ·refine CW (Bi (ds:=[]) rfl ?_) rfl;show Dv [] (Z++[.dK []])=_;unfold Dv;rw[AM (by unfold lim;rw[if_pos (by simp)])];simp
theorem v_acts(N:Ns ns){es:List Ev}(b:∀e∈es,e.Ok ns sz)(c:wfG (λ_=>false) es)(f:es.length<=100):∃a:List Int,a.length=es.length/\Ai [mkK kd sz bg ns,.lst (es.map (evD ns))] Z=some (.lst ((es.zip a).map λp=>BH p.1 p.2),Z):=by
 obtain⟨a,g,_,h⟩:=v_actsX N b c f;exact⟨a,g,h⟩
end
section
variable{bg:Int}
noncomputable def S0(bg:Int)(m:Nat):List Cs:=[(bg,-1,List.replicate m (-1))]
end
end K16
namespace K15
open PySem L2 Mi Ht Nk Wb
open K13 (A7 BP BF)
open K16 (ER Bb F0 wH Ds gA A2 Au A4 BM Aj CC)
open K12 (Cl1 clD JC mwD Iw FR D1 D2)
structure Shp(ws:List Int)(is:List Bool)(a:Int)(m:Option Int):Prop where
 pos:∀w∈ws,0<=w
 ha:a∈ws
 hm:∀b,m=some b->b∈ws
 len:is.length<=3
 few:2 * (1+ws.length) ^ is.length<900
section
variable{ws:List Int}{is:List Bool}{a:Int}{m:Option Int}
theorem U4(S:Shp ws is a m)(h:c∈Uc ws is a m):c.1∈ws:=by
 obtain⟨_,h⟩:=mem_Uc.mp h;cases m with
 |none=>rw[h.1];exact S.ha
 |some b=>
  rcases h with ⟨h,_⟩|⟨h,_⟩
  ·rw[h];exact S.ha
  ·rw[h];exact S.hm b rfl
theorem Z0(S:Shp ws is a m)(h:c∈Uc ws is a m)(p:x∈nxt c):x∈Uc ws is a m:=by
 have q:=U4 S h;obtain⟨f,k⟩:=mem_Uc.mp h;rcases mem_nxt.mp p with ⟨l,rfl⟩|⟨i,n,rfl⟩
 ·refine mem_Uc.mpr ⟨f,?_⟩;cases m with
  |none=>exact(by simp_all)
  |some b=>
   rcases k with ⟨_,g⟩|⟨_,g⟩
   ·exact .inr ⟨g,rfl⟩
   ·exact absurd (by rw[g] at l;exact l) (by decide)
 ·refine mem_Uc.mpr ⟨?_,k⟩;have j  := (AAT.mp n).1;have d:i<is.length:=by rw[←Lf f];exact j
  have s:is[i]?=some is[i]:=by simp[d]
  obtain⟨v,o,t⟩:=N6 f s;rw[n] at o;cases o;have u:is[i]=false:=by simp_all
  have:=Le (r:=i) (b:=is[i]) f (by rw[u];exact .inr q);have e:is.set i is[i]=is:=by simp
  rw[e] at this;exact this
theorem Zz(S:Shp ws is a m)(r:Rch c x)(h:c∈Uc ws is a m):x∈Uc ws is a m:=by
 induction r with
 |refl=>exact h
 |step _ s b=>exact Z0 S b s
theorem MT(S:Shp ws is a m)(h:∀c∈cs,c∈Uc ws is a m)(b:x∈clo cs):x∈Uc ws is a m:=by
 obtain⟨c,d,e⟩:=mem_clo.mp b;exact Zz S (rch_iff.mp e) (h c d)
end
structure Fit(cs U:List Cs):Prop where
 nd:cs.Nodup
 sub:∀x∈clo cs,x∈U
 few:U.length<900
 len:∀x∈U,x.2.2.length<=3
theorem Zi(S:Shp b is a m)(d:cs.Nodup)(h:∀c∈cs,c∈Uc b is a m):Fit cs (Uc b is a m) where
 nd:=d
 sub:=λx=>MT S h
 few:=Nat.lt_of_le_of_lt (Z1 b is a m) S.few
 len:=λx e=>by rw[Lf (mem_Uc.mp e).1];exact S.len
theorem Fit.many(F:Fit cs U):cs.length<=900:=by
 have:=CB F.nd λx a=>F.sub x (mem_clo.mpr ⟨x,a,Gs x⟩);have:=F.few;lia
structure St(ws:List Int)(is:List Bool)(a:Int)(m:Option Int)(cs:List Cs):Prop where
 S:Shp ws is a m
 nd:cs.Nodup
 sub:∀c∈cs,c∈Uc ws is a m
section
variable{ws:List Int}{is:List Bool}{a b v:Int}{m:Option Int}{cs:List Cs}{r:Nat}
theorem St.fit(h:St ws is a m cs):Fit cs (Uc ws is a m):=Zi h.S h.nd h.sub
theorem St.many(h:St ws is a m cs):cs.length<=900:=h.fit.many
theorem St.tl(h:St ws is a m cs)(d:c∈cs):c.2.2∈tlU ws is:=(mem_Uc.mp (h.sub c d)).1
theorem St.len(h:St ws is a m cs)(d:c∈cs):c.2.2.length=is.length:=Lf (h.tl d)
theorem St.clo(h:St ws is a m cs)(k:Cl1 cs K):St ws is a m K:=⟨h.S,k.nd,λc d=>MT h.S h.sub ((k.mem c).mp d)⟩
theorem St.wb(h:St ws is a none cs)(l:v∈ws):St ws is a (some v) (cs.map (KB v)):=by
 refine⟨⟨h.S.pos,h.S.ha,by simp_all,h.S.len,h.S.few⟩,Wb.nodup_map_on (λx d y g z=>?_) h.nd,λc i=>?_⟩
 ·have e:=(mem_Uc.mp (h.sub x d)).2.2;have f:=(mem_Uc.mp (h.sub y g)).2.2;obtain⟨n,o,p⟩:=x;obtain⟨q,s,t⟩:=y;simp only[KB,Prod.mk.injEq] at z e f ⊢;exact⟨z.1,e.trans f.symm,z.2.2⟩
 ·obtain⟨x,d,rfl⟩:=AAL.mp i;obtain⟨j,k,_⟩:=mem_Uc.mp (h.sub x d);exact mem_Uc.mpr ⟨j,.inl ⟨k,rfl⟩⟩
theorem St.we(h:St ws is a (some b) cs):St ws is b none (cs.filterMap HB):=by
 refine⟨⟨h.S.pos,h.S.hm b rfl,by simp_all,h.S.len,h.S.few⟩,Wb.nodup_fm_on (λx d y l z f g=>?_) h.nd,λc i=>?_⟩
 ·obtain⟨j,n⟩:=D1 f;obtain⟨o,p⟩:=D1 g
  grind
 ·obtain⟨x,d,e⟩:=List.mem_filterMap.mp i;obtain⟨j,rfl⟩:=D1 e;obtain⟨k,q⟩:=mem_Uc.mp (h.sub x d);refine mem_Uc.mpr ⟨k,?_,rfl⟩;have s:=h.S.pos b (h.S.hm b rfl)
  grind
theorem St.get(h:St ws is a m cs)(d:c∈cs)(e:is[r]?=some o):∃v,c.2.2[r]?=some v/\(if o then v=-1 else v=-2∨v∈ws):=N6 (h.tl d) e
theorem St.rb(h:St ws is a m cs)(e:is[r]?=some true):St ws (is.set r false) a m (cs.map (GI r)):=by
 refine⟨⟨h.S.pos,h.S.ha,h.S.hm,by rw[AAu];exact h.S.len,by rw[AAu];exact h.S.few⟩,Wb.nodup_map_on (λx d y i z=>?_) h.nd,λc j=>?_⟩
 ·obtain⟨p,f,k⟩:=h.get d e;obtain⟨q,g,l⟩:=h.get i e;subst k l;obtain⟨s,t,u⟩:=x;obtain⟨w,A,B⟩:=y;simp[GI] at z f g ⊢;exact⟨z.1,z.2.1,Lm (b:=0) f g z.2.2⟩
 ·obtain⟨x,d,rfl⟩:=AAL.mp j;obtain⟨n,o⟩:=mem_Uc.mp (h.sub x d);exact mem_Uc.mpr ⟨Le n (.inl rfl),o⟩
theorem St.re(h:St ws is a m cs):St ws (is.set r true) a m (cs.filterMap (FJ r v)):=by
 refine⟨⟨h.S.pos,h.S.ha,h.S.hm,by rw[AAu];exact h.S.len,by rw[AAu];exact h.S.few⟩,Wb.nodup_fm_on (λx f y q z i j=>?_) h.nd,λc k=>?_⟩
 ·obtain⟨d,l⟩:=D2 i;obtain⟨g,n⟩:=D2 j;have z:=l.symm.trans n;obtain⟨s,t,u⟩:=x;obtain⟨w,A,B⟩:=y;simp at z d g ⊢;exact⟨z.1,z.2.1,Lm (b:=0) d g z.2.2⟩
 ·obtain⟨x,f,e⟩:=List.mem_filterMap.mp k;obtain⟨d,rfl⟩:=D2 e;obtain⟨o,p⟩:=mem_Uc.mp (h.sub x f);exact mem_Uc.mpr ⟨Le o rfl,p⟩
end
section
variable{Z:Mh}
theorem Qm{cs U:List Cs}(k:cs.Nodup)(f:∀x∈clo cs,x∈U)(o:U.length<900)(l:∀x∈clo cs,x.2.2.length<=100):∃K:List Cs,K.Nodup/\(∀x,x∈K↔x∈clo cs)/\K.Pairwise (λx y=>cLt x y=true)/\∀Z:Mh,B6 [.lst (cs.map csD)] Z=some (.tup (K.map csD),Z):=by
 have a:∀Z ,∃K:List Cs,K.Nodup/\(∀x,x∈K↔x∈clo cs)/\K.Pairwise (λx y=>cLt x y=true)/\B6 [.lst (cs.map csD)] Z=some (.tup (K.map csD),Z):=λZ=>by
  obtain⟨W,g,w,_,_,e⟩:=F0 k f (by lia) l;have m:W.length<1000:=by
   have:=CB w.nd λx n=>f x (w.frm x n);simp at this;lia
  refine⟨Li (W.map (·.1)),(Dz _).nodup_iff.mpr w.nd,λx=>by rw[(Dz _).mem_iff];exact w.done,Lh w.nd,Ac (g:=.dC W::.lst []::g) (x3:=[some (.lst (cs.map csD))]) (C6 (Bi (EL (x:=.lst ((Li (W.map (·.1))).map csD)) (w5:=wH Z W [] g) (Bi (EL (Bi rfl e) rfl) ?_) rfl) rfl)) rfl (A7 (ER _) _)⟩;show bnd (GJ (.ref Z.length)) _ _=_;rw[AM (Ds gA)];rw[if_pos m]
 obtain⟨K,h,i,j,_⟩:=a [];refine⟨K,h,i,j,λZ=>?_⟩;obtain⟨p,b,c,d,e⟩:=a Z;have  := SQ d j ((List.perm_ext_iff_of_nodup b h).mpr λx=>(c x).trans (i x).symm);rw[this] at e;exact e
end
theorem D4{Z:Mh}(F:Fit cs U)(q:∀K,Cl1 cs K->QD (.tup (K.map csD)) Z):WP (B6 [.lst (cs.map csD)]) Z QD:=by
 obtain⟨K,a,b,c,d⟩:=Qm F.nd F.sub F.few λx e=>by have:=F.len x (F.sub x e);lia
 exact BQ (d Z) (q K ⟨a,b,c⟩)
section
variable{Z:Mh}{QD:D->Mh->Prop}{sz bg v:Int}{hs:List D}{cs U:List Cs}{r:Nat}
theorem Nt(a:cs.length<=900)(F:Fit (cs.filterMap HB) U)(q:∀K,Cl1 (cs.filterMap HB) K->QD (clD K) Z):WP (A9 [mwD sz bg hs,clD cs]) Z QD:=by
 refine C0 rfl ?_;unfold Au;wtm_at "c";refine Iw ?_;wtm_at "c";refine BQ (K16.v_csEnd (by lia) λc _ Z=>K16.v_ceW) ?_;wtm_at "c";exact D4 F λK k=>⟨_,_,[],rfl,by simp,FR _ _,q K k⟩
theorem VH(g:cs.length<=900)(d:∀c∈cs,r<c.2.2.length)(e:∀c∈cs,c.2.2.length<=3)(F:Fit (JC cs r v) U)(f:JC cs r v=[]->QD .non Z)(q:JC cs r v≠[]->∀K,Cl1 (JC cs r v) K->QD (clD K) Z):WP (Bh [mwD sz bg hs,clD cs,.int r,.int v]) Z QD:=by
 refine C0 rfl ?_;unfold BM;wtm_at "c";refine Iw ?_;wtm_at "c";refine BQ (K16.v_csEnd (by lia) λc b Z=>K16.v_ceR (d c b) (by have:=e c b;lia)) ?_;wtm_at "c";(with_reducible apply R8);refine BQ (a:=!(JC cs r v).isEmpty) (Z':=Z) ?_ ⟨λh=>?_,λh=>?_⟩
 ·unfold JC Jc;cases cs.filterMap (FJ r v)<;>rfl
 ·wtm_at "c";exact D4 F λK k=>⟨_,_,[],rfl,by simp,FR _ _,q (by simp_all) K k⟩
 ·wtm_at "c";exact⟨_,_,[],rfl,by simp,by unfold Cl;trivial,f (by simpa using h)⟩
end
end K15
set_option maxHeartbeats 2000000
namespace Xt
open PySem PySem.Spec PyProof.Rows Sem L2 Ht
section
variable{s:Shared}
set_option hygiene false in
end
end Xt
set_option maxHeartbeats 2000000
set_option maxHeartbeats 2000000
set_option maxHeartbeats 2000000
set_option maxHeartbeats 2000000
namespace Mi
open PySem L2
theorem YA(h:0<=j/\j<=1000000/\i.natAbs<2 ^ 64)(q:QD (.int (i ^ j.toNat)) Z):WP (M6 (.int i) (.int j)) Z QD:=BQ (if_pos h) q
theorem YJ(I:Nat->Sl->Mh->Prop)(step:∀(j:Nat) B Z,j<m->I j B Z->WP (bf (.int (j:Int)) B) Z λx5 w5=>WP (n x5) w5 (Kx (I (j+1)) k))(b:∀B Z,I m B Z->k (.next,B) Z)(h:I 0 B Z):WP (B5 bf n ((List.range m).map λ(i:Nat)=>D.int (i:Int)) B) Z k:=by
 refine Ix (I:=λc B Z=>∃j,j<=m/\c=(List.range' j (m-j)).map _/\I j B Z) ?_ ?_ ⟨0,AAi _,by rw[Nat.sub_zero,←List.range_eq_range'],h⟩
 ·rintro x s B Z ⟨j,o,e,f⟩;have a:j<m:=by
   rcases Nat.lt_or_ge j m with z|z
   ·exact z
   simp_all
  rw[show m-j=m-(j+1)+1 by lia] at e;obtain⟨p,l⟩:=List.cons.inj e;subst p;refine Ak (step j B Z a f) λx5 w5 z=>Ak z λr t d=>?_;obtain⟨q,u⟩:=r;cases q
  ·exact⟨j+1,a,l,d⟩
  ·exact d
  ·exact⟨j+1,a,l,d⟩
  ·exact d
  ·exact d
 ·rintro B Z ⟨j,o,e,f⟩;have g:j=m:=by
   have:=congrArg List.length e;simp at this;lia
  subst g;exact b B Z f
section
variable{B:Sl}{Z:Mh}{x y:D}{ds:List D}{ma mb:Sl->M D}{QD:D->Mh->Prop}{QB:Bool->Mh->Prop}{i j:Int}
theorem VD{x y:Str}(a:PyData.strOk x=true)(b:PyData.strOk y=true)(h:(x==y)=true)(q:QD (.bl true) Z):WP (Af (.str x) (.str y)) Z QD:=Nv a b (by rw[h];exact q)
theorem VE{x y:Str}(a:PyData.strOk x=true)(b:PyData.strOk y=true)(h:(x==y)=false)(q:QD (.bl false) Z):WP (Af (.str x) (.str y)) Z QD:=Nv a b (by rw[h];exact q)
theorem Rx(h:i=j)(q:QD (.bl true) Z):WP (Af (.int i) (.int j)) Z QD:=Nw (by rw[beq_iff_eq.mpr h];exact q)
theorem Ry(h:i≠j)(q:QD (.bl false) Z):WP (Af (.int i) (.int j)) Z QD:=Nw (by rw[AAd.mpr h];exact q)
theorem VA(h:i<j)(q:QD (.bl true) Z):WP (IS (.int i) (.int j)) Z QD:=R9 (by rw[AAO h];exact q)
theorem VB(h:¬i<j)(q:QD (.bl false) Z):WP (IS (.int i) (.int j)) Z QD:=R9 (by rw[AAN h];exact q)
theorem Rw(q:QD (.bl true) Z):WP (CA false .non .non) Z QD:=⟨_,Z,rfl,q⟩
theorem VC(q:QD (.bl b) Z):WP (CA b (.tup ds) .non) Z QD:=by cases b<;>exact⟨_,Z,rfl,q⟩
theorem Rz(h:WP m Z QB):XC m QB true Z:=h
theorem R6(h:QB false Z):XC m QB false Z:=h
noncomputable def ZK(a b:M D)(QD:D->Mh->Prop):Bool->Mh->Prop
 |true,Z=>WP a Z QD
 |false,Z=>WP b Z QD
theorem U9(h:WP (mc B) Z (ZK (ma B) (mb B) QD)):WP (mIf mc ma mb B) Z QD:=R8 (Ak h λb _ z=>by cases b;exact⟨λe=>(nomatch e),λ_=>z⟩;exact⟨λ_=>z,λe=>nomatch e⟩)
theorem Ru(h:WP a Z QD):ZK a b QD true Z:=h
theorem Rv(h:WP a Z QD):ZK b a QD false Z:=h
end
end Mi
local macro_rules | `(tactic| wtm_at "g")=>`(tactic| (decide +kernel))
local macro_rules | `(tactic| wtm_at "e")=>`(tactic| first|lia|(focus (simp;done)))
local macro_rules | `(tactic| wtm_at "p")=>`(tactic| first
 |((with_reducible apply Mi.VE);(wtm_at "g");(wtm_at "g");(wtm_at "g"))|((with_reducible apply Mi.VD);(wtm_at "g");(wtm_at "g");(wtm_at "g"))|((with_reducible apply Mi.wqa_neT);(wtm_at "g");(wtm_at "g");(wtm_at "g"))|((with_reducible apply Mi.wqa_neF);(wtm_at "g");(wtm_at "g");(wtm_at "g"))
 |((with_reducible apply Mi.Rx);(wtm_at "e"))|((with_reducible apply Mi.Ry);(wtm_at "e"))|((with_reducible apply Mi.wqa_neIT);(wtm_at "e"))|((with_reducible apply Mi.wqa_neIF);(wtm_at "e"))|((with_reducible apply Mi.VA);(wtm_at "e"))|((with_reducible apply Mi.VB);(wtm_at "e"))|((with_reducible apply Mi.wqa_gtT);(wtm_at "e"))|((with_reducible apply Mi.wqa_gtF);(wtm_at "e"))|((with_reducible apply Mi.wqa_geT);(wtm_at "e"))|((with_reducible apply Mi.wqa_geF);(wtm_at "e"))|((with_reducible apply Mi.wqa_leT);(wtm_at "e"))
 |(with_reducible apply Mi.Rw)|(with_reducible apply Mi.wqa_isNt)|(with_reducible apply Mi.wqa_isI)|(with_reducible apply Mi.VC)|(with_reducible apply Mi.Rz)|(with_reducible apply Mi.R6)|(with_reducible apply Mi.wqa_orT)|(with_reducible apply Mi.wqa_orF)|(with_reducible apply Mi.U9)|(with_reducible apply Mi.Ru)|(with_reducible apply Mi.Rv)|(with_reducible apply Mi.wqa_andV)|(with_reducible apply Mi.wqa_andVT)|(with_reducible apply Mi.wqa_andVF)|(with_reducible apply Mi.wqa_orV)|(with_reducible apply Mi.wqa_orVT)|(with_reducible apply Mi.wqa_orVF)|(with_reducible apply Mi.wqa_chain)
 |wtm_at "o")
local macro_rules | `(tactic| wtm_at "f")=>`(tactic| repeat wtm_at "p")
namespace K15
open PySem L2 Mi Nk Wb Ht
open K13 (Ev Ev.beg Ev.hand Ev.val BH bS evD hdD Ns nm wfG BP A7 Ai Ao Gf)
open K16 (Aj CC mkK mkW S0)
open K12 (Cl1 clD JC mwD FR)
structure Bz(G:Nat->Bool)(is:List Bool)(mm:Option Int):Prop where
 w:mm.isSome=G 0
 r:∀r,r<is.length->is[r]?=some (!G (r+1))
section
variable{cs S:List Cs}
theorem Ir(e:Ev)(h:∀x,x∈cs↔x∈S)(k:Cl1 (pre cs e) K):∀x,x∈K↔x∈clo (pre S e):=λx=>(k.mem x).trans (Wz (Ly h e) x)
end
end K15
namespace K15
open Nk Wb
open K13 (Ev Ev.beg Ev.hand Ev.val wfG)
def Cld(S:List Cs):Prop:=∀x∈S,∀y∈nxt x,y∈S
theorem Iq(S:List Cs):Cld (clo S):=λx a y b=>by
 obtain⟨c,d,h⟩:=mem_clo.mp a;exact mem_clo.mpr ⟨c,d,Lr h b⟩
theorem in_clo(a:x∈S)(r:Rch x y):y∈clo S:=mem_clo.mpr ⟨x,a,rch_iff.mpr r⟩
theorem JX(h:y∈clo S):∃x∈S,Rch x y:=by
 obtain⟨c,a,r⟩:=mem_clo.mp h;exact⟨c,a,rch_iff.mp r⟩
noncomputable def one(e:Ev)(x:Cs):Option Cs:=match e with
 | .wb v=>some (KB v x)
 | .we=>HB x
 | .rb r=>some (GI r x)
 | .re r v=>FJ r v x
theorem mem_one:y∈pre S e↔∃x∈S,one e x=some y:=by
 cases e<;>simp[pre,one]
theorem not_gone:Jn S e=false↔((∃r v,e=.re r v)->∃x∈S,∃y,one e x=some y):=by
 cases e with
 |re r v=>
  show (S.filterMap (FJ r v)).isEmpty=false↔_;constructor
  ·intro h _;cases a:S.filterMap (FJ r v) with
   |nil=>rw[a] at h;cases h
   |cons y l=>
    obtain⟨x,b,e⟩:=List.mem_filterMap.mp (by rw[a];exact AAP);exact⟨x,b,y,e⟩
  ·intro h;obtain⟨x,b,y,e⟩:=h ⟨r,v,rfl⟩;cases a:S.filterMap (FJ r v) with
   |nil=>
    have:y∈S.filterMap (FJ r v):=List.mem_filterMap.mpr ⟨x,b,e⟩;rw[a] at this;cases this
   |cons _ _=>rfl
 |_=>exact⟨by grind,λ_=>rfl⟩
theorem F8:Ga S (e::es)=true↔Jn S e=false/\Ga (clo (pre S e)) es=true:=by
 show (if Jn S e=true then false else _)=true↔_
 simp_all
open Ht
abbrev In(sz:Int)(x:Int):Prop:=0<=x/\x<sz
end K15
namespace K15
open PySem Nk Wb Ht
open K13 (Ev Ev.beg Ev.hand Ev.val wfG Ns wf_app gA G0)
open K16 (S0)
variable{sz bg:Int}{m:Nat}
theorem cld_start:Cld (S0 bg m):=λx b y a=>by
 rw[AAK.mp b] at a;rcases mem_nxt.mp a with ⟨d,_⟩|⟨i,c,_⟩
 ·simp_all
 ·rw[List.getElem?_replicate] at c
  simp_all
noncomputable def wz:List Ev->List Int
 |[]=>[]
 | .wb v::a=>v::wz a
 |_::a=>wz a
theorem mem_wz:∀{es:List Ev},v∈wz es↔Ev.wb v∈es
 |[]=>by simp[wz]
 |e::es=>by
  have a:=mem_wz (v:=v) (es:=es);cases e<;>simp[wz,a]
theorem Rt:∀{es:List Ev} {G:Nat->Bool},wfG G es->2 * (wz es).length<=es.length+(if G 0 then 0 else 1)
 |[],G,_=>by simp[wz]
 |e::es,G,h=>by
  obtain⟨b,c⟩:=h;have a:=Rt c;cases e with
  |wb v=>
   have b:G 0=false:=b;have a:2 * (wz es).length<=es.length+0:=a;rw[b];show 2 * (v::wz es).length<=(_::es).length+1
   grind
  |we=>
   have b:G 0=true:=b;have a:2 * (wz es).length<=es.length+1:=a;rw[b];show 2 * (wz es).length<=(_::es).length+0;omega
  |rb r=>
   have a:2 * (wz es).length<=es.length+if G 0 then 0 else 1:=a
   show 2 * (wz es).length<=(_::es).length+_
   grind
  |re r v=>
   have a:2 * (wz es).length<=es.length+(if G 0 then 0 else 1):=a;show 2 * (wz es).length<=(_::es).length+_;rw[AAH]
   grind
structure Gd(ns:List Str)(sz bg:Int)(es:List Ev):Prop where
 N:Ns ns
 h0:2<=sz
 h1:sz<=10
 b0:0<=bg
 b1:bg<sz
 wf:wfG (λ_=>false) es
 ok:∀e∈es,e.Ok ns sz
 l1:es.length<=16
 l2:ns.length=4->es.length<=10
section
variable{ns:List Str}{es:List Ev}
theorem Gd.hv(h:Gd ns sz bg es):∀e∈es,∀v,e.val=some v->In sz v:=λe a=>(h.ok e a).v
theorem Gd.pre(h:Gd ns sz bg es)(i:Nat):Gd ns sz bg (es.take i):=⟨h.N,h.h0,h.h1,h.b0,h.b1,by
  have:=h.wf;rw[←List.take_append_drop i es] at this;exact(wf_app.mp this).1,λe a=>h.ok e (List.mem_of_mem_take a),by rw[List.length_take];have:=h.l1;lia,λz=>by rw[List.length_take];have:=h.l2 z;lia⟩
theorem OK{a b:Nat}(h:a<=b):∀k,a ^ k<=b ^ k
 |0=>AAE _
 |k+1=>Nat.mul_le_mul (OK h k) h
theorem Gd.shp(h:Gd ns sz bg es):Shp (bg::wz es) (List.replicate (ns.length-1) true) bg none where
 pos:=λw c=>by
  rcases AAI.mp c with rfl|c
  ·exact h.b0
  ·exact(h.hv _ (mem_wz.mp c) w rfl).1
 ha:=AAP
 hm:=λb z=>by cases z
 len:=by rw[AAl];have:=h.N.hi;lia
 few:=by
  have w:=Rt h.wf;have w:2 * (wz es).length<=es.length+1:=w;have a:=h.l1;have d:=h.N.hi;have e:=h.N.lo;rw[AAl,AAH];by_cases z:ns.length=4
  ·have b:=h.l2 z;have:=OK (show 1+((wz es).length+1)<=7 by grind) 3;rw[z];show 2 * _ ^ 3<900;lia
  ·have q:ns.length-1=1∨ns.length-1=2:=by grind
   have t:=show 1+((wz es).length+1)<=10 by lia
   rcases q with q|q<;>rw[q]
   ·grind
   ·have:=OK t 2;lia
end
end K15
namespace K93
open Nk Wb
open K13 (Ev Ev.beg Ev.hand Ev.val wfG)
open K15 (one Cld mem_one in_clo JX Iq not_gone F8)
noncomputable def upd{α:Type}(f:Nat->α)(a:Nat)(x:α):Nat->α:=λi=>if i=a then x else f i
theorem upd_self:upd f a x a=x:=if_pos rfl
theorem upd_ne(h:b≠a):upd f a x b=f b:=if_neg h
structure Tk where
 n:Nat
 op:Nat->Option Nat
 wv:Nat->Option (Option Int)
 fn:Nat->Option (Nat×Int)
noncomputable def Tk.ends(T:Tk)(h:Nat)(v:Int):Nat->Option (Nat×Int):=match T.op h with
 |some b=>upd T.fn b (some (T.n,v))
 |none=>T.fn
noncomputable def Tk.step(T:Tk):Ev->Tk
 | .wb v=>⟨T.n+1,upd T.op 0 (some T.n),upd T.wv T.n (some (some v)),T.fn⟩
 | .we=>⟨T.n+1,upd T.op 0 none,T.wv,T.ends 0 (-1)⟩
 | .rb r=>⟨T.n+1,upd T.op (r+1) (some T.n),upd T.wv T.n (some none),T.fn⟩
 | .re r v=>⟨T.n+1,upd T.op (r+1) none,T.wv,T.ends (r+1) v⟩
noncomputable def T0:Tk:=⟨0,λ_=>none,λ_=>none,λ_=>none⟩
structure Tk.Ok(T:Tk):Prop where
 lt:∀b,T.wv b≠none->b<T.n
 op:∀h b,T.op h=some b->T.fn b=none/\((h=0/\∃v,0<=v/\T.wv b=some (some v))∨(0<h/\T.wv b=some none))
 inj:∀h k b,T.op h=some b->T.op k=some b->h=k
 fn:∀b p v,T.fn b=some (p,v)->p<T.n/\T.wv b≠none
 go:∀b,T.wv b≠none->T.fn b=none->∃h,T.op h=some b
 pos:∀b v,T.wv b=some (some v)->0<=v
theorem ok0:T0.Ok:=⟨λ_=>absurd rfl,(λ_ _ h=>by cases h),(λ_ _ _ h=>by cases h),(λ_ _ _ h=>by cases h),λ_=>absurd rfl,λ_ _ h=>by cases h⟩
def Bs(G:Nat->Bool)(T:Tk):Prop:=∀h,G h=(T.op h).isSome
theorem Tj{T:Tk}(o:T.Ok)(g:T.op h=none)(k:(h=0/\∃v,0<=v/\w=some v)∨(0<h/\w=none)):Tk.Ok ⟨T.n+1,upd T.op h (some T.n),upd T.wv T.n (some w),T.fn⟩ where
 lt:=λb z=>by
  have z:upd T.wv T.n (some w) b≠none:=z;show b<T.n+1;by_cases e:b=T.n
  ·lia
  ·rw[upd_ne e] at z;have:=o.lt b z;lia
 op:=λj b z=>by
  have z:upd T.op h (some T.n) j=some b:=z;show T.fn b=none/\((j=0/\∃v,0<=v/\upd T.wv T.n (some w) b=some (some v))∨(0<j/\upd T.wv T.n (some w) b=some none));by_cases e:j=h
  ·subst e;rw[upd_self] at z;cases z;rw[upd_self];refine⟨?_,?_⟩
   ·cases q:T.fn T.n with
    |none=>rfl
    |some p=>
     have:=o.lt _ (o.fn T.n p.1 p.2 q).2;lia
   simp_all
  ·rw[upd_ne e] at z;have q:=o.op j b z;have d:b≠T.n:=λy=>by
    have:T.wv b≠none:=by
     rcases q.2 with ⟨_,v,_,y⟩|⟨_,y⟩<;>rw[y]<;>exact(λz=>by cases z)
    have:=o.lt b this;lia
   rw[upd_ne d];exact q
 inj:=λj k b y z=>by
  have l:∀i,T.op i≠some T.n:=λi y=>by
   have q:=(o.op i _ y).2;have:T.wv T.n≠none:=by
    rcases q with ⟨_,v,_,y⟩|⟨_,y⟩<;>rw[y]<;>exact(λz=>by cases z)
   have:=o.lt _ this;lia
  have y:upd T.op h (some T.n) j=some b:=y;have z:upd T.op h (some T.n) k=some b:=z;by_cases c:j=h
  ·by_cases a:k=h
   ·rw[c,a]
   ·rw[c,upd_self] at y;rw[upd_ne a] at z
    simp_all
  ·by_cases a:k=h
   ·rw[a,upd_self] at z;rw[upd_ne c] at y
    simp_all
   ·rw[upd_ne c] at y;rw[upd_ne a] at z;exact o.inj j k b y z
 fn:=λb p v z=>by
  obtain⟨m,f⟩:=o.fn b p v z;refine⟨by show p<T.n+1;lia,?_⟩;show upd T.wv T.n (some w) b≠none;have:=o.lt b f;rw[upd_ne (by lia)];exact f
 go:=λb y z=>by
  have y:upd T.wv T.n (some w) b≠none:=y;by_cases e:b=T.n
  ·exact⟨h,by show upd T.op h (some T.n) h=_;rw[upd_self,e]⟩
  ·rw[upd_ne e] at y;obtain⟨j,q⟩:=o.go b y z;have d:j≠h:=λe=>by rw[e,g] at q;cases q
   exact⟨j,by show upd T.op h (some T.n) j=_;rw[upd_ne d];exact q⟩
 pos:=λb v z=>by
  have z:upd T.wv T.n (some w) b=some (some v):=z;by_cases e:b=T.n
  ·rw[e,upd_self] at z
   simp_all
  ·rw[upd_ne e] at z;exact o.pos b v z
theorem DJ{T:Tk}(a:T.op h=some b):T.ends h v=upd T.fn b (some (T.n,v)):=by unfold Tk.ends;rw[a]
theorem Ti{T:Tk}(o:T.Ok)(a:T.op h=some b):Tk.Ok ⟨T.n+1,upd T.op h none,T.wv,upd T.fn b (some (T.n,u))⟩ where
 lt:=λc z=>by have:=o.lt c z;show c<T.n+1;lia
 op:=λj c z=>by
  have z:upd T.op h none j=some c:=z;by_cases e:j=h
  ·rw[e,upd_self] at z;cases z
  ·rw[upd_ne e] at z;have q:=o.op j c z;have d:c≠b:=λy=>e (o.inj j h c z (by rw[y];exact a));refine⟨?_,q.2⟩;show upd T.fn b _ c=none;rw[upd_ne d];exact q.1
 inj:=λj k c y z=>by
  have y:upd T.op h none j=some c:=y;have z:upd T.op h none k=some c:=z;by_cases f:j=h
  ·rw[f,upd_self] at y;cases y
  ·by_cases g:k=h
   ·rw[g,upd_self] at z;cases z
   ·rw[upd_ne f] at y;rw[upd_ne g] at z;exact o.inj j k c y z
 fn:=λc p v z=>by
  have z:upd T.fn b (some (T.n,u)) c=some (p,v):=z;show p<T.n+1/\_;by_cases e:c=b
  ·rw[e,upd_self] at z;cases z;refine⟨Nat.lt_succ_self _,?_⟩;show T.wv c≠none;rw[e];rcases(o.op h b a).2 with ⟨_,v,_,y⟩|⟨_,y⟩<;>rw[y]<;>exact λz=>by cases z
  ·rw[upd_ne e] at z;have:=o.fn c p v z;exact⟨by lia,this.2⟩
 go:=λc y z=>by
  have z:upd T.fn b (some (T.n,u)) c=none:=z;by_cases e:c=b
  ·rw[e,upd_self] at z;cases z
  ·rw[upd_ne e] at z;obtain⟨j,q⟩:=o.go c y z;have d:j≠h:=λy=>e (by rw[y,a] at q;cases q;rfl);exact⟨j,by show upd T.op h none j=_;rw[upd_ne d];exact q⟩
 pos:=o.pos
theorem DC{T:Tk}(o:T.Ok)(bs:Bs G T)(d:G e.hand=!e.beg)(k:∀v,e.val=some v->0<=v):(T.step e).Ok/\Bs (λx=>if x=e.hand then e.beg else G x) (T.step e):=by
 have g:∀{h},G h=false->T.op h=none:=λ{h} z=>by
  have:=bs h
  simp_all
 have i:∀{h},G h=true->∃b,T.op h=some b:=λ{h} z=>by
  have:=bs h;rw[z] at this;cases q:T.op h with
  |none=>simp_all
  |some b=>exact⟨b,rfl⟩
 have f:∀h x c,x.isSome=c->∀j,(if j=h then c else G j)=(upd T.op h x j).isSome:=λh x c l j=>by
  by_cases e:j=h
  ·rw[if_pos e,e,upd_self,l]
  ·rw[if_neg e,upd_ne e];exact bs j
 cases e with
 |wb v=>exact⟨Tj o (g d) (.inl ⟨rfl,v,k v rfl,rfl⟩),f 0 _ _ rfl⟩
 |rb r=>exact⟨Tj o (g d) (.inr ⟨Nat.succ_pos r,rfl⟩),f (r+1) _ _ rfl⟩
 |we=>
  obtain⟨b,a⟩:∃b,T.op 0=some b:=i d;refine⟨?_,f 0 _ _ rfl⟩;show Tk.Ok ⟨_,_,_,T.ends 0 (-1)⟩;rw[DJ a];exact Ti o a
 |re r v=>
  obtain⟨b,a⟩:∃b,T.op (r+1)=some b:=i d;refine⟨?_,f (r+1) _ _ rfl⟩;show Tk.Ok ⟨_,_,_,T.ends (r+1) v⟩;rw[DJ a];exact Ti o a
noncomputable abbrev Od:=List (Nat×Int)
noncomputable def IH(w:Int)(o:Od):Int:=o.foldl (λ_ p=>p.2) w
theorem K1:IH w (o++[p])=p.2:=by unfold IH;simp_all
noncomputable def chn(T:Tk):Int->Od->Prop
 |_,[]=>True
 |w,p::o=>p.2=((T.wv p.1).bind id).getD w/\chn T p.2 o
theorem chn_app:∀{o q:Od} {w:Int},chn T w (o++q)↔chn T w o/\chn T (IH w o) q
 |[],q,w=>⟨λh=>⟨trivial,h⟩,λh=>h.2⟩
 |p::o,q,w=>by
  have a:=chn_app (T:=T) (o:=o) (q:=q) (w:=p.2);show _/\chn T p.2 (o++q)↔(_/\chn T p.2 o)/\chn T (IH p.2 o) q;rw[a,and_assoc]
structure V0(T:Tk)(bg:Int)(o:Od):Prop where
 nd:(o.map Prod.fst).Nodup
 be:∀p∈o,T.wv p.1≠none
 ch:chn T bg o
 tl:∀b u p v,(b,u)∈o->T.fn b=some (p,v)->T.wv b=some none->u=v
 od:o.Pairwise λi j=>∀p v,T.fn j.1=some (p,v)->i.1<=p
structure V(T:Tk)(bg:Int)(o:Od):Prop extends V0 T bg o where
 all:∀b,T.fn b≠none->∃u,(b,u)∈o
theorem V0.left(h:V0 T bg (o++q)):V0 T bg o where
 nd:=by have:=h.nd;rw[AAX,List.nodup_append] at this;exact this.1
 be:=λp a=>h.be p (AAa _ a)
 ch:=(chn_app.mp h.ch).1
 tl:=λb u p v c=>h.tl b u p v (AAa _ c)
 od:=(List.pairwise_append.mp h.od).1
theorem V0.one(h:V0 T bg o)(e:(b,u)∈o)(f:(b,v)∈o):u=v:=by
 have nd:=h.nd;clear h
 induction o with
 |nil=>cases e
 |cons p o g=>
  rw[AAW,List.nodup_cons] at nd;rcases AAI.mp e with c|c
  ·rcases AAI.mp f with a|a
   ·rw[←c] at a;cases a;rfl
   ·exact absurd (AAL.mpr ⟨_,a,rfl⟩) (by rw[←c] at nd;exact nd.1)
  ·rcases AAI.mp f with a|a
   ·exact absurd (AAL.mpr ⟨_,c,rfl⟩) (by rw[←a] at nd;exact nd.1)
   ·exact g c a nd.2
theorem Iu(o:T.Ok):∀{q:Od} {w:Int},0<=w->chn T w q->(∀p∈q,0<=p.2)/\0<=IH w q
 |[],w,h,_=>⟨(λ_ z=>by cases z),h⟩
 |p::q,w,h,c=>by
  obtain⟨f,g⟩:=c;have d:0<=p.2:=by
   rw[f];cases e:T.wv p.1 with
   |none=>exact h
   |some x=>
    cases x with
    |none=>exact h
    |some v=>exact o.pos _ _ e
  obtain⟨a,b⟩:=Iu o d g;exact⟨λx i=>(AAI.mp i).elim (λz=>by rw[z];exact d) (a x),b⟩
structure Rp(T:Tk)(bg:Int)(m:Nat)(o:Od)(x:Cs):Prop where
 v:x.1=IH bg o
 w0:T.op 0=none->x.2.1=-1
 w1:∀b u,T.op 0=some b->(b,u)∈o->x.2.1=-2
 w2:∀b,T.op 0=some b->(∀u,(b,u)∉o)->T.wv b=some (some x.2.1)
 n:x.2.2.length=m
 r0:∀r,r<m->T.op (r+1)=none->x.2.2[r]?=some (-1)
 r1:∀r b u,r<m->T.op (r+1)=some b->(b,u)∈o->x.2.2[r]?=some u
 r2:∀r b,r<m->T.op (r+1)=some b->(∀u,(b,u)∉o)->x.2.2[r]?=some (-2)
variable{T:Tk}{bg:Int}{m:Nat}{o q:Od}{x y:Cs}
theorem Pu(a:T.Ok)(h:V0 T bg o)(u:Int):(T.n,u)∉o:=λz=>by
 have:=a.lt _ (h.be _ z)
 simp_all
theorem Es:∀{o:Od} {w:Int},(∀p∈o,a.wv p.1=T.wv p.1)->chn T w o->chn a w o
 |[],_,_,_=>trivial
 |p::o,w,h,c=>⟨by rw[h p AAP];exact c.1,Es (λx b=>h x (AAQ _ b)) c.2⟩
theorem XM(g:T.Ok)(h:V T bg o):V ⟨T.n+1,f,upd T.wv T.n (some w),T.fn⟩ bg o:=by
 have a:∀p∈o,upd T.wv T.n (some w) p.1=T.wv p.1:=λp c=>upd_ne (AAc (g.lt _ (h.be p c)));exact⟨⟨h.nd,λp c=>by show upd T.wv T.n (some w) p.1≠none;rw[a p c];exact h.be p c,Es a h.ch,λb u p v d e z=>h.tl b u p v d e (by have:=a _ d;rw[←this];exact z),h.od⟩,h.all⟩
theorem PV(g:T.Ok)(h:V T bg o)(a:(b,w)∈o)(k:T.wv b=some none->w=u):V ⟨T.n+1,f,T.wv,upd T.fn b (some (T.n,u))⟩ bg o:=by
 refine⟨⟨h.nd,h.be,Es (T:=T) (λ_ _=>rfl) h.ch,λc s p v d e z=>?_,?_⟩,λc e=>?_⟩
 ·have e:upd T.fn b (some (T.n,u)) c=some (p,v):=e;by_cases y:c=b
  ·subst y;rw[upd_self] at e;cases e;rw[h.one d a];exact k z
  ·rw[upd_ne y] at e;exact h.tl c s p v d e z
 ·refine List.Pairwise.imp_of_mem (λ{i j} l n z p v e=>?_) h.od;have e:upd T.fn b (some (T.n,u)) j.1=some (p,v):=e;by_cases y:j.1=b
  ·rw[y,upd_self] at e;cases e;exact Nat.le_of_lt (g.lt _ (h.be i l))
  ·rw[upd_ne y] at e;exact z p v e
 ·have e:upd T.fn b (some (T.n,u)) c≠none:=e;by_cases y:c=b
  ·exact⟨w,by rw[y];exact a⟩
  ·rw[upd_ne y] at e;exact h.all c e
theorem cW(a:T.Ok)(e:T.op h=some b):b<T.n:=a.lt b (by
 rcases(a.op h b e).2 with ⟨_,v,_,y⟩|⟨_,y⟩<;>rw[y]<;>exact(λz=>by cases z))
theorem OA{l:List Int}(h:r<l.length):(l.set r v)[r]?=some v:=List.getElem?_set_self h
theorem XS(c:T.Ok)(h:V0 T bg o)(r:Rp T bg m o x):Rp (T.step (.wb v)) bg m o (KB v x) where
 v:=r.v
 w0:=λe=>by trivial
 w1:=λb u e d=>by
  have e:upd T.op 0 (some T.n) 0=some b:=e;cases e;exact absurd d (Pu c h u)
 w2:=λb e _=>by
  have e:upd T.op 0 (some T.n) 0=some b:=e;rw[upd_self] at e;cases e;exact upd_self
 n:=r.n
 r0:=λj a e=>r.r0 j a (by trivial)
 r1:=λj b u a e=>r.r1 j b u a (by trivial)
 r2:=λj b a e=>r.r2 j b a (by trivial)
theorem XU{k:Nat}(d:T.Ok)(f:k<m)(h:V0 T bg o)(r:Rp T bg m o x):Rp (T.step (.rb k)) bg m o (GI k x) where
 v:=r.v
 w0:=λe=>r.w0 (by trivial)
 w1:=λb u e=>r.w1 b u (by trivial)
 w2:=λb e a=>by
  have e:upd T.op (k+1) (some T.n) 0=some b:=e;show upd T.wv T.n (some none) b=_;rw[upd_ne (AAc (cW d e))];exact r.w2 b e a
 n:=by show (x.2.2.set k (-2)).length=m;rw[AAu];exact r.n
 r0:=λj c e=>by
  have e:upd T.op (k+1) (some T.n) (j+1)=none:=e;show (x.2.2.set k (-2))[j]?=_;by_cases z:j=k
  ·rw[z,upd_self] at e;cases e
  ·rw[upd_ne (by lia)] at e;rw[AAm (Ne.symm z)];exact r.r0 j c e
 r1:=λj b u c e a=>by
  have e:upd T.op (k+1) (some T.n) (j+1)=some b:=e;show (x.2.2.set k (-2))[j]?=_;by_cases z:j=k
  ·rw[z,upd_self] at e;cases e;exact absurd a (Pu d h u)
  ·rw[upd_ne (by lia)] at e;rw[AAm (Ne.symm z)];exact r.r1 j b u c e a
 r2:=λj b c e a=>by
  have e:upd T.op (k+1) (some T.n) (j+1)=some b:=e;show (x.2.2.set k (-2))[j]?=_;by_cases z:j=k
  ·rw[z];exact OA (by rw[r.n];exact f)
  ·rw[upd_ne (by lia)] at e;rw[AAm (Ne.symm z)];exact r.r2 j b c e a
theorem XR(r:Rp T bg m o x):Rp (T.step .we) bg m o (x.1,-1,x.2.2) where
 v:=r.v
 w0:=λ_=>rfl
 w1:=λb u e=>by trivial
 w2:=λb e=>by trivial
 n:=r.n
 r0:=λj a e=>r.r0 j a (by trivial)
 r1:=λj b u a e=>r.r1 j b u a (by trivial)
 r2:=λj b a e=>r.r2 j b a (by trivial)
theorem XT{k:Nat}(d:k<m)(r:Rp T bg m o x):Rp (T.step (.re k v)) bg m o (x.1,x.2.1,x.2.2.set k (-1)) where
 v:=r.v
 w0:=λe=>r.w0 (by trivial)
 w1:=λb u e=>r.w1 b u (by trivial)
 w2:=λb e=>r.w2 b (by trivial)
 n:=by rw[AAu];exact r.n
 r0:=λj a e=>by
  have e:upd T.op (k+1) none (j+1)=none:=e;by_cases z:j=k
  ·rw[z];exact OA (by rw[r.n];exact d)
  ·rw[upd_ne (by lia)] at e;rw[AAm (Ne.symm z)];exact r.r0 j a e
 r1:=λj b u a e c=>by
  have e:upd T.op (k+1) none (j+1)=some b:=e;by_cases z:j=k
  ·rw[z,upd_self] at e;cases e
  ·rw[upd_ne (by lia)] at e;rw[AAm (Ne.symm z)];exact r.r1 j b u a e c
 r2:=λj b a e c=>by
  have e:upd T.op (k+1) none (j+1)=some b:=e;show (x.2.2.set k (-1))[j]?=_;by_cases z:j=k
  ·rw[z,upd_self] at e;cases e
  ·rw[upd_ne (by lia)] at e;rw[AAm (Ne.symm z)];exact r.r2 j b a e c
theorem Mf(h:V T bg o)(r:T.Ok)(hn:∀u,(b,u)∉o)(g:T.wv b≠none)(t:T.fn b=none)(k:u=((T.wv b).bind id).getD (IH bg o)):V T bg (o++[(b,u)]):=by
 refine⟨⟨?_,λp a=>?_,chn_app.mpr ⟨h.ch,k,trivial⟩,λc s p v f e=>?_,?_⟩,λc e=>?_⟩
 ·rw[AAX,List.nodup_append];refine⟨h.nd,by simp,λc f d l=>?_⟩;rw[AAK.mp l];rintro rfl;obtain⟨p,a,e⟩:=AAL.mp f;exact hn p.2 (by rw[←e];exact a)
 ·rcases AAJ.mp a with z|z
  ·exact h.be p z
  ·rw[AAK.mp z];exact g
 ·rcases AAJ.mp f with z|z
  ·exact h.tl c s p v z e
  simp_all
 ·refine List.pairwise_append.mpr ⟨h.od,by simp,λi w j A p v e=>?_⟩
  simp_all
 ·obtain⟨s,n⟩:=h.all c e;exact⟨s,AAa _ n⟩
theorem mem_snoc:(c,s)∈o++[(b,u)]↔(c,s)∈o∨(c=b/\s=u):=by
 simp_all
theorem Pg(d:T.op 0=some b)(g:T.Ok)(r:Rp T bg m o x):Rp T bg m (o++[(b,v)]) (v,-2,x.2.2) where
 v:=K1 (p:=(b,v)).symm
 w0:=λe=>by rw[d] at e;cases e
 w1:=λ_ _ _ _=>rfl
 w2:=λc e a=>by
  rw[d] at e;cases e;exact absurd (mem_snoc.mpr (.inr ⟨rfl,rfl⟩)) (a v)
 n:=r.n
 r0:=r.r0
 r1:=λj c u f e a=>by
  rcases mem_snoc.mp a with z|⟨z,_⟩
  ·exact r.r1 j c u f e z
  ·rw[z] at e;exact absurd (g.inj _ _ _ d e) (by lia)
 r2:=λj c f e a=>r.r2 j c f e λu z=>a u (mem_snoc.mpr (.inl z))
theorem Ph{b k:Nat}(h:k<m)(d:T.op (k+1)=some b)(hn:∀u,(b,u)∉o)(g:T.Ok)(r:Rp T bg m o x):Rp T bg m (o++[(b,x.1)]) (mvR x k) where
 v:=K1 (p:=(b,x.1)).symm
 w0:=r.w0
 w1:=λc u e a=>by
  rcases mem_snoc.mp a with z|⟨z,_⟩
  ·exact r.w1 c u e z
  ·rw[z] at e;exact absurd (g.inj _ _ _ d e) (by lia)
 w2:=λc e a=>r.w2 c e λu z=>a u (mem_snoc.mpr (.inl z))
 n:=by show (x.2.2.set k x.1).length=m;rw[AAu];exact r.n
 r0:=λj f e=>by
  show (x.2.2.set k x.1)[j]?=_;have z:k≠j:=λz=>by rw[←z,d] at e;cases e
  rw[AAm z];exact r.r0 j f e
 r1:=λj c u f e a=>by
  show (x.2.2.set k x.1)[j]?=_;by_cases z:k=j
  ·subst z;rw[d] at e;cases e;rw[OA (by rw[r.n];exact h)];rcases mem_snoc.mp a with z|⟨_,z⟩
   ·exact absurd z (hn u)
   ·rw[z]
  ·rw[AAm z];rcases mem_snoc.mp a with y|⟨y,_⟩
   ·exact r.r1 j c u f e y
   ·rw[y] at e;exact absurd (g.inj _ _ _ d e) (by lia)
 r2:=λj c f e a=>by
  show (x.2.2.set k x.1)[j]?=_;have z:k≠j:=λz=>by
   subst z;rw[d] at e;cases e;exact a x.1 (mem_snoc.mpr (.inr ⟨rfl,rfl⟩))
  rw[AAm z];exact r.r2 j c f e λu y=>a u (mem_snoc.mpr (.inl y))
theorem had(o:Od)(b:Nat):(∃u,(b,u)∈o)∨∀u,(b,u)∉o:=by
 by_cases h:∃u,(b,u)∈o
 ·exact .inl h
 ·exact .inr λu z=>h ⟨u,z⟩
theorem Vx(a:T.Ok)(l:0<=bg)(h:V T bg o)(r:Rp T bg m o x)(s:y∈nxt x):∃k,V T bg k/\Rp T bg m k y:=by
 obtain⟨n,p⟩:=Iu a l h.ch;rcases mem_nxt.mp s with ⟨j,rfl⟩|⟨i,d,rfl⟩
 ·cases e:T.op 0 with
  |none=>rw[r.w0 e] at j;simp_all
  |some b=>
   rcases had o b with ⟨u,g⟩|f
   ·rw[r.w1 b u e g] at j;exact absurd j (by decide)
   ·have w:=r.w2 b e f;exact⟨_,Mf h a f (by rw[w];simp_all) (a.op 0 b e).1 (by rw[w];rfl),Pg e a r⟩
 ·have c:i<m:=by rw[←r.n];exact(AAT.mp d).1
  cases e:T.op (i+1) with
  |none=>rw[r.r0 i c e] at d;cases d
  |some b=>
   rcases had o b with ⟨u,g⟩|f
   ·rw[r.r1 i b u c e g] at d;cases d;exact absurd (show 0<=-2 from n _ g) (by decide)
   ·have w:T.wv b=some none:=by
     rcases(a.op _ b e).2 with ⟨z,_⟩|⟨_,z⟩
     ·lia
     ·exact z
    exact⟨_,Mf h a f (by rw[w];exact λz=>by cases z) (a.op _ b e).1 (by rw[w];exact r.v),Ph c e f a r⟩
variable{T:Tk}{bg:Int}{m:Nat}{o q:Od}{x y:Cs}
theorem IW(h:f=some a):f≠none:=λz=>by grind
theorem IE(bs:Bs G T)(z:G h=true):∃b,T.op h=some b:=by
 have:=bs h;rw[z] at this;cases q:T.op h with
 |none=>simp_all
 |some b=>exact⟨b,rfl⟩
theorem N9(a:T.Ok)(bs:Bs G T)(j:G e.hand=!e.beg)(n:∀v,e.val=some v->0<=v)(l:e.hand<m+1)(h:V T bg o)(r:Rp T bg m o x)(s:one e x=some y):V (T.step e) bg o/\Rp (T.step e) bg m o y:=by
 cases e with
 |wb v=>
  cases s;exact⟨XM a h,XS a h.toV0 r⟩
 |rb k=>
  cases s;exact⟨XM a h,XU a (Nat.lt_of_succ_lt_succ l) h.toV0 r⟩
 |we=>
  obtain⟨c,rfl⟩:=K12.D1 s;obtain⟨b,d⟩:∃b,T.op 0=some b:=IE bs j;refine⟨?_,XR r⟩;show V ⟨_,_,_,T.ends 0 (-1)⟩ bg o;rw[DJ d];rcases had o b with ⟨u,f⟩|g
  ·refine PV a h f λz=>?_;rcases(a.op 0 b d).2 with ⟨_,v,_,y⟩|⟨y,_⟩
   ·rw[y] at z;cases z
   ·lia
  ·have w:=r.w2 b d g;rw[c] at w;exact absurd (a.pos _ _ w) (by decide)
 |re k v=>
  obtain⟨c,rfl⟩:=K12.D2 s;obtain⟨b,d⟩:∃b,T.op (k+1)=some b:=IE bs j;have i  := Nat.lt_of_succ_lt_succ l;have p:=n v rfl;refine⟨?_,XT i r⟩;show V ⟨_,_,_,T.ends (k+1) v⟩ bg o;rw[DJ d];rcases had o b with ⟨u,f⟩|g
  ·refine PV a h f λ_=>?_;rw[r.r1 k b u i d f] at c;cases c;rfl
  ·rw[r.r2 k b i d g] at c;cases c;exact absurd p (by decide)
def Hm(T:Tk)(m:Nat):Prop:=∀h b,T.op h=some b->h<m+1
theorem G5(h:Hm T m)(d:e.hand<m+1):Hm (T.step e) m:=by
 have c:∀k a,k<m+1->∀j b,upd T.op k a j=some b->j<m+1:=λk a f j b z=>by
  by_cases y:j=k
  ·lia
  ·rw[upd_ne y] at z;exact h j b z
 cases e with
 |wb v=>exact c 0 _ d
 |we=>exact c 0 _ d
 |rb r=>exact c (r+1) _ d
 |re r v=>exact c (r+1) _ d
theorem Py(c:T.Ok)(l:Hm T m):∀(q:Od) {o:Od} {y:Cs},V0 T bg (o++q)->(∀p∈q,T.fn p.1=none)->Rp T bg m o y->∃z,Rch y z/\Rp T bg m (o++q) z
 |[],o,y,_,_,r=>⟨y,.refl _,by rw[AAY];exact r⟩
 |(b,u)::q,o,y,h,n,r=>by
  have e:o++(b,u)::q=o++[(b,u)]++q:=by simp
  have f  := by rw[e] at h;exact h.left
  have g:∀s,(b,s)∉o:=λs z=>by
   have:=f.nd;rw[AAX,List.nodup_append] at this;exact this.2.2 b (AAL.mpr ⟨_,z,rfl⟩) b (by simp) rfl
  have v  := f.be _ (AAZ _ (AAK.mpr rfl));have a  := (chn_app.mp f.ch).2.1;obtain⟨j,d⟩:=c.go b v (n _ AAP);obtain⟨z,s,A⟩:∃z,z∈nxt y/\Rp T bg m (o++[(b,u)]) z:=by
   cases j with
   |zero=>
    have w:=r.w2 b d g;rw[w] at a;have a:u=y.2.1:=a;exact⟨_,mem_nxt.mpr (.inl ⟨c.pos _ _ w,rfl⟩),by rw[←a];exact Pg d c r⟩
   |succ k=>
    have t  := Nat.lt_of_succ_lt_succ (l _ _ d);have w:T.wv b=some none:=by
     rcases(c.op _ b d).2 with ⟨z,_⟩|⟨_,z⟩
     ·lia
     ·exact z
    rw[w] at a;have a:u=IH bg o:=a;exact⟨_,mem_nxt.mpr (.inr ⟨k,r.r2 k b t d g,rfl⟩),by rw[a,←r.v];exact Ph t d g c r⟩
  rw[e] at h ⊢;obtain⟨B,C,i⟩:=Py c l q h (λp D=>n p (AAQ _ D)) A;exact⟨B,Rch.trans (.step (.refl _) s) C,i⟩
theorem PU(h:V0 ⟨T.n+1,f,upd T.wv T.n (some w),T.fn⟩ bg o)(hn:∀u,(T.n,u)∉o):V0 T bg o:=by
 have a:∀p∈o,upd T.wv T.n (some w) p.1=T.wv p.1:=λp c=>upd_ne λz=>hn p.2 (by rw[←z];exact c);exact⟨h.nd,λp c=>by have:=h.be p c;rw[←a p c];exact this,Es (λp c=>(a p c).symm) h.ch,λb u p v d e z=>h.tl b u p v d e ((a _ d).trans z),h.od⟩
theorem QV{f:Nat->Option Nat}{g:Cs->Cs}(d:T.Ok)(i:Tk.Ok ⟨T.n+1,f,upd T.wv T.n (some w),T.fn⟩)(j:Hm ⟨T.n+1,f,upd T.wv T.n (some w),T.fn⟩ m)(h:V ⟨T.n+1,f,upd T.wv T.n (some w),T.fn⟩ bg o)
  (t:∀o x,V0 T bg o->Rp T bg m o x->Rp ⟨T.n+1,f,upd T.wv T.n (some w),T.fn⟩ bg m o (g x)):∃v,V T bg v/\∀x,Rp T bg m v x->∃z,Rch (g x) z/\Rp ⟨T.n+1,f,upd T.wv T.n (some w),T.fn⟩ bg m o z:=by
 have k:T.fn T.n=none:=by
  cases q:T.fn T.n with
  |none=>rfl
  |some p=>exact absurd (d.lt _ (d.fn T.n p.1 p.2 q).2) (AAv _)
 rcases had o T.n with ⟨u,C⟩|D
 ·obtain⟨A,B,rfl⟩:=List.append_of_mem C;have nd:=h.nd;rw[AAX,List.nodup_append] at nd;have c:=PU h.toV0.left λs z=>nd.2.2 T.n (AAL.mpr ⟨_,z,rfl⟩) T.n AAP rfl;have a:∀p∈B,T.fn p.1=none:=λp n=>by
   cases q:T.fn p.1 with
   |none=>rfl
   |some y=>
    have F:=(List.pairwise_append.mp h.od).2.1;have:=(AAw.mp F).1 p n y.1 y.2 q;have l:=(d.fn p.1 y.1 y.2 q).1;exact absurd this (Nat.not_le_of_lt l)
  refine⟨A,⟨c,λb e=>?_⟩,λx r=>?_⟩
  ·obtain⟨s,G⟩:=h.all b e;rcases AAJ.mp G with z|z
   ·exact⟨s,z⟩
   ·rcases AAI.mp z with z|z
    ·simp_all
    ·exact absurd (a _ z) e
  ·exact Py i j ((T.n,u)::B) h.toV0 (λp n=>(AAI.mp n).elim (λz=>by rw[z];exact k) (a p)) (t A x c r)
 ·have c:=PU h.toV0 D;exact⟨o,⟨c,h.all⟩,λx r=>⟨_,.refl _,t o x c r⟩⟩
theorem PR(d:T.Ok)(g:T.op h=some b)(v:V ⟨T.n+1,f,T.wv,upd T.fn b (some (T.n,u))⟩ bg o):V T bg o:=by
 have k:=(d.op h b g).1;have a:∀c,T.fn c≠none->upd T.fn b (some (T.n,u)) c=T.fn c:=λc z=>upd_ne λe=>z (by rw[e];exact k);exact⟨⟨v.nd,v.be,Es (T:=⟨T.n+1,f,T.wv,upd T.fn b (some (T.n,u))⟩) (λ_ _=>rfl) v.ch,λc s p w l e=>v.tl c s p w l ((a c (IW e)).trans e),v.od.imp λ{i j} z p w e=>z p w ((a j.1 (IW e)).trans e)⟩,λc e=>v.all c (by show upd T.fn b _ c≠none;rw[a c e];exact e)⟩
theorem cmp_ev(d:T.Ok)(bs:Bs G T)(A:Hm T m)(p:G e.hand=!e.beg)(B:∀v,e.val=some v->0<=v)(s:e.hand<m+1)(h:V (T.step e) bg o):∃g,V T bg g/\∀x,Rp T bg m g x->∃y z,one e x=some y/\Rch y z/\Rp (T.step e) bg m o z:=by
 have j:=(DC d bs p B).1;have l:=G5 A s;cases e with
 |wb v=>
  obtain⟨g,a,b⟩:=QV d j l h λo x=>XS d;exact⟨g,a,λx r=>by obtain⟨z,c⟩:=b x r;exact⟨_,z,rfl,c⟩⟩
 |rb k=>
  obtain⟨g,a,b⟩:=QV d j l h λo x=>XU d (Nat.lt_of_succ_lt_succ s);exact⟨g,a,λx r=>by obtain⟨z,c⟩:=b x r;exact⟨_,z,rfl,c⟩⟩
 |we=>
  obtain⟨b,f⟩:∃b,T.op 0=some b:=IE bs p;have i:V ⟨T.n+1,upd T.op 0 none,T.wv,upd T.fn b (some (T.n,-1))⟩ bg o:=by rw[←DJ f];exact h
  obtain⟨u,n⟩:=i.all b (IW upd_self);refine⟨o,PR d f i,λx r=>⟨_,_,?_,.refl _,XR r⟩⟩;show HB x=_;unfold HB;rw[if_pos (r.w1 b u f n)]
 |re k v=>
  obtain⟨b,f⟩:∃b,T.op (k+1)=some b:=IE bs p;have t  := Nat.lt_of_succ_lt_succ s;have i:V ⟨T.n+1,upd T.op (k+1) none,T.wv,upd T.fn b (some (T.n,v))⟩ bg o:=by rw[←DJ f];exact h
  obtain⟨u,n⟩:=i.all b (IW upd_self);have w:T.wv b=some none:=by
   rcases(d.op _ b f).2 with ⟨z,_⟩|⟨_,z⟩
   ·lia
   ·exact z
  have C  := i.tl b u T.n v n upd_self w;refine⟨o,PR d f i,λx r=>⟨_,_,?_,.refl _,XT t r⟩⟩;show FJ k v x=_;unfold FJ;rw[if_pos (by rw[r.r1 k b u t f n,C])]
noncomputable def run(T:Tk)(es:List Ev):Tk:=es.foldl Tk.step T
theorem ay:∀(es:List Ev) {T:Tk} {G:Nat->Bool} {o:Od},T.Ok->Bs G T->Hm T m->wfG G es->(∀e∈es,∀v,e.val=some v->0<=v)->(∀e∈es,e.hand<m+1)->V (run T es) bg o->∃n,V T bg n
 |[],T,G,o,_,_,_,_,_,_,h=>⟨o,h⟩
 |e::es,T,G,o,g,i,j,wf,k,l,h=>by
  have a:=k e AAP;have b:=l e AAP;obtain⟨c,d⟩:=DC g i wf.1 a;obtain⟨u,p⟩:=ay es c d (G5 j b) wf.2 (λx f=>k x (AAQ _ f)) (λx f=>l x (AAQ _ f)) h;obtain⟨r,s,_⟩:=cmp_ev g i j wf.1 a b p;exact⟨r,s⟩
theorem P6(M:0<=bg):∀(es:List Ev) {S:List Cs} {T:Tk} {G:Nat->Bool},T.Ok->Bs G T->Hm T m->Cld S->(∀x∈S,∃o,V T bg o/\Rp T bg m o x)->(∀o,V T bg o->∃x∈S,Rp T bg m o x)->(∃x,x∈S)->wfG G es->(∀e∈es,∀v,e.val=some v->0<=v)->(∀e∈es,e.hand<m+1)->(Ga S es=true↔∃o,V (run T es) bg o)
 |[],S,T,G,_,_,_,_,D,_,⟨x,a⟩,_,_,_=>⟨λ_=>by obtain⟨o,h,_⟩:=D x a;exact⟨o,h⟩,λ_=>rfl⟩
 |e::es,S,T,G,E,F,N,U,D,W,⟨x0,c⟩,wf,O,P=>by
  have f:=O e AAP;have i:=P e AAP;have n:=λx a=>O x (AAQ e a);have p:=λx a=>P x (AAQ e a);obtain⟨j,t⟩:=DC E F wf.1 f;have A:=G5 N i;have K:∀y∈clo (pre S e),∃o,V (T.step e) bg o/\Rp (T.step e) bg m o y:=λy Q=>by
   obtain⟨z,H,r⟩:=JX Q;obtain⟨x,a,s⟩:=mem_one.mp H;obtain⟨o,h,I⟩:=D x a;have:=N9 E F wf.1 f i h I s;clear Q H s h I
   induction r with
   |refl=>exact⟨o,this⟩
   |step _ s X=>
    obtain⟨J,B,L⟩:=X;exact Vx j M B L s
  have C:∀o,V (T.step e) bg o->∃x∈clo (pre S e),Rp (T.step e) bg m o x:=λo h=>by
   obtain⟨J,B,k⟩:=cmp_ev E F N wf.1 f i h;obtain⟨x,a,r⟩:=W J B;obtain⟨y,z,s,Y,I⟩:=k x r;exact⟨z,in_clo (mem_one.mpr ⟨x,a,s⟩) Y,I⟩
  have Z:Jn S e=false->∃y,y∈clo (pre S e):=λg=>by
   have d:∀x y,x∈S->one e x=some y->∃y,y∈clo (pre S e):=λx y a s=>⟨y,in_clo (mem_one.mpr ⟨x,a,s⟩) (.refl _)⟩;cases e with
   |wb v=>exact d x0 _ c rfl
   |rb k=>exact d x0 _ c rfl
   |re k v=>
    obtain⟨x,a,y,s⟩:=not_gone.mp g ⟨k,v,rfl⟩;exact d x y a s
   |we=>
    obtain⟨b,R⟩:∃b,T.op 0=some b:=IE F wf.1;obtain⟨o,h,r⟩:=D x0 c;rcases had o b with ⟨u,hu⟩|hn
    ·exact d x0 _ c (by show HB x0=_;unfold HB;rw[if_pos (r.w1 b u R hu)])
    ·exact d (x0.2.1,-2,x0.2.2) _ (U x0 c _ (mem_nxt.mpr (.inl ⟨E.pos _ _ (r.w2 b R hn),rfl⟩))) rfl
  rw[F8];cases g:Jn S e with
  |false=>
   rw[P6 M es j t A (Iq _) K C (Z g) wf.2 n p];exact⟨λz=>z.2,λz=>⟨rfl,z⟩⟩
  |true=>
   refine⟨(λz=>by cases z.1),λ⟨o,h⟩=>?_⟩;obtain⟨J,B⟩:=ay es j t A wf.2 n p h;obtain⟨z,H,_⟩:=C J B;obtain⟨w,hw,_⟩:=JX H;obtain⟨x,a,s⟩:=mem_one.mp hw;have  := not_gone.mpr λ_=>⟨x,a,w,s⟩;rw[this] at g;cases g
theorem Fh(b:0<=bg):Rp T0 bg m [] (bg,-1,List.replicate m (-1)) where
 v:=rfl
 w0:=λ_=>rfl
 w1:=λ_ _ e=>by cases e
 w2:=λ_ e=>by cases e
 n:=AAl
 r0:=λr a _=>by rw[List.getElem?_replicate,if_pos a]
 r1:=λ_ _ _ _ e=>by cases e
 r2:=λ_ _ _ e=>by cases e
theorem LZ(h:V T0 bg o):o=[]:=by
 cases o with
 |nil=>rfl
 |cons p o=>exact absurd rfl (h.be p AAP)
theorem SM:V T0 bg []:=⟨⟨List.nodup_nil,(λ_ h=>by cases h),trivial,(λ_ _ _ _ h=>by cases h),List.Pairwise.nil⟩,λ_=>absurd rfl⟩
theorem K7(a:0<=bg)(b:wfG (λ_=>false) es)(c:∀e∈es,∀v,e.val=some v->0<=v)(d:∀e∈es,e.hand<m+1):Ga (K16.S0 bg m) es=true↔∃o,V (run T0 es) bg o:=
 P6 a es ok0 (λ_=>rfl) (λ_ _ e=>by cases e) K15.cld_start (λx f=>by rw[AAK.mp f];exact⟨[],SM,Fh a⟩) (λo h=>⟨_,AAK.mpr rfl,by rw[LZ h];exact Fh a⟩) ⟨_,AAK.mpr rfl⟩ b c d
end K93
namespace K13
open PySem L2 Mi Ht
section
variable{Z:Mh}{ds es:List D}{n:Nat}
variable{sz:Int}{ns:List Str}
theorem Xi(a:PyData.strOk x=true)(b:PyData.strOk y=true):DA (.str x) (.str y) Z=some (.bl (!(x==y)),Z):=by
 show (if SeqAt.shaped _=true/\SeqAt.shaped _=true then some (D.bl !x==y,Z) else none)=_;rw[if_pos ⟨E6 a,E6 b⟩]
noncomputable abbrev bD(ns:List Str)(bs:List Nat):List D:=(bs.map (nm ns)).map D.str
theorem Tv(N:Ns ns){bs:List Nat}(b:∀h∈bs,h<ns.length)(c:h<ns.length):nm ns h∈bs.map (nm ns)↔h∈bs:=by
 constructor
 ·intro z;obtain⟨k,a,e⟩:=AAL.mp z;exact N.inj (b k a) c e ▸ a
 ·exact λz=>AAL.mpr ⟨h,z,rfl⟩
theorem UB(N:Ns ns){bs:List Nat}(a:∀h∈bs,h<ns.length)(b:h<ns.length)(hn:Z[n]?=some (.lst (bD ns bs))):FA false (.str (nm ns h)) (.ref n) Z=some (.bl (decide (h∈bs)),Z):=by
 show G4 false _ _ Z=_;rw[T9 (by show (match Z[n]? with|some (.lst ds)=>_|_=>none)=_;rw[hn])];have:decide (nm ns h∈bs.map (nm ns))=decide (h∈bs):=by
  by_cases z:h∈bs
  ·rw[AAO z,AAO ((Tv N a b).mpr z)]
  ·rw[AAN z,AAN λy=>z ((Tv N a b).mp y)]
 rw[this];rfl
theorem LG(N:Ns ns):∀{bs:List Nat} {h:Nat},(∀k∈bs,k<ns.length)->h<ns.length->h∈bs->∃j,((bs.map (nm ns)).map V.str).findIdx? (λz=>eqV z (V.str (nm ns h)))=some j/\bs.eraseIdx j=bs.erase h
 |[],h,_,_,a=>by cases a
 |k::bs,h,c,d,a=>by
  rw[AAW,AAW,List.findIdx?_cons];have f:eqV (V.str (nm ns k)) (V.str (nm ns h))=(k==h):=OS N (c k (by simp)) d;rw[f];by_cases e:k=h
  ·simp_all
  ·have b  := (AAI.mp a).resolve_left λz=>e z.symm;obtain⟨j,g,l⟩:=LG N (λx i=>c x (by simp[i])) d b;refine⟨j+1,?_,?_⟩
   ·rw[AAd.mpr e,g];rfl
   simp_all
theorem Xh(N:Ns ns)(e:∀h∈bs,h<ns.length)(g:h<ns.length)(i:h∈bs)(hn:Z[n]?=some (.lst (bD ns bs))):Sy (.ref n) [.str (nm ns h)] Z=some (.non,Z.set n (.lst (bD ns (bs.erase h)))):=by
 obtain⟨j,k,m⟩:=LG N e g i;show FY n _ Z=_;unfold FY;rw[hn];have o:DV (bD ns bs)=some ((bs.map (nm ns)).map V.str):=F9 _;show Option.map _ (match HA (.str (nm ns h)),DV (bD ns bs) with
  |some y,some r=>_
  |_,_=>none)=_
 rw[o];show Option.map _ ((((bs.map (nm ns)).map V.str).findIdx? λz=>eqV z (V.str (nm ns h))).map λj=>(D.non,(bD ns bs).eraseIdx j))=_;rw[k];show some (D.non,Z.set n (.lst ((bD ns bs).eraseIdx j)))=_;have p:(bD ns bs).eraseIdx j=bD ns (bs.erase h):=by
  rw[←m];have c:∀{b d:Type} (f:b->d) (l:List b) j,(l.map f).eraseIdx j=(l.eraseIdx j).map f:=by
   intro b d f l
   induction l with
   |nil=>intro j;simp
   |cons a l q=>
    intro j;cases j with
    |zero=>rfl
    |succ j=>rw[AAW,List.eraseIdx_cons_succ,List.eraseIdx_cons_succ,AAW,q]
  show _;rw[c,c]
 rw[p]
structure Bsy(ns:List Str)(sz:Int)(es:List Ev)(bs:List Nat)(ws:List Int):Prop where
 wf:wfG G0 es
 ok:∀e∈es,e.Ok ns sz
 lt:∀h∈bs,h<ns.length
 nd:bs.Nodup
 mem:∀h,decide (h∈bs)=gA G0 es h
 ws:∀x∈ws,0<=x/\x<sz
end
section
variable{Z:Mh}{ds:List D}
variable{ns:List Str}
theorem Xz(e:Ev):Cl k (evD ns e):=by cases e<;>simp[evD,Ev.val,Cl,ClL]
noncomputable def evP(ns:List Str)(e:Ev):PyData:=.tuple (PyData.str (bS e.beg)::.str (nm ns e.hand)::(match e.val with|some v=>[.int v]|none=>[]))
theorem Kt(N:Ns ns):∀{es:List Ev},(∀e∈es,e.hand<ns.length)->GU Z (es.map (evD ns))=some (es.map (evP ns))/\PyData.canLayAll0 (es.map (evP ns))=true/\PyData.depthAll (es.map (evP ns))<=1/\PyData.eqvAll (es.map (evP ns)) (es.map (evP ns))=true
 |[],_=>⟨by unfold GU;rfl,rfl,AAi _,rfl⟩
 |e::es,h=>by
  obtain⟨b,c,k,d⟩:=Kt N (es:=es) λx f=>h x (by simp[f]);have a:=N.nok (h e (by simp));have g:toP Z (evD ns e)=some (evP ns e):=by cases e<;>rfl
  have i:PyData.canLay0 (evP ns e)=true:=by
   cases e with
   |wb v=>show (PyData.strOk (bS true)&&(PyData.strOk (nm ns 0)&&(true&&true)))=true;rw[LS _,show PyData.strOk (nm ns 0)=true from a];rfl
   |we=>show (PyData.strOk (bS false)&&(PyData.strOk (nm ns 0)&&true))=true;rw[LS _,show PyData.strOk (nm ns 0)=true from a];rfl
   |rb r=>show (PyData.strOk (bS true)&&(PyData.strOk (nm ns (r+1))&&true))=true;rw[LS _,show PyData.strOk (nm ns (r+1))=true from a];rfl
   |re r v=>show (PyData.strOk (bS false)&&(PyData.strOk (nm ns (r+1))&&(true&&true)))=true;rw[LS _,show PyData.strOk (nm ns (r+1))=true from a];rfl
  have l:PyData.depth (evP ns e)=1:=by cases e<;>rfl
  have j:PyData.eqv (evP ns e) (evP ns e)=true:=by
   cases e with
   |wb v=>show ((bS true==bS true)&&((nm ns 0==nm ns 0)&&((v==v)&&true)))=true;simp
   |we=>show ((bS false==bS false)&&((nm ns 0==nm ns 0)&&true))=true;simp
   |rb r=>show ((bS true==bS true)&&((nm ns (r+1)==nm ns (r+1))&&true))=true;simp
   |re r v=>show ((bS false==bS false)&&((nm ns (r+1)==nm ns (r+1))&&((v==v)&&true)))=true;simp
  refine⟨?_,?_,?_,?_⟩
  ·rw[AAW];unfold GU;rw[g,b];rfl
  ·show (PyData.canLay0 (evP ns e)&&PyData.canLayAll0 (es.map (evP ns)))=true;rw[i,c];rfl
  ·show max (PyData.depth (evP ns e)) (PyData.depthAll (es.map (evP ns)))<=1;lia
  ·show (PyData.eqv (evP ns e) (evP ns e)&&PyData.eqvAll (es.map (evP ns)) (es.map (evP ns)))=true;rw[j,d];rfl
theorem P4(N:Ns ns){es:List Ev}(h:∀e∈es,e.hand<ns.length):DA (.lst (es.map (evD ns))) (.lst (es.map (evD ns))) Z=some (.bl false,Z):=by
 obtain⟨c,d,g,f⟩:=Kt N h;have a:KO Z (.lst (es.map (evD ns)))=some (.list (es.map (evP ns))):=by
  show toP Z (.lst _)=_;unfold toP;rw[c];rfl
 have b  := by
  show (PyData.canLayAll0 (es.map (evP ns))&&decide (PyData.depthAll (es.map (evP ns))+1<=64))=true;rw[d,AAO (by lia)];rfl
 show Fj true _ _ Z=_;rw[bO a a b b];show some (D.bl !PyData.eqvAll (es.map (evP ns)) (es.map (evP ns)),Z)=_;rw[f];rfl
theorem Xj:DA (.bl a) (.bl a) Z=some (.bl false,Z):=by cases a<;>rfl
theorem SN(h:cs.length<=63):∃c:Int,Bk [.scr cs,.int 0] Z=some (.int c,Z):=by
 have a:∀S ,S=[some (.scr cs),some (.int 0)]->AN (mOp IS (AA 1) (AE Bp (AD (AA 0) AK))) S Z=some (decide ((0:Int)<cs.length),Z):=λS b=>by
  subst b;refine AX (po (y:=.int cs.length) rfl (pd rfl ?_) rfl);show some (D.int (cs.map D.int).length,Z)=_;rw[AAF]
 cases cs with
 |nil=>
  refine⟨0,Ac (g:=[]) (x3:=[some (.scr []),some (.int 0)]) ?_ rfl (BP _ _)⟩;rw[AAY];exact pq (piF (a _ rfl) rfl) (pr rfl)
 |cons c cs=>
  refine⟨c,Ac (g:=[]) (x3:=[some (.scr (c::cs)),some (.int 0)]) ?_ rfl (BP _ _)⟩;rw[AAY];refine Cn (piT ((a _ rfl).trans ?_) (pr (po rfl rfl ?_)))
  ·rw[AAO (by simp)]
  ·show bnd (Dp (.scr (c::cs))) (λds=>ixD ds 0) Z=_;rw[AM rfl];unfold ixD;rw[show atI ((c::cs).map D.int) 0=some (.int c) from BZ rfl];rfl
end
end K13
namespace K93
open PySem L2 Mi Nk Wb Ht
open K13 (po pc pd p2 pq pa piT piF pr AU CL BB Ae BZ BF BP)
noncomputable def ddD(T:Tk)(b:Nat):D:=.lst [.int b,(match T.fn b with|some (p,_)=>.int p|none=>.non),.str (match T.wv b with|some (some _) => "writes" |_ => "reads"),(match T.wv b with|some (some v)=>.int v|_=>match T.fn b with|some (_,v)=>.int v|none=>.non)]
noncomputable abbrev ksD(ks:List Nat):D:=.lst (ks.map λk:Nat=>D.int k)
section
variable{T:Tk}{Z:Mh}
theorem Zo:AJ (ddD T b) (.int 2) Z=some (.str (match T.wv b with|some (some _) => "writes" |_ => "reads"),Z):=rfl
theorem Zn:AJ (ddD T b) (.int 3) Z=some ((match T.wv b with|some (some v)=>.int v|_=>match T.fn b with|some (_,v)=>.int v|none=>.non),Z):=rfl
end
end K93
namespace K93
open PySem L2 Mi Nk Wb Ht
section
variable{Z:Mh}{d:D}
theorem Et(e:a (Bc N ds) Z=some ((.rt d,x3),w6))(b:Nat.beq ds.length c=true):HJ .all N c a ds Z=some (d,w6):=by
 unfold HJ;rw[b];rw[e];rfl
end
open K13 (po pc pd p2 pq pa piT piF pr AU BB Ae Ax BF BD Bl)
section
theorem pz_nats:∀js:List Nat,PzL (js.map λk:Nat=>D.int k)/\Kb (js.map λk:Nat=>D.int k)<=60
 |[]=>⟨by trivial,by trivial⟩
 |x::js=>by
  have ih:=pz_nats js;rw[AAW];exact⟨⟨by trivial,ih.1⟩,by unfold Kb;have:dpt (.int x)=0:=rfl;rw[this];lia⟩
end
end K93
namespace K93
open PySem L2 Mi Nk Wb Ht
section
variable{T:Tk}{f:Nat->Option Nat}{g:Nat->Option (Nat×Int)}{w:Option Int}{b:Nat}
def bl(T:Tk):List Nat:=(List.range T.n).filter λb=>(T.wv b).isSome
theorem bl_lt(h:b∈bl T):b<T.n:=List.mem_range.mp (List.mem_filter.mp h).1
theorem ET(a:T.Ok):b∈bl T↔T.wv b≠none:=by
 unfold bl;rw[List.mem_filter,List.mem_range,Option.isSome_iff_ne_none];exact⟨λz=>z.2,λz=>⟨a.lt b z,z⟩⟩
theorem Gc:bl ⟨T.n+1,f,upd T.wv T.n (some w),g⟩=bl T++[T.n]:=by
 unfold bl;rw[List.range_succ,List.filter_append];refine congr (congrArg _ ?_) ?_
 ·refine List.filter_congr λx a=>?_;show (upd T.wv T.n (some w) x).isSome=_;rw[upd_ne (AAc (List.mem_range.mp a))]
 ·rw[List.filter_cons_of_pos (by show (upd T.wv T.n (some w) T.n).isSome=true;rw[upd_self];rfl)];rfl
theorem Fy(a:T.Ok):bl ⟨T.n+1,f,T.wv,g⟩=bl T:=by
 unfold bl;have c  := Classical.byContradiction λz=>AAv _ (a.lt _ z);rw[List.range_succ,List.filter_append,List.filter_cons_of_neg (by rw[c];decide)];exact AAY _
theorem bl_nd:(bl T).Nodup:=List.nodup_range.sublist List.filter_sublist
end
open K13 (Ev Ev.beg Ev.hand Ev.val wfG Ns nm evD bS po pc pd pq pa pr Ae Ax F7 BZ BF Du Db BJ B9 GR Oh)
noncomputable def ddC(T:Tk)(b:Nat):List D:=[.int b,(match T.fn b with|some (p,_)=>.int p|none=>.non),.str (match T.wv b with|some (some _) => "writes" |_ => "reads"),(match T.wv b with|some (some v)=>.int v|_=>match T.fn b with|some (_,v)=>.int v|none=>.non)]
noncomputable def rfs(n k:Nat):List D:=(List.range k).map λi:Nat=>D.ref (n+2+i)
noncomputable def bxs(T:Tk):List MO:=(bl T).map λb=>MO.lst (ddC T b)
noncomputable abbrev HD(Z:Mh)(T:Tk)(a:List (Key×D)):Mh:=Z++MO.lst (rfs Z.length (bl T).length)::MO.dK a::bxs T
section
variable{T:Tk}{Z:Mh}{x y z:MO}{zs:List MO}{i b n:Nat}{a:List (Key×D)}{ns:List Str}
theorem g_0:(Z++x::y::zs)[Z.length]?=some x:=by rw[AAR (AAE _),AAt];rfl
theorem g_1:(Z++x::y::zs)[Z.length+1]?=some y:=by simp
theorem g_2:(Z++x::y::zs)[Z.length+2+i]?=zs[i]?:=by rw[AAR (by lia),show Z.length+2+i-Z.length=i+2 by lia];rfl
theorem s_0:(Z++x::y::zs).set Z.length z=Z++z::y::zs:=by simp
theorem s_1:(Z++x::y::zs).set (Z.length+1) z=Z++x::z::zs:=by simp
theorem s_2:(Z++x::y::zs).set (Z.length+2+i) z=Z++x::y::zs.set i z:=by rw[AAe _ _ (by lia),show Z.length+2+i-Z.length=i+2 by lia];rfl
theorem Gz(h:ds.length<=sizeLine):Dv ds Z=some (.ref Z.length,Z++[.lst ds]):=by
 unfold Dv;rw[AM (by unfold lim;rw[if_pos h])]
theorem OD(h:i<n):(rfs Z.length n)[i]?=some (.ref (Z.length+2+i)):=by
 unfold rfs;rw[AAV,List.getElem?_range h];rfl
theorem O2(h:(bl T)[i]?=some b):(bxs T)[i]?=some (.lst (ddC T b)):=by
 unfold bxs
 simp_all
theorem MK:(bxs T).length=(bl T).length:=AAF ..
theorem IX:∀{l:List Nat} {i:Nat},l.Nodup->l[i]?=some b->(∀c,c≠b->g c=f c)->(l.map f).set i (g b)=l.map g
 |[],i,_,h,_=>by simp
 |c::l,0,j,h,e=>by
  have h  := Option.some.inj h;subst h;show g c::l.map f=g c::l.map g;rw[List.map_congr_left λd k=>(e d λz=>(List.nodup_cons.mp j).1 (z ▸ k)).symm]
 |c::l,i+1,j,h,e=>by
  obtain⟨m,o⟩:=List.nodup_cons.mp j;show f c::(l.map f).set i (g b)=g c::l.map g;rw[IX o h e,e c λz=>m (z ▸ AAU h)]
theorem Wg(h:Z[n]?=some (.dK L))(c:CU L (.inr k)=some d):Dr (.ref n) (.str k) Z=some (d,Z):=by
 unfold Dr;rw[AM (Db h)];show (CU L (.inr k)).map (λv=>(v,Z))=_;rw[c];rfl
theorem UV(c:mv B Z=some (v,Z))(d:mo B Z=some (.ref n,Z))(e:mi B Z=some (.str k,Z))(h:Z[n]?=some (.dK L))(f:L.length<sizeLine):EN mo mi mv B Z=some ((.next,B),Z.set n (.dK (Dc L (.inr k) v))):=by
 unfold EN;rw[AM c,AM d,AM e,AM (Db h)];show (if L.length<sizeLine then some _ else none)=_;rw[if_pos f]
noncomputable abbrev Xd:Sl->M D:=AE Dv (AD (AA 4) (AD (mC .non) (AD (mOp AJ (AE BU (AD (mC (.str "reads")) (AD (mC (.str "writes")) AK))) (AE MB (AD (mOp Af (AE Bp (AD (AA 5) AK)) (mC (.int 3))) AK))) (AD (mOp AJ (mOp Av (AA 5) (AE BE (AD (mC .non) AK))) (mC (.int 2))) AK))))
noncomputable abbrev Ra:Sl->M (Fl×Sl):=(sIf (AN (mOp Af (mOp AJ (AA 5) (mC (.int 0))) (mC (.str "begin")))) (AS (EN (AA 3) (mOp AJ (AA 5) (mC (.int 1))) (AE Bp (AD (AA 2) AK)))
  (Bt (BG DM (AA 2) (AD Xd AK)))) (AS (AY (mOp AJ (AA 2) (mOp Dr (AA 3) (mOp AJ (AA 5) (mC (.int 1))))) (AO 6))
  (AS (AY (AA 4) (Hz (AA 6) (mC (.int 1))))
  (sIf (AN (mOp Af (AE Bp (AD (AA 5) AK)) (mC (.int 3)))) (AY (mOp AJ (AA 5) (mC (.int 2))) (Hz (AA 6) (mC (.int 3)))) A6))))
noncomputable abbrev sd7(o0 o1:Option D)(n:Nat)(k e c:Option D):Sl:=[o0,o1,some (.ref n),some (.ref (n+1)),k,e,c]
variable{o0 o1 o6:Option D}{e:Ev}{M:Mh}
theorem t_beg:AN (mOp Af (mOp AJ (AA 5) (mC (.int 0))) (mC (.str "begin"))) (sd7 o0 o1 n (some (.int T.n)) (some (evD ns e)) o6) M=some (e.beg,M):=AX (po (po rfl rfl (by cases e<;>rfl)) rfl GR)
theorem Sa:mOp AJ (AA 5) (mC (.int 1)) (sd7 o0 o1 n (some (.int T.n)) (some (evD ns e)) o6) M=some (.str (nm ns e.hand),M):=po rfl rfl (by cases e<;>rfl)
theorem t_3:mOp Af (AE Bp (AD (AA 5) AK)) (mC (.int 3)) (sd7 o0 o1 n (some (.int T.n)) (some (evD ns e)) o6) M=some (.bl e.val.isSome,M):=by
 refine po (x:=.int (if e.val.isSome then 3 else 2)) (pd rfl ?_) rfl ?_
 ·cases e<;>rfl
 ·cases e<;>rfl
noncomputable def dd0(T:Tk):Ev->List D
 | .wb v=>[.int T.n,.non,.str "writes",.int v]
 |_=>[.int T.n,.non,.str "reads",.non]
theorem aB(f:e.beg=true):Xd (sd7 o0 o1 n (some (.int T.n)) (some (evD ns e)) o6) M=some (.ref M.length,M++[.lst (dd0 T e)]):=by
 have l:=BF;have g:mOp AJ (AE BU (AD (mC (.str "reads")) (AD (mC (.str "writes")) AK))) (AE MB (AD (mOp Af (AE Bp (AD (AA 5) AK)) (mC (.int 3))) AK)) (sd7 o0 o1 n (some (.int T.n)) (some (evD ns e)) o6) M=some (.str (if e.val.isSome then "writes" else "reads"),M):=by
  refine po (y:=.int (if e.val.isSome then 1 else 0)) (pd rfl (Ae (by simp;lia))) (pd (pc t_3 rfl) ?_) ?_
  ·cases e.val.isSome<;>rfl
  ·cases e.val.isSome<;>rfl
 have h:∀{c:List D} {d:D},evD ns e=.tup c->c.length<=3->atI (c++[.non]) 2=some d->mOp AJ (mOp Av (AA 5) (AE BE (AD (mC .non) AK))) (mC (.int 2)) (sd7 o0 o1 n (some (.int T.n)) (some (evD ns e)) o6) M=some (d,M):=λ{c d} j m k=>
  po (x:=.tup (c++[.non])) (y:=.int 2) (po (x:=.tup c) (y:=.tup [.non]) (by rw[j];rfl) (pd (ds:=[.non]) rfl (Ax (by simp;lia))) (F7 (by rw[List.length_singleton];lia))) rfl (P5 k)
 cases e with
 |wb v=>exact Bi (ds:=dd0 T (.wb v)) (pc rfl (pc rfl (pc g (pc (h rfl (AAE _) rfl) rfl)))) (Gz (by show 4<=_;lia))
 |rb r=>exact Bi (ds:=dd0 T (.rb r)) (pc rfl (pc rfl (pc g (pc (h rfl (by show 2<=3;decide) rfl) rfl)))) (Gz (by show 4<=_;lia))
 |we=>cases f
 |re r v=>cases f
theorem Zb(h:T.Ok)(j:e.beg=true):(Z++MO.lst (rfs Z.length (bl T).length++[.ref (Z.length+2+(bl T).length)])::MO.dK g::(bxs T++[.lst (dd0 T e)]))=HD Z (T.step e) g:=by
 have d:∀f w,dd0 T e=ddC ⟨T.n+1,f,upd T.wv T.n (some w),T.fn⟩ T.n->T.step e=⟨T.n+1,f,upd T.wv T.n (some w),T.fn⟩->(Z++MO.lst (rfs Z.length (bl T).length++[.ref (Z.length+2+(bl T).length)])::MO.dK g::(bxs T++[.lst (dd0 T e)]))=HD Z (T.step e) g:=λf w l m=>by
  unfold HD bxs;rw[m,Gc,l,AAG,List.length_singleton,AAX];refine congrArg (Z++·) (congr (congrArg _ (congrArg MO.lst ?_)) (congrArg _ (congrArg (·++_) (List.map_congr_left λc o=>congrArg MO.lst ?_))))
  ·unfold rfs;rw[List.range_succ,AAX];rfl
  ·unfold ddC;dsimp only;rw[upd_ne (AAc (bl_lt o))]
 have k:T.fn T.n=none:=by
  cases q:T.fn T.n with
  |none=>rfl
  |some p=>exact absurd (h.lt _ (h.fn T.n p.1 p.2 q).2) (AAv _)
 cases e with
 |wb v=>exact d _ (some v) (by unfold ddC dd0;dsimp only;rw[upd_self,k]) rfl
 |rb r=>exact d _ none (by unfold ddC dd0;dsimp only;rw[upd_self,k]) rfl
 |we=>cases j
 |re r v=>cases j
theorem Wv(f:T.Ok)(c:e.beg=true)(h:(bl T).length<=900)(j:a.length<=900):Ra (sd7 o0 o1 Z.length (some (.int T.n)) (some (evD ns e)) o6) (HD Z T a)=some ((.next,sd7 o0 o1 Z.length (some (.int T.n)) (some (evD ns e)) o6),HD Z (T.step e) (Dc a (.inr (nm ns e.hand)) (.int (bl T).length))):=by
 have k:=BF;have g:(rfs Z.length (bl T).length).length=(bl T).length:=by unfold rfs;simp_all
 rw[←Zb f c];refine Dk (t_beg.trans (by rw[c])) (AT ?_ (DI (d:=.non) (Da (w6:=HD Z T (Dc a (.inr (nm ns e.hand)) (.int (bl T).length))) rfl (BJ g_0) (EL (aB c) rfl) ?_)))
 ·have:=UV (B:=sd7 o0 o1 Z.length (some (.int T.n)) (some (evD ns e)) o6) (Z:=HD Z T a) (mo:=AA 3) (mv:=AE Bp (AD (AA 2) AK)) (pd rfl (by rw[Oh g_0,g])) rfl Sa g_1 (by lia);rw[s_1] at this;exact this
 ·rw[show (HD Z T _).length=Z.length+2+(bl T).length from by rw[AAG,AAH,AAH,MK];lia];rw[AAk];show DM _ _ (Z++_::_::(bxs T++[.lst (dd0 T e)]))=_;rw[B9 g_0 (by lia),s_0]
theorem Wu(o:T.Ok)(l:e.beg=false)(hop:T.op e.hand=some b)(hi:CU a (.inr (nm ns e.hand))=some (.int i))(d:(bl T)[i]?=some b):Ra (sd7 o0 o1 Z.length (some (.int T.n)) (some (evD ns e)) o6) (HD Z T a)=some ((.next,sd7 o0 o1 Z.length (some (.int T.n)) (some (evD ns e)) (some (.ref (Z.length+2+i)))),HD Z (T.step e) a):=by
 have g  := (AAT.mp d).1;have s:∀m ,(Z++MO.lst (rfs Z.length (bl T).length)::MO.dK a::(bxs T).set i (.lst m))[Z.length+2+i]?=some (.lst m):=λm=>by rw[g_2,List.getElem?_set_self (by rw[MK];exact g)]
 have k:∀f v,T.step e=⟨T.n+1,f,T.wv,upd T.fn b (some (T.n,v))⟩->(Z++MO.lst (rfs Z.length (bl T).length)::MO.dK a::(bxs T).set i _)=HD Z (T.step e) a:=λf v h=>by
  unfold HD bxs;rw[h,Fy o,IX bl_nd d λc t=>?_];unfold ddC;dsimp;rw[upd_ne t]
 have w:AY (mOp AJ (AA 2) (mOp Dr (AA 3) _)) (AO 6) (sd7 o0 o1 Z.length (some (.int T.n)) (some (evD ns e)) o6) (HD Z T a)=some _:=
  pa (po rfl (po rfl Sa (Wg g_1 hi)) (L5 g_0 (BZ (OD g)))) rfl
 have A:AY (AA 4) (Hz (AA 6) (mC (.int 1))) (sd7 o0 o1 Z.length (some (.int T.n)) (some (evD ns e)) (some (.ref (Z.length+2+i)))) (HD Z T a)=some ((.next,sd7 o0 o1 Z.length (some (.int T.n)) (some (evD ns e)) (some (.ref (Z.length+2+i)))),Z++MO.lst (rfs Z.length (bl T).length)::MO.dK a::(bxs T).set i (.lst ((ddC T b).set 1 (.int T.n)))):=by
  refine CW rfl (Ju (u:=()) rfl rfl ?_);rw[NM (j:=1) (by rw[g_2];exact O2 d) rfl,s_2]
 refine EW (t_beg.trans (by rw[l])) (AT w (AT A ?_));have p:=(o.op _ _ hop).2;cases e with
 |wb v=>cases l
 |rb r=>cases l
 |we=>
  rw[←k (upd T.op 0 none) (-1) (by show Tk.mk _ _ _ (T.ends 0 (-1))=_;rw[DJ (h:=0) hop])];rcases p with ⟨_,v,_,q⟩|⟨q,_⟩
  ·unfold ddC;dsimp;rw[q,upd_self];rfl
  ·exact absurd q (AAv 0)
 |re r v=>
  refine Dk (AX t_3) ?_;rw[←k (upd T.op (r+1) none) v (by show Tk.mk _ _ _ (T.ends (r+1) v)=_;rw[DJ (h:=r+1) hop])];refine CW (po rfl rfl rfl) (Ju (u:=()) rfl rfl ?_);rw[NM (s _) rfl,s_2,List.set_set];rcases p with ⟨q,_⟩|⟨_,q⟩
  ·cases q
  ·unfold ddC;dsimp only;rw[q,upd_self];rfl
end
end K93
namespace K93
open PySem L2 Mi Nk Wb Ht
open K13 (Ev Ev.beg Ev.hand Ev.val wfG Ns nm evD bS po pc pd pq pa pr Ae AU BD Bl BZ BF Du A7 Ej)
section
variable{T:Tk}{Z:Mh}{i b n:Nat}{a:List (Key×D)}{ns:List Str}{sz:Int}{o0 o1:Option D}{e:Ev}
theorem Hw:(bl T).length<=T.n:=AAq (List.length_filter_le ..) (by simp)
theorem step_n:(T.step e).n=T.n+1:=by cases e<;>rfl
theorem Ew:(T.step e).op=upd T.op e.hand (if e.beg then some T.n else none):=by cases e<;>rfl
theorem step_bl(c:T.Ok):bl (T.step e)=if e.beg then bl T++[T.n] else bl T:=by
 cases e with
 |wb v=>exact Gc
 |rb r=>exact Gc
 |we=>exact Fy c
 |re r v=>exact Fy c
def Ats(ns:List Str)(T:Tk)(a:List (Key×D)):Prop:=∀h b,h<ns.length->T.op h=some b->∃i:Nat,CU a (.inr (nm ns h))=some (.int i)/\(bl T)[i]?=some b
theorem Ats.beg(N:Ns ns)(l:T.Ok)(m:e.hand<ns.length)(f:e.beg=true)(h:Ats ns T a):Ats ns (T.step e) (Dc a (.inr (nm ns e.hand)) (.int (bl T).length)):=λj c g d=>by
 rw[Ew,f] at d;rw[K13.Dt,step_bl l,f];by_cases z:j=e.hand
 ·subst z;rw[upd_self] at d;refine⟨(bl T).length,if_pos rfl,?_⟩;show (bl T++[T.n])[(bl T).length]?=_;rw[AAR (AAE _),AAt];exact d
 ·rw[upd_ne z] at d;obtain⟨i,o,k⟩:=h j c g d;refine⟨i,?_,?_⟩
  ·rw[if_neg λy=>z (N.inj g m (Sum.inr.inj y))];exact o
  ·show (bl T++[T.n])[i]?=_;rw[AAS (AAT.mp k).1];exact k
theorem Ats.end(g:T.Ok)(f:e.beg=false)(h:Ats ns T a):Ats ns (T.step e) a:=λj c k d=>by
 rw[Ew,f] at d;rw[step_bl g,f];by_cases z:j=e.hand
 ·rw[z,upd_self] at d;cases d
 ·rw[upd_ne z] at d;exact h j c k d
theorem Ox(N:Ns ns):∀(es:List Ev) (T:Tk) (G:Nat->Bool) (a:List (Key×D)) (o4 o5 d:Option D),T.Ok->Bs G T->wfG G es->(∀e∈es,e.Ok ns sz)->Ats ns T a->T.n+es.length<=900->a.length<=T.n->
  ∃(m:List (Key×D)) (g h j:Option D),B5 (Cq [4,5]) Ra (Ct T.n (es.map (evD ns))) (sd7 o0 o1 Z.length o4 o5 d) (HD Z T a)=some ((.next,sd7 o0 o1 Z.length g h j),HD Z (run T es) m)
 |[],T,G,a,o4,o5,d,_,_,_,_,_,_,_=>⟨a,o4,o5,d,rfl⟩
 |e::es,T,G,a,o4,o5,d,k,s,wf,t,c,z,Q=>by
  have p:=t e AAP;obtain⟨q,r⟩:=DC k s wf.1 λv A=>(p.v v A).1;rw[AAH] at z;have B:=Hw (T:=T);have u:∀o w,Ra _ (HD Z T a)=some _->Ats ns (T.step e) o->o.length<=T.n+1->∃(m:List (Key×D)) (g h j:Option D),B5 (Cq [4,5]) Ra (Ct T.n ((e::es).map (evD ns))) (sd7 o0 o1 Z.length o4 o5 d) _=some _:=λo w C E F=>by
   obtain⟨m,H,I,J,x⟩:=Ox N es (T.step e) _ o (some (.int T.n)) (some (evD ns e)) w q r wf.2 (λf K=>t f (AAQ _ K)) E (by rw[step_n];lia) (by rw[step_n];exact F);rw[step_n] at x;exact⟨m,H,I,J,AU rfl C x⟩
  cases l:e.beg with
  |true=>exact u _ _ (Wv k l (by lia) (by lia)) (c.beg N k p.h l) (AAq (Du ..) (by lia))
  |false=>
   obtain⟨b,y⟩:=IE s (wf.1.trans (by rw[l];rfl));obtain⟨i,L,O⟩:=c _ b p.h y;exact u _ _ (Wu k l y L O) (c.end k l) (by lia)
theorem Fg:∀(es:List Ev) {T:Tk} {G:Nat->Bool},T.Ok->Bs G T->wfG G es->(∀e∈es,e.Ok ns sz)->(run T es).Ok
 |[],_,_,c,_,_,_=>c
 |e::es,_,_,c,j,wf,h=>by
  obtain⟨d,g⟩:=DC c j wf.1 λv k=>((h e AAP).v v k).1;exact Fg es d g wf.2 λf l=>h f (AAQ _ l)
theorem X0:∀b,Cl k (ddD T b):=λb=>by
 unfold ddD;cases T.fn b with
 |none=>
  cases T.wv b with
  |none=>simp[Cl,ClL]
  |some w=>cases w<;>simp[Cl,ClL]
 |some p=>
  cases T.wv b with
  |none=>simp[Cl,ClL]
  |some w=>cases w<;>simp[Cl,ClL]
theorem UR(h:(bl T)[i]?=some b):EV (HD Z T a) Z.length 7 (.ref (Z.length+2+i))=ddD T b:=by
 unfold EV;rw[Nat.ble_eq_true_of_le (by lia),g_2,O2 h];show D.lst _=.lst (ddC T b);unfold ddC;cases T.fn b with
 |none=>
  cases T.wv b with
  |none=>rfl
  |some w=>cases w<;>rfl
 |some p=>
  cases T.wv b with
  |none=>rfl
  |some w=>cases w<;>rfl
end
end K93
namespace K18
open PySem L2 Mi Nk Wb Ht
open K13 (Ev Ev.beg Ev.hand Ev.val wfG Ns nm evD BH bS po pc pd pq pa pr Ae Ax AU BD Bl BZ BF A7 GR Oh BJ B9)
open K16 (Dy gs_beg gs_end)
open K93 (Tk Tk.step Tk.Ok T0 ok0 Bs run DC IE DJ bl bl_lt bl_nd Gc Fy ET Hw step_n Ew step_bl ddD ddC rfs OD bxs O2 MK HD g_0 g_1 g_2 sd7 Ra Ats Ox Fg X0 UR Gz IX)
section
variable{T:Tk}{Z:Mh}{i b n:Nat}{ns:List Str}{sz:Int}{e:Ev}{Mu:Mh}
theorem La(N:Ns ns)(g:wfG (λ_=>false) es)(j:∀e∈es,e.Ok ns sz)(l:es.length<=900):EJ [mk,.lst (es.map (evD ns))] Z=some (.lst ((bl (run T0 es)).map (ddD (run T0 es))),Z):=by
 obtain⟨k,m,o,p,d⟩:=Ox N es T0 _ [] none none none ok0 (λ_=>rfl) g j (λh b _ z=>by cases z) (by show 0+_<=_;lia) (AAE _);generalize run T0 es=T at d ⊢;have a:NH (Bc 7 [mk,.lst _]) Z=some _:=AT rfl (AT (w5:=Z++[MO.lst [],_]) (CW (by show some _=_;simp) rfl) (AT (Dl rfl d) rfl));have f:EV (HD Z T k) Z.length 8 (.ref Z.length)=.lst ((bl T).map (ddD T)):=by
  unfold EV;rw[Nat.ble_eq_true_of_le (AAE _),g_0];refine congrArg _ (List.ext_getElem? λi=>?_);rw[AAV,AAV];by_cases c:i<(bl T).length
  ·rw[OD c,AAr c];exact congrArg some (UR (AAr c))
  ·rw[List.getElem?_eq_none (by unfold rfs;simp_all),List.getElem?_eq_none (by lia)];rfl
 have:=Nj a rfl (GV (by unfold Cl;trivial)) rfl (by rw[f];exact A7 X0 _);rw[f] at this;exact this
noncomputable def wI(T:Tk)(b:Nat):Int:=match T.wv b with
 |some (some v)=>v
 |_=>match T.fn b with
  |some (_,v)=>v
  |none=>-1
noncomputable def pdC(hn:Nat->Nat)(T:Tk)(b:Nat):List D:=[.int (hn b),.int (wI T b),.int b,(match T.fn b with|some (p,_)=>.int p|none=>.non)]
noncomputable def pdD(hn:Nat->Nat)(T:Tk)(b:Nat):D:=.lst (pdC hn T b)
variable{hn:Nat->Nat}
noncomputable def rf1(n k:Nat):List D:=(List.range k).map λi:Nat=>D.ref (n+1+i)
noncomputable def bx1(hn:Nat->Nat)(T:Tk):List MO:=(bl T).map λb=>MO.lst (pdC hn T b)
noncomputable abbrev HP(Z:Mh)(hn:Nat->Nat)(T:Tk):Mh:=Z++MO.lst (rf1 Z.length (bl T).length)::bx1 hn T
theorem h_0:(Z++x::a)[Z.length]?=some x:=by rw[AAR (AAE _),AAt];rfl
theorem h_1:(Z++x::a)[Z.length+1+i]?=a[i]?:=by rw[AAR (by lia),show Z.length+1+i-Z.length=i+1 by lia];rfl
theorem k_0:(Z++x::a).set Z.length z=Z++z::a:=by simp
theorem k_1:(Z++x::a).set (Z.length+1+i) z=Z++x::a.set i z:=by rw[AAe _ _ (by lia),show Z.length+1+i-Z.length=i+1 by lia];rfl
theorem Sx(h:i<n):(rf1 Z.length n)[i]?=some (.ref (Z.length+1+i)):=by
 unfold rf1;rw[AAV,List.getElem?_range h];rfl
theorem Uw(h:(bl T)[i]?=some b):(bx1 hn T)[i]?=some (.lst (pdC hn T b)):=by
 unfold bx1
 simp_all
theorem Qa:(bx1 hn T).length=(bl T).length:=AAF ..
noncomputable abbrev pdB:Sl->M (Fl×Sl):=(sIf (AN (mOp Af (mOp AJ (AA 3) (mC (.int 0))) (mC (.str "begin")))) (Bt (BG DM (AA 1) (AD (AE Dv (AD (mOp AJ (AA 3) (mC (.int 1))) (AD (mOp AJ (AA 3) (mC (.int 2))) (AD (AA 2) (AD (mC .non) AK))))) AK))) (AS (AY (mOp AJ (AA 1) (mOp AJ (AA 3) (mC (.int 3)))) (AO 4))
  (AS (AY (AA 2) (Hz (AA 4) (mC (.int 3))))
  (sIf (AN (mOp OI (mOp AJ (AA 3) (mC (.int 1))) (mC (.int 0)))) (AY (mOp AJ (AA 3) (mC (.int 2))) (Hz (AA 4) (mC (.int 1)))) A6))))
noncomputable abbrev sp5(o0:Option D)(n:Nat)(k e o4:Option D):Sl:=[o0,some (.ref n),k,e,o4]
variable{o0 o4:Option D}{g:Int}
theorem q_beg:AN (mOp Af (mOp AJ (AA 3) (mC (.int 0))) (mC (.str "begin"))) (sp5 o0 n (some (.int T.n)) (some (BH e g)) o4) Mu=some (e.beg,Mu):=AX (po rfl rfl GR)
theorem Za(d:T.Ok)(h:e.beg=true)(j:hn T.n=e.hand):(Z++MO.lst (rf1 Z.length (bl T).length++[.ref (Z.length+1+(bl T).length)])::(bx1 hn T++[.lst [.int e.hand,.int (e.val.getD (-1)),.int T.n,.non]]))=HP Z hn (T.step e):=by
 have a:∀f w,[.int e.hand,_,.int T.n,.non]=pdC hn _ T.n->T.step e=⟨T.n+1,f,K93.upd T.wv T.n (some w),T.fn⟩->(Z++MO.lst (rf1 Z.length (bl T).length++[.ref (Z.length+1+(bl T).length)])::(bx1 hn T++[.lst [.int e.hand,.int (e.val.getD (-1)),.int T.n,.non]]))=HP Z hn (T.step e):=λf w l m=>by
  unfold HP bx1;rw[m,Gc,l,AAG,List.length_singleton,AAX];refine congrArg (Z++·) (congr (congrArg _ (congrArg MO.lst ?_)) (congrArg (·++_) (List.map_congr_left λc o=>congrArg MO.lst ?_)))
  ·unfold rf1;rw[List.range_succ,AAX];rfl
  ·unfold pdC wI;dsimp;rw[K93.upd_ne (AAc (bl_lt o))]
 have k:T.fn T.n=none:=by
  cases q:T.fn T.n with
  |none=>rfl
  |some p=>exact absurd (d.lt _ (d.fn T.n p.1 p.2 q).2) (AAv _)
 cases e with
 |wb v=>exact a _ (some v) (by unfold pdC wI;dsimp;rw[K93.upd_self,k,j];rfl) rfl
 |rb r=>exact a _ none (by unfold pdC wI;dsimp only;rw[K93.upd_self,k,j];rfl) rfl
 |we=>cases h
 |re r v=>cases h
theorem Y3(c:T.Ok)(a:e.beg=true)(f:hn T.n=e.hand)(h:(bl T).length<=900):pdB (sp5 o0 Z.length (some (.int T.n)) (some (BH e g)) o4) (HP Z hn T)=some ((.next,sp5 o0 Z.length (some (.int T.n)) (some (BH e g)) o4),HP Z hn (T.step e)):=by
 have j:=BF;have k:(rf1 Z.length (bl T).length).length=(bl T).length:=by unfold rf1;simp_all
 rw[←Za c a f];refine Dk (q_beg.trans (by rw[a])) (DI (d:=.non) (Da (w6:=HP Z hn T) rfl (BJ h_0) rfl ?_));rw[show (HP Z hn T).length=Z.length+1+(bl T).length from by rw[AAG,AAH,Qa];lia];rw[AAk];show DM _ _ (Z++_::(bx1 hn T++_))=_;rw[B9 h_0 (by lia),k_0]
theorem Y2(o:T.Ok)(m:e.beg=false)(hop:T.op e.hand=some b)(t:g=(i:Int))(a:(bl T)[i]?=some b):pdB (sp5 o0 Z.length (some (.int T.n)) (some (BH e g)) o4) (HP Z hn T)=some ((.next,sp5 o0 Z.length (some (.int T.n)) (some (BH e g)) (some (.ref (Z.length+1+i)))),HP Z hn (T.step e)):=by
 subst t;have k  := (AAT.mp a).1;have w:∀p ,(Z++MO.lst (rf1 Z.length (bl T).length)::(bx1 hn T).set i _)[Z.length+1+i]?=some (.lst p):=λp=>by rw[h_1,List.getElem?_set_self (by rw[Qa];exact k)]
 have l:∀f v,T.step e=⟨_,f,_,K93.upd _ b (some (T.n,v))⟩->Z++MO.lst _::(bx1 hn T).set i _=HP Z hn (T.step e):=λf v h=>by
  unfold HP bx1;rw[h,Fy o,IX bl_nd a λc x=>?_];unfold pdC wI;dsimp;rw[K93.upd_ne x]
 have y:AY (mOp AJ (AA 1) (mOp AJ (AA 3) (mC (.int 3)))) (AO 4) (sp5 o0 _ (some (.int T.n)) (some (BH e i)) o4) (HP Z hn T)=some _:=
  pa (po rfl rfl (L5 h_0 (BZ (Sx k)))) rfl
 have z:AY (AA 2) (Hz (AA 4) (mC (.int 3))) (sp5 o0 Z.length (some (.int T.n)) (some (BH e i)) (some (.ref (Z.length+1+i)))) (HP Z hn T)=some ((.next,sp5 o0 Z.length (some (.int T.n)) (some (BH e i)) (some (.ref (Z.length+1+i)))),Z++MO.lst (rf1 Z.length (bl T).length)::(bx1 hn T).set i (.lst ((pdC hn T b).set 3 (.int T.n)))):=by
  refine CW rfl (Ju (u:=()) rfl rfl ?_);rw[NM (j:=3) (by rw[h_1];exact Uw a) rfl,k_1]
 refine EW (q_beg.trans (by rw[m])) (AT y (AT z ?_));have s:=(o.op _ _ hop).2;cases e with
 |wb v=>cases m
 |rb r=>cases m
 |we=>
  rw[←l _ (-1) (by show Tk.mk _ _ _ _=_;rw[DJ (h:=0) hop])];rcases s with ⟨_,v,_,q⟩|⟨q,_⟩
  ·unfold pdC wI;dsimp;rw[q,K93.upd_self];rfl
  ·exact absurd q (AAv 0)
 |re r v=>
  refine Dk (AX (po rfl rfl (by show some (D.bl (decide (0<(r+1:Int))),_)=_;simp_all))) ?_;rw[←l _ v (by show Tk.mk _ _ _ _=_;rw[DJ (h:=r+1) hop])];refine CW (d:=.int v) rfl (Ju (u:=()) rfl rfl ?_);rw[NM (w _) rfl,k_1,List.set_set];rcases s with ⟨q,_⟩|⟨_,q⟩
  ·cases q
  ·unfold pdC wI;dsimp only;rw[q,K93.upd_self];rfl
def Cur(T:Tk)(c:Nat->Int):Prop:=∀h b,T.op h=some b->∃i:Nat,c h=i/\(bl T)[i]?=some b
theorem Cur.beg(l:T.Ok)(f:e.beg=true)(h:Cur T c):Cur (T.step e) (λh=>if h=e.hand then ((bl T).length:Int) else c h):=λj d a=>by
 rw[Ew,f] at a;rw[step_bl l,f];by_cases z:j=e.hand
 ·subst z;rw[K93.upd_self] at a;refine⟨_,if_pos rfl,?_⟩;show (bl T++[T.n])[(bl T).length]?=_;rw[AAR (AAE _),AAt];exact a
 ·rw[K93.upd_ne z] at a;obtain⟨i,m,k⟩:=h j d a;refine⟨i,by simp_all,?_⟩;show (bl T++[T.n])[i]?=_;rw[AAS (AAT.mp k).1];exact k
theorem Cur.end(k:T.Ok)(f:e.beg=false)(h:Cur T c):Cur (T.step e) c:=λj d a=>by
 rw[Ew,f] at a;rw[step_bl k,f];by_cases z:j=e.hand
 ·rw[z,K93.upd_self] at a;cases a
 ·rw[K93.upd_ne z] at a;exact h j d a
theorem XX:∀(es:List Ev) (T:Tk) (G:Nat->Bool) (c:Nat->Int) (o2 o3 o4:Option D),T.Ok->Bs G T->wfG G es->(∀e∈es,e.Ok ns sz)->Cur T c->(∀i e,es[i]?=some e->hn (T.n+i)=e.hand)->T.n+es.length<=900->
  ∃h j k:Option D,B5 (Cq [2,3]) pdB (Ct T.n ((es.zip (Dy (bl T).length c es)).map λp=>BH p.1 p.2)) (sp5 o0 Z.length o2 o3 o4) (HP Z hn T)=some ((.next,sp5 o0 Z.length h j k),HP Z hn (run T es))
 |[],T,G,c,o2,o3,o4,_,_,_,_,_,_,_=>⟨o2,o3,o4,rfl⟩
 |e::es,T,G,c,o2,o3,o4,d,w,wf,x,l,y,m=>by
  have E:=x e AAP;obtain⟨o,q⟩:=DC d w wf.1 λv F=>(E.v v F).1;rw[AAH] at m;have H:=Hw (T:=T);have r:∀i f,es[i]?=some f->hn ((T.step e).n+i)=f.hand:=λi f s=>by
   rw[step_n];have:=y (i+1) f s;rw[show T.n+_=T.n+1+i by lia] at this;exact this
  have z:∀g t u A,Dy _ c _=g::t->t=Dy _ u es->_->pdB _ (HP Z hn T)=some _->∃h j k:_,B5 _ pdB (Ct _ (((e::es).zip (Dy (bl T).length c (e::es))).map λp=>_)) (sp5 o0 Z.length o2 o3 o4) _=some _:=λg t u A I J K L=>by
   obtain⟨N,O,P,B⟩:=XX es (_) _ u (some (.int T.n)) (some (BH e g)) A o q wf.2 (λf s=>x f (AAQ _ s)) K r (by rw[step_n];lia);rw[step_n,←J] at B;rw[I];exact⟨N,O,P,AU rfl L B⟩
  cases a:e.beg with
  |true=>
   refine z _ _ _ _ (gs_beg a) ?_ (l.beg d a) (Y3 d a (y 0 e rfl) (by lia));rw[step_bl d,a]
   simp_all
  |false=>
   obtain⟨b,C⟩:=IE w (wf.1.trans (by rw[a];rfl));obtain⟨i,Q,R⟩:=l _ b C;refine z _ _ _ _ (gs_end a) ?_ (l.end d a) (Y2 d a C Q R);rw[step_bl d,a];rfl
theorem bj:∀b,Cl k (pdD hn T b):=λb=>by
 unfold pdD pdC;cases T.fn b<;>simp[Cl,ClL]
theorem Zf(h:(bl T)[i]?=some b):EV (HP Z hn T) Z.length 7 (.ref (Z.length+1+i))=pdD hn T b:=by
 unfold EV;rw[Nat.ble_eq_true_of_le (by lia),h_1,Uw h];show D.lst _=.lst _;unfold pdC;cases T.fn b<;>rfl
theorem SL(j:wfG (λ_=>false) es)(k:∀e∈es,e.Ok ns sz)(l:∀i e,es[i]?=some e->hn i=e.hand)(o:es.length<=900):FG [.lst ((es.zip (Dy 0 (λ_=>0) es)).map λp=>BH p.1 p.2)] Z=some (.lst ((bl (run T0 es)).map (pdD hn (run T0 es))),Z):=by
 obtain⟨q,r,s,d⟩:=XX es T0 _ _ none none none ok0 (λ_=>rfl) j k (λh b z=>by cases z) (λi e m=>by show hn (0+i)=_;rw[Nat.zero_add];exact l i e m) (by show 0+_<=_;lia);generalize run T0 es=T at d ⊢;have a:Jb (Bc 5 [.lst _]) Z=some _:=AT rfl (AT (Dl rfl d) (C6 rfl));have f:EV (HP Z hn T) Z.length 8 (.ref Z.length)=.lst ((bl T).map (pdD hn T)):=by
  unfold EV;rw[Nat.ble_eq_true_of_le (AAE _),h_0];refine congrArg _ (List.ext_getElem? λi=>?_);rw[AAV,AAV];by_cases c:i<(bl T).length
  ·rw[Sx c,AAr c];exact congrArg some (Zf (AAr c))
  ·rw[List.getElem?_eq_none (by unfold rf1;simp_all),List.getElem?_eq_none (by lia)];rfl
 have:=Nj a rfl (GV (by unfold Cl;trivial)) rfl (by rw[f];exact A7 bj _);rw[f] at this;exact this
end
end K18
namespace K18
open Nk Wb
open K93 (Tk Od V V0 chn bl ET bl_nd)
section
variable{T:Tk}{w bg:Int}{bs:List Nat}
noncomputable def oOf(T:Tk):Int->List Nat->Od
 |_,[]=>[]
 |w,b::r=>(b,((T.wv b).bind id).getD w)::oOf T (((T.wv b).bind id).getD w) r
theorem Gx:∀{bs:List Nat} {w:Int},(oOf T w bs).map Prod.fst=bs
 |[],_=>rfl
 |b::r,w=>congrArg _ Gx
theorem Po:∀{bs:List Nat} {w:Int},chn T w (oOf T w bs)
 |[],_=>trivial
 |b::r,w=>⟨rfl,Po⟩
theorem Tp:∀{o:Od} {w:Int},chn T w o->oOf T w (o.map Prod.fst)=o
 |[],_,_=>rfl
 |(b,u)::o,w,h=>by
  obtain⟨a,c⟩:=h;show (b,_)::oOf T _ _=_;rw[←a,Tp c]
noncomputable def heB(T:Tk)(bs:List Nat):Bool:=(bl T).all λb=>(T.fn b).isNone||decide (b∈bs)
noncomputable def enB(T:Tk)(m:Int)(b:Nat):Bool:=match T.fn b with
 |some (p,_)=>decide (m<=p)
 |none=>true
noncomputable def kt(T:Tk):Int->List Nat->Bool
 |_,[]=>true
 |m,b::r=>enB T m b&&kt T (max m b) r
def ktW(T:Tk)(w:Int)(b:Nat):Bool:=match T.fn b with
 |some (_,v)=>decide (v=w)
 |none=>true
def kw(T:Tk):Int->List Nat->Bool
 |_,[]=>true
 |w,b::r=>match T.wv b with
  |some (some v)=>kw T v r
  |_=>ktW T w b&&kw T w r
noncomputable def lw(T:Tk):List Nat->Int->List Nat->Bool
 |_,_,[]=>true
 |a,w,b::r=>(a.all λj=>enB T j b)&&match T.wv b with
  |some (some v)=>lw T (a++[b]) v r
  |_=>ktW T w b&&lw T (a++[b]) w r
theorem enB_iff:enB T m b=true↔∀p v,T.fn b=some (p,v)->m<=p:=by
 unfold enB;cases T.fn b with
 |none=>exact by simp
 |some q=>exact⟨λh p v z=>by simp_all,λh=>AAO (h q.1 q.2 rfl)⟩
abbrev Tm(T:Tk)(i j:Nat):Prop:=∀p v,T.fn j=some (p,v)->i<=p
theorem Oj:∀{bs:List Nat} {m:Int},kt T m bs=true↔(∀b∈bs,enB T m b=true)/\bs.Pairwise (Tm T)
 |[],m=>⟨by simp,λ_=>rfl⟩
 |b::r,m=>by
  show (enB T m b&&kt T (max m b) r)=true↔_;rw[Bool.and_eq_true,Oj,AAw];have f:(∀c∈r,enB T (max m b) c=true)↔(∀c∈r,enB T m c=true)/\∀c∈r,Tm T b c:=by
   constructor
   ·intro h;refine⟨λc a=>enB_iff.mpr λp v z=>?_,λc a p v z=>?_⟩
    ·have:=enB_iff.mp (h c a) p v z;lia
    ·have:=enB_iff.mp (h c a) p v z;lia
   ·rintro⟨d,e⟩ c a;refine enB_iff.mpr λp v z=>?_;have:=enB_iff.mp (d c a) p v z;have:=e c a p v z;lia
  rw[f];constructor
  ·rintro⟨d,⟨e,g⟩,i⟩;exact⟨λc a=>(AAI.mp a).elim (λz=>z ▸ d) (e c),g,i⟩
  ·rintro⟨d,e,g⟩;exact⟨d b AAP,⟨λc a=>d c (AAQ _ a),e⟩,g⟩
theorem T3:∀{bs a:List Nat} {w:Int},lw T a w bs=true↔(∀j∈a,∀b∈bs,Tm T j b)/\bs.Pairwise (Tm T)/\kw T w bs=true
 |[],a,w=>⟨λ_=>⟨by simp,by simp,rfl⟩,λ_=>rfl⟩
 |b::r,a,w=>by
  have m:(a.all λj=>enB T j b)=true↔∀j∈a,Tm T j b:=by
   rw[List.all_eq_true];exact forall_congr' λj=>imp_congr_right λ_=>enB_iff.trans (by simp)
  have h:∀{u:Int} {K:Prop},(∀j∈a,Tm T j b)/\K/\lw T (a++[b]) u r=true↔(∀j∈a,∀c∈b::r,Tm T j c)/\(b::r).Pairwise (Tm T)/\K/\kw T u r=true:=λ{u K}=>by
   rw[T3,AAw];constructor
   ·rintro⟨e,i,f,k,l⟩;exact⟨λj d c g=>(AAI.mp g).elim (λz=>z ▸ e j d) (f j (AAa _ d) c),⟨f b (by simp),k⟩,i,l⟩
   ·rintro⟨e,⟨f,k⟩,i,l⟩;refine⟨λj d=>e j d b AAP,i,λj d c g=>?_,k,l⟩;rcases AAJ.mp d with z|z
    ·exact e j z c (AAQ _ g)
    ·rw[AAK.mp z];exact f c g
  unfold lw kw;rw[Bool.and_eq_true,m];cases T.wv b with
  |none=>dsimp;rw[Bool.and_eq_true,Bool.and_eq_true];exact h
  |some q=>
   cases q with
   |none=>dsimp;rw[Bool.and_eq_true,Bool.and_eq_true];exact h
   |some v=>
    have:=h (u:=v) (K:=True);simp only[true_and] at this;exact this
theorem UC:∀{bs:List Nat} {w:Int},(∀b∈bs,T.wv b≠none)->(kw T w bs=true↔∀b u p v,(b,u)∈oOf T w bs->T.fn b=some (p,v)->T.wv b=some none->u=v)
 |[],w,_=>⟨λ_ b u p v h=>(by cases h),λ_=>rfl⟩
 |b::r,w,g=>by
  have f  := λc a=>g c (AAQ _ a);have i:∀{u:Int} {K:Prop},u=((T.wv b).bind id).getD w->(K↔∀p v,T.fn b=some (p,v)->T.wv b=some none->u=v)->(K/\kw T u r=true↔∀c x p v,(c,x)∈oOf T w (b::r)->T.fn c=some (p,v)->T.wv c=some none->x=v):=λ{u K} d j=>by
   rw[UC f,j];constructor
   ·rintro⟨k,l⟩ c x p v a;rcases AAI.mp a with z|z
    ·cases z;rw[←d];exact k p v
    ·rw[←d] at z;exact l c x p v z
   ·intro h;refine⟨λp v=>?_,λc x p v a=>h c x p v (AAQ _ (by rw[←d];exact a))⟩;have:=h b u p v (by rw[d];exact AAP);exact this
  unfold kw;cases e:T.wv b with
  |none=>exact absurd e (g b AAP)
  |some q=>
   cases q with
   |none=>
    dsimp;rw[Bool.and_eq_true];refine i (by rw[e];rfl) ?_;unfold ktW;cases T.fn b with
    |none=>exact(by simp)
    |some y=>exact⟨λh p v z _=>by simp_all,λh=>AAO (h y.1 y.2 rfl e).symm⟩
   |some v=>
    have:=i (u:=v) (by rw[e];rfl) ⟨λ_ p x _ z=>by simp_all,λ_=>trivial⟩;simp at this;exact this
noncomputable def vb(T:Tk)(bg:Int)(bs:List Nat):Bool:=heB T bs&&(kt T (-1) bs&&kw T bg bs)
theorem SJ(c:T.Ok)(g:bs.Nodup)(k:∀b∈bs,b∈bl T):vb T bg bs=true↔V T bg (oOf T bg bs):=by
 have e  := λb h=>(ET c).mp (k b h);unfold vb;rw[Bool.and_eq_true,Bool.and_eq_true,Oj,UC e];have l:heB T bs=true↔∀b,T.fn b≠none->∃u,(b,u)∈oOf T bg bs:=by
  unfold heB;rw[List.all_eq_true];have a:∀b,b∈bs↔∃u,(b,u)∈oOf T bg bs:=λb=>by
   conv=>lhs;rw[←Gx (T:=T) (bs:=bs) (w:=bg)]
   exact by simp
  constructor
  ·intro h b f;have d:b∈bl T:=by
    cases q:T.fn b with
    |none=>exact absurd q f
    |some y=>exact(ET c).mpr (c.fn b y.1 y.2 q).2
   have:=h b d;rw[Bool.or_eq_true] at this;rcases this with z|z
   ·exact absurd (Option.isNone_iff_eq_none.mp z) f
   ·exact(a b).mp (of_decide_eq_true z)
  ·intro h b _;by_cases q:T.fn b=none
   ·rw[q];rfl
   ·rw[AAO ((a b).mpr (h b q)),Bool.or_true]
 have m:∀{b:Nat},enB T (-1) b=true:=λ{b}=>enB_iff.mpr (by simp);have n:bs.Pairwise (Tm T)↔(oOf T bg bs).Pairwise λi j=>∀p v,T.fn j.1=some (p,v)->i.1<=p:=by
  conv=>lhs;rw[←Gx (T:=T) (bs:=bs) (w:=bg)]
  rw[List.pairwise_map]
 rw[l,n];constructor
 ·rintro⟨o,⟨_,r⟩,s⟩;exact⟨⟨by rw[Gx];exact g,λp t=>e p.1 (by rw[←Gx (bs:=bs)];exact AAL.mpr ⟨p,t,rfl⟩),Po,s,r⟩,o⟩
 ·intro h;exact⟨h.all,⟨λb _=>m,h.od⟩,h.tl⟩
theorem bK(bg:Int):(heB T bs&&lw T [] bg bs)=vb T bg bs:=by
 congr 1;rw[Bool.eq_iff_iff,T3,Bool.and_eq_true,Oj];have a:∀{b:Nat},enB T (-1) b=true:=λ{b}=>enB_iff.mpr λp v _=>by lia
 exact⟨λh=>⟨⟨λb _=>a,h.2.1⟩,h.2.2⟩,λh=>⟨by simp,h.1.2,h.2⟩⟩
end
end K18
namespace K18
open PySem L2 Mi Nk Wb Ht
open K13 (Aw Ai po pc pd p2 pq pa piT piF pr AU CL BD Bl Ba BB Ae BZ BF BP Db En Dt Du L6 LY II C7)
open K93 (Tk bl ksD)
section
variable{T:Tk}{Z:Mh}{hn:Nat->Nat}{k:Nat}{ks:List Nat}
noncomputable def gk(T:Tk)(k:Nat):Nat:=(bl T).getD k 0
theorem G6(h:k<(bl T).length):(bl T)[k]?=some (gk T k):=by
 unfold gk
 simp_all
theorem Jo(h:k<(bl T).length):gk T k∈bl T:=AAU (G6 h)
theorem UQ(h:k<(bl T).length)(g:j<(bl T).length)(e:gk T k=gk T j):k=j:=by
 have a:=G6 h;have b:=G6 g;rw[AAr h] at a;rw[AAr g] at b;exact(List.getElem_inj K93.bl_nd).mp ((Option.some.inj a).trans (e.trans (Option.some.inj b).symm))
theorem UP:(List.range (bl T).length).map (gk T)=bl T:=by
 refine List.ext_getElem? λi=>?_;rw[AAV];by_cases a:i<(bl T).length
 ·rw[List.getElem?_range a,G6 a];rfl
 simp_all
noncomputable abbrev pdL(hn:Nat->Nat)(T:Tk):D:=.lst ((bl T).map (pdD hn T))
theorem X3(h:k<(bl T).length):AJ (pdL hn T) (.int k) Z=some (pdD hn T (gk T k),Z):=GQ (BZ (by rw[AAV,G6 h];rfl))
noncomputable abbrev enD(T:Tk)(b:Nat):D:=match T.fn b with|some (p,_)=>.int p|none=>.non
theorem WQ:AJ (pdD hn T b) (.int 3) Z=some (enD T b,Z):=rfl
theorem Kj(h:mo B Z=some (enD T b,Z)):AN (mOp (CA true) mo (mC .non)) B Z=some ((T.fn b).isSome,Z):=by
 refine AX (po h rfl ?_);unfold enD;cases T.fn b<;>rfl
theorem QM:Ct 0 ((bl T).map f)=(List.range (bl T).length).map λk:Nat=>D.tup [.int k,f (gk T k)]:=by
 refine List.ext_getElem? λi=>?_;rw[Hr,AAV,AAV];by_cases a:i<(bl T).length
 ·rw[List.getElem?_range a,G6 a]
  simp_all
 simp_all
theorem Xl{α:Type}{f:α->Bool}{xs:List α}:U2 [.lst (xs.map λa=>D.bl (f a))] Z=some (.bl (xs.all f),Z):=by
 show (ML _).map _=_;rw[Qb,Option.map_some,List.all_map];rfl
theorem SK(d:ks.Nodup)(n:ks.length<=1000):FH [ksD ks] Z=some (.bl true,Z):=by
 refine Ac (g:=[]) (x3:=[some (ksD ks)]) ?_ rfl (by unfold Cl;trivial);rw[AAY];have e:ks.map (λk:Nat=>D.int k)=(ks.map λk:Nat=>(k:Int)).map D.int:=by rw[List.map_map];rfl
 have f:DU (ks.map λk:Nat=>D.int k)=some (ks.map λk:Nat=>(k:Int)):=by
  rw[e];generalize ks.map _=i
  induction i with
  |nil=>rfl
  |cons x r j=>show (DU _).map _=_;rw[j];rfl
 have l:(Cc (ks.map λk:Nat=>(k:Int))).length=ks.length:=by
  have c:(ks.map λk:Nat=>(k:Int)).Nodup:=List.Pairwise.map _ (λa b h z=>h (by lia)) d;have:=Gy c λx=>(NC _ x).mpr;have m:=L2.Pr (ks.map λk:Nat=>(k:Int));rw[AAF] at this m;lia
 refine pr (po ?_ (pd rfl (by show some _=_;rw[AAF])) (by rw[C7,beq_self_eq_true]));show bnd _ Ii Z=_;rw[AM (rfl)];unfold Ii;rw[AM (rfl),f];show (if (ks.map _).length+2<scanBound then some _ else none)=_;rw[if_pos (by rw[AAF];unfold scanBound;lia),l]
theorem Ql{N:Nat}(c:ks.Nodup)(d:∀k∈ks,k<N)(e:ks.length<=1000):FF [ksD ks,.int N] Z=some (.bl true,Z):=by
 have h:=BF;refine Ac (g:=[]) (x3:=[some (ksD ks),some (.int N)]) ?_ rfl (by unfold Cl;trivial);rw[AAY];have b:=Bl (Z:=Z) (mc:=DO) (me:=AE Aw (AD (AA 0) (AD (mC (.int 0)) (AD (mOp EA (AA 1) (mC (.int 1))) AK)))) (u3:=[none,some (.int N)]) (f:=λk:Nat=>D.int k) (ys:=[]) (λ_ _=>rfl) λk a _=>pd (pc rfl (pc rfl (pc (po rfl rfl rfl) rfl))) (LY (by lia) (by have:=d k a;lia));rw[Ba,List.nil_append] at b;refine pr (Cz (pd rfl ?_) (Cz (pd (pc (BD (BB rfl) (by rw[AAF];lia) b (Ae (by rw[AAF];lia))) rfl) ?_) (pd rfl (SK c e))))
 ·trivial
 ·have:=Xl (Z:=Z) (f:=λ_  => true) (xs:=ks);rw[this,List.all_eq_true.mpr λ_ _=>rfl]
end
end K18
namespace K18
open PySem L2 Mi Nk Wb Ht
open K13 (Aw Ai Ev Ev.beg Ev.hand Ev.val wfG Ns evD BH po pc pd p2 pq pa piT piF pr AU CL BD Ba BB Ae BZ BF BP Db En Dt Du L6 II C7 EX Ej)
open K16 (mkK Dy)
open K93 (Tk bl ksD run T0)
section
variable{T:Tk}{Z:Mh}{hn:Nat->Nat}{k:Nat}{ks:List Nat}
theorem MG{α:Type}{bf:D->Sl->M Sl}{me:Sl->M D}{mc:Sl->M Bool}{u3:Sl}{f F:α->D}{g:α->Sl}{p:α->Bool}:∀{xs:List α} {ys:List D},(∀a∈xs,bf (f a) u3 Z=some (g a,Z))->(∀a∈xs,mc (g a) Z=some (p a,Z))->(∀a∈xs,p a=true->me (g a) Z=some (F a,Z))->EY bf mc me u3 (xs.map f) ys Z=some (ys++(xs.filter p).map F,Z)
 |[],ys,_,_,_=>by show some (ys,Z)=_;simp
 |z::xs,ys,c,d,h=>by
  show bnd (bf (f z) u3) _ Z=_;rw[AM (c z (by simp)),AM (d z (by simp))];cases q:p z with
  |true=>
   rw[if_pos rfl,AM (h z (by simp) q),MG (λw b=>c w (by simp[b])) (λw b=>d w (by simp[b])) λw b=>h w (by simp[b])];simp[q]
  |false=>
   rw[if_neg (by decide),MG (λw b=>c w (by simp[b])) (λw b=>d w (by simp[b])) (λw b=>h w (by simp[b]))];simp[q]
theorem Mo:∀(js a:List Nat) (L:List (Key×D)) (o3:Option D),(∀k:Nat,(CU L (.inl (k:Int))).isSome=decide (k∈a))->L.length+js.length<=1000->∃(c:List (Key×D)) (b:Option D),(∀k:Nat,(CU c (.inl (k:Int))).isSome=decide (k∈a++js)) /\
  B5 (AO 3) (EN (AA 2) (AA 3) (mC (.bl true))) (js.map λk:Nat=>D.int k) [o0,o1,some (.ref Z.length),o3] (Z++[.dK L])=some ((.next,[o0,o1,some (.ref Z.length),b]),Z++[.dK c])
 |[],a,L,o3,h,_=>⟨L,o3,by rw[AAY];exact h,rfl⟩
 |j::js,a,L,o3,h,e=>by
  have i:=BF;rw[AAH] at e;have l:=Du L (.inl (j:Int)) (.bl true);obtain⟨c,b,d,f⟩:=Mo (o0:=o0) (o1:=o1) js (a++[j]) (Dc L (.inl (j:Int)) (.bl true)) (some (.int j)) (λk=>by
   rw[Dt];by_cases z:k=j
   ·subst z;rw[if_pos rfl,AAO (by simp)];rfl
   ·rw[if_neg λq=>z (by have:=Sum.inl.inj q;lia),h k];exact decide_eq_decide.mpr (by simp[z])) (by lia)
  refine⟨c,b,by rw[AAk] at d;exact d,AU (x:=.int j) rfl ?_ f⟩;have g:∀{x:MO},(Z++[x])[Z.length]?=some x:=λ{x}=>by rw[AAR (AAE _),AAt];rfl
  have:=En (B:=[o0,o1,some (.ref Z.length),some (.int j)]) (Z:=Z++[.dK L]) (n:=Z.length) (mo:=AA 2) (mi:=AA 3) (mv:=mC (.bl true)) (v:=.bl true) rfl rfl rfl g (by lia);rw[AAe _ _ (AAE _),AAt] at this;exact this
theorem Xr(c:∀k∈ks,k<(bl T).length):((List.range (bl T).length).filter λk=>(T.fn (gk T k)).isSome).all (λk=>decide (k∈ks))=heB T (ks.map (gk T)):=by
 unfold heB
 conv=>rhs;rw[←UP,List.all_map]
 rw[List.all_filter,Bool.eq_iff_iff,List.all_eq_true,List.all_eq_true];refine forall_congr' λa=>imp_congr_right λd=>?_;have f:gk T a∈ks.map (gk T)↔a∈ks:=by
  rw[AAL];exact⟨λ⟨j,b,e⟩=>UQ (c j b) (List.mem_range.mp d) e ▸ b,λh=>⟨a,h,rfl⟩⟩
 simp_all
theorem cC(d:∀k∈ks,k<(bl T).length)(j:ks.length<=900)(l:(bl T).length<=900):Cm [pdL hn T,ksD ks] Z=some (.bl (heB T (ks.map (gk T))),Z):=by
 have m:=BF;obtain⟨L,b,e,h⟩:=Mo ks [] [] none (λk=>rfl) (by simp;lia);have i:(Z++[MO.dK L])[Z.length]?=some (.dK L):=by rw[AAR (AAE _),AAt];rfl
 rw[←Xr d];refine Ac (g:=[.dK L]) (x3:=[some (pdL hn T),some (ksD ks),some (.ref Z.length),b]) (AT rfl (AT (Dl rfl h) ?_)) rfl (by unfold Cl;trivial);have c:=MG (bf:=Cq [0,1]) (mc:=(AN (mOp (CA true) (mOp AJ (AA 1) (mC (.int 3))) (mC .non)))) (me:=(mOp (Kc false) (AA 0) (AA 2))) (u3:=[none,none,some (.ref Z.length)]) (f:=λk:Nat=>D.tup [.int k,pdD hn T (gk T k)]) (F:=λk  => D.bl (decide (k∈ks))) (p:=λk=>(T.fn (gk T k)).isSome) (xs:=List.range (bl T).length) (ys:=[]) (λa _=>rfl) (λa _=>Kj (po rfl rfl WQ)) (λa _ _=>po rfl rfl (by rw[L6 i,e a];rfl));rw[List.nil_append] at c;refine C6 (pd (pc (BD ?_ (by rw[AAF,List.length_range];lia) c (Ae (by
  rw[AAF];have:=List.length_filter_le (λk=>(T.fn (gk T k)).isSome) (List.range (bl T).length);rw[List.length_range] at this;lia))) rfl) Xl)
 show bnd (AD (AA 0) AK [some (pdL hn T),some (ksD ks),some (.ref Z.length),b]) _ (Z++[.dK L])=_;rw[AM (rfl)];show some (Ct 0 ((bl T).map (pdD hn T)),Z++[MO.dK L])=_;rw[QM]
noncomputable abbrev ktB:Sl->M (Fl×Sl):=(AS (AY (mOp AJ (AA 0) (AA 3)) (AO 4))
  (AS (sIf (Dj (AN (mOp (CA true) (mOp AJ (AA 4) (mC (.int 3))) (mC .non))) (AN (mOp IS (mOp AJ (AA 4) (mC (.int 3))) (AA 2)))) (As (mC (.bl false))) A6)
  (AY (AE Tw (AD (AA 2) (AD (mOp AJ (AA 4) (mC (.int 2))) AK))) (AO 2))))
theorem Xn:∀(js:List Nat) (m:Int) (o3 o4:Option D),(∀k∈js,k<(bl T).length)->∃(c:Int) (a b:Option D),B5 (AO 3) ktB (js.map λk:Nat=>D.int k) [some (pdL hn T),o1,some (.int m),o3,o4] Z=some ((if kt T m (js.map (gk T)) then .next else .rt (.bl false),[some (pdL hn T),o1,some (.int c),a,b]),Z)
 |[],m,o3,o4,_=>⟨m,o3,o4,rfl⟩
 |j::js,m,o3,o4,h=>by
  have n:=h j AAP;obtain⟨c,o,p,r⟩:=Xn js (max m (gk T j)) (some (.int j)) (some (pdD hn T (gk T j))) λi s=>h i (AAQ _ s);have e:AY (mOp AJ (AA 0) (AA 3)) (AO 4) [some (pdL hn T),o1,some (.int m),some (.int j),o4] Z=some ((.next,[some (pdL hn T),o1,some (.int m),some (.int j),some (pdD hn T (gk T j))]),Z):=pa (po rfl rfl (X3 n)) rfl;have d:AN (mOp (CA true) (mOp AJ (AA 4) (mC (.int 3))) (mC .non)) [some (pdL hn T),o1,some (.int m),some (.int j),some (pdD hn T (gk T j))] Z=some ((T.fn (gk T j)).isSome,Z):=Kj (po rfl rfl WQ);have t:AY (AE Tw (AD (AA 2) (AD (mOp AJ (AA 4) (mC (.int 2))) AK))) (AO 2) [some (pdL hn T),o1,some (.int m),some (.int j),some (pdD hn T (gk T j))] Z=some ((.next,[some (pdL hn T),o1,some (.int (max m (gk T j))),some (.int j),some (pdD hn T (gk T j))]),Z):=by
   refine pa (pd (pc rfl (pc (po rfl rfl rfl) rfl)) ?_) rfl;show some (D.int (if gk T j > m then gk T j else m),Z)=_;rw[show (if gk T j > m then (gk T j:Int) else m)=max m (gk T j) from by split<;>lia]
  have u:kt T m ((j::js).map (gk T))=(enB T m (gk T j)&&kt T (max m (gk T j)) (js.map (gk T))):=rfl;rw[u];have f:enB T m (gk T j)=true->_->∃(c:Int) (a b:Option D),B5 (AO 3) ktB ((j::js).map λk:Nat=>D.int k) [some (pdL hn T),o1,some (.int m),o3,o4] Z=some ((if enB T m (gk T j)&&kt T (max m (gk T j)) (js.map (gk T)) then .next else .rt (.bl false),[some (pdL hn T),o1,some (.int c),a,b]),Z):=λv w=>by
   rw[v];exact⟨c,o,p,AU rfl (pq e (pq (piF w rfl) t)) r⟩
  cases q:T.fn (gk T j) with
  |none=>
   rw[q] at d;exact f (by unfold enB;rw[q]) (GD d)
  |some y=>
   rw[q] at d;have x:mOp AJ (AA 4) (mC (.int 3)) [some (pdL hn T),o1,some (.int m),some (.int j),some (pdD hn T (gk T j))] Z=some (.int y.1,Z):=po rfl rfl (by rw[WQ];unfold enD;rw[q]);have g:(Dj (AN (mOp (CA true) (mOp AJ (AA 4) (mC (.int 3))) (mC .non))) (AN (mOp IS (mOp AJ (AA 4) (mC (.int 3))) (AA 2)))) [some (pdL hn T),o1,some (.int m),some (.int j),some (pdD hn T (gk T j))] Z=some (decide (y.1<m),Z):=GC d (AX (po x rfl rfl));have l:enB T m (gk T j)=decide (m<=y.1):=by unfold enB;rw[q]
   by_cases z:m<=y.1
   ·exact f (by rw[l,AAO z]) (by rw[g,AAN (by lia)])
   ·rw[l,AAN z];exact⟨m,some (.int j),some (pdD hn T (gk T j)),CL rfl (pq e (Cn (piT (by rw[g,AAO (by lia)]) (pr rfl))))⟩
theorem cA(b:∀k∈ks,k<(bl T).length):DZ [pdL hn T,ksD ks] Z=some (.bl (kt T (-1) (ks.map (gk T))),Z):=by
 obtain⟨c,d,e,f⟩:=Xn ks (-1) none none b;refine Ac (g:=[]) (x3:=[some (pdL hn T),some (ksD ks),some (.int c),d,e]) ?_ rfl (by unfold Cl;trivial);rw[AAY];refine pq (pa rfl rfl) ?_;have a:D7 (CM (AA 1)) (AO 3) ktB [some (pdL hn T),some (ksD ks),some (.int (-1)),none,none] Z=_:=Dl (BB rfl) f;cases q:kt T (-1) (ks.map (gk T)) with
 |true=>rw[q] at a;exact pq a (pr rfl)
 |false=>rw[q] at a;exact Cn a
end
end K18
namespace K18
open PySem L2 Mi Nk Wb Ht
open K13 (Aw Ai Ev Ev.beg Ev.hand Ev.val wfG Ns evD BH hdD po pc pd p2 pq pa piT piF pr AU CL BD Ba BB Ae BZ BF BP II C7 EX Ej)
open K16 (mkK Dy)
open K93 (Tk Tk.step bl Gc Fy ET ksD run T0 ok0 Bs DC Fg Hw step_bl step_n)
section
variable{T:Tk}{Z:Mh}{hn:Nat->Nat}{k:Nat}{ks:List Nat}
def Hn(hn:Nat->Nat)(T:Tk):Prop:=∀b∈bl T,(hn b=0/\∃v,T.wv b=some (some v))∨(0<hn b/\T.wv b=some none)
noncomputable abbrev kwB:Sl->M (Fl×Sl):=(AS (AY (mOp AJ (AA 0) (AA 4)) (AO 5))
  (sIf (AN (mOp Af (mOp AJ (AA 5) (mC (.int 0))) (mC (.int 0)))) (AY (mOp AJ (AA 5) (mC (.int 1))) (AO 3)) (sIf (Dj (AN (mOp (CA true) (mOp AJ (AA 5) (mC (.int 3))) (mC .non))) (AN (mOp DA (mOp AJ (AA 5) (mC (.int 1))) (AA 3)))) (As (mC (.bl false))) A6)))
theorem Xm(t:Hn hn T):∀(js:List Nat) (w:Int) (o4 o5:Option D),(∀k∈js,k<(bl T).length)->∃(a:Int) (b c:Option D),B5 (AO 4) kwB (js.map λk:Nat=>D.int k) [some (pdL hn T),o1,o2,some (.int w),o4,o5] Z=some ((if kw T w (js.map (gk T)) then .next else .rt (.bl false),[some (pdL hn T),o1,o2,some (.int a),b,c]),Z)
 |[],w,o4,o5,_=>⟨w,o4,o5,rfl⟩
 |j::js,w,o4,o5,h=>by
  have A:=h j AAP;have B:=λu=>Xm (o1:=o1) (o2:=o2) t js u (some (.int j)) (some (pdD hn T (gk T j))) λi G=>h i (AAQ _ G);have l:AY (mOp AJ (AA 0) (AA 4)) (AO 5) [some (pdL hn T),o1,o2,some (.int w),some (.int j),o5] Z=some ((.next,[some (pdL hn T),o1,o2,some (.int w),some (.int j),some (pdD hn T (gk T j))]),Z):=pa (po rfl rfl (X3 A)) rfl;have m:AN (mOp Af (mOp AJ (AA 5) (mC (.int 0))) (mC (.int 0))) [some (pdL hn T),o1,o2,some (.int w),some (.int j),some (pdD hn T (gk T j))] Z=some (decide (hn (gk T j)=0),Z):=by
   refine AX (po (po rfl rfl rfl) rfl ?_);rw[C7];by_cases z:hn (gk T j)=0
   ·rw[z];rfl
   ·rw[AAN z,AAd.mpr (by lia)]
  have d:mOp AJ (AA 5) (mC (.int 1)) [some (pdL hn T),o1,o2,some (.int w),some (.int j),some (pdD hn T (gk T j))] Z=some (.int (wI T (gk T j)),Z):=po rfl rfl rfl;rcases t _ (Jo A) with ⟨z,v,e⟩|⟨z,e⟩
  ·obtain⟨a,n,o,p⟩:=B v;have r:kw T w ((j::js).map (gk T))=kw T v (js.map (gk T)):=by
    show (match T.wv (gk T j) with|some (some v)=>kw T v (js.map (gk T))|_=>ktW T w (gk T j)&&kw T w (js.map (gk T)))=_;rw[e]
   rw[r];have s:wI T (gk T j)=v:=by unfold wI;rw[e]
   rw[s] at d;exact⟨a,n,o,AU rfl (pq l (piT (by rw[m,AAO z]) (pa d rfl))) p⟩
  ·obtain⟨a,n,o,p⟩:=B w;have r:kw T w ((j::js).map (gk T))=(ktW T w (gk T j)&&kw T w (js.map (gk T))):=by
    show (match T.wv (gk T j) with|some (some v)=>kw T v (js.map (gk T))|_=>ktW T w (gk T j)&&kw T w (js.map (gk T)))=_;rw[e]
   rw[r];have f:AN (mOp (CA true) (mOp AJ (AA 5) (mC (.int 3))) (mC .non)) [some (pdL hn T),o1,o2,some (.int w),some (.int j),some (pdD hn T (gk T j))] Z=some ((T.fn (gk T j)).isSome,Z):=Kj (po rfl rfl WQ);have C:ktW T w (gk T j)=true->(Dj (AN (mOp (CA true) (mOp AJ (AA 5) (mC (.int 3))) (mC .non))) (AN (mOp DA (mOp AJ (AA 5) (mC (.int 1))) (AA 3)))) [some (pdL hn T),o1,o2,some (.int w),some (.int j),some (pdD hn T (gk T j))] Z=some (false,Z)->∃(a:Int) (b c:Option D),B5 (AO 4) kwB ((j::js).map λk:Nat=>D.int k) [some (pdL hn T),o1,o2,some (.int w),o4,o5] Z=some ((if ktW T w (gk T j)&&kw T w (js.map (gk T)) then .next else .rt (.bl false),[some (pdL hn T),o1,o2,some (.int a),b,c]),Z):=λH I=>by
    rw[H];exact⟨a,n,o,AU (x:=.int j) (x5:=[some (pdL hn T),o1,o2,some (.int w),some (.int j),o5]) rfl (pq l (piF (by rw[m,AAN (by lia)]) (piF I rfl))) p⟩
   cases q:T.fn (gk T j) with
   |none=>
    rw[q] at f;exact C (by unfold ktW;rw[q]) (GD f)
   |some y=>
    rw[q] at f;have s:wI T (gk T j)=y.2:=by unfold wI;rw[e,q]
    rw[s] at d;have E:(Dj (AN (mOp (CA true) (mOp AJ (AA 5) (mC (.int 3))) (mC .non))) (AN (mOp DA (mOp AJ (AA 5) (mC (.int 1))) (AA 3)))) [some (pdL hn T),o1,o2,some (.int w),some (.int j),some (pdD hn T (gk T j))] Z=some (!(y.2==w),Z):=GC f (AX (po d rfl rfl));have F:ktW T w (gk T j)=decide (y.2=w):=by unfold ktW;rw[q]
    by_cases g:y.2=w
    ·exact C (by rw[F,AAO g]) (by rw[E,g,beq_self_eq_true];rfl)
    ·rw[F,AAN g];exact⟨w,some (.int j),some (pdD hn T (gk T j)),CL rfl (pq l (piF (by rw[m,AAN (by lia)]) (piT (by rw[E,AAd.mpr g];rfl) (pr rfl))))⟩
theorem b9(b:Hn hn T)(c:∀k∈ks,k<(bl T).length):DH [pdL hn T,ksD ks,.int bg] Z=some (.bl (kw T bg (ks.map (gk T))),Z):=by
 obtain⟨d,e,f,h⟩:=Xm b ks bg none none c;refine Ac (g:=[]) (x3:=[some (pdL hn T),some (ksD ks),some (.int bg),some (.int d),e,f]) ?_ rfl (by unfold Cl;trivial);rw[AAY];refine pq (pa rfl rfl) ?_;have a:D7 (CM (AA 1)) (AO 4) kwB [some (pdL hn T),some (ksD ks),some (.int bg),some (.int bg),none,none] Z=_:=Dl (BB rfl) h;cases q:kw T bg (ks.map (gk T)) with
 |true=>rw[q] at a;exact pq a (pr rfl)
 |false=>rw[q] at a;exact Cn a
theorem UJ{es0:List Ev}:∀(es:List Ev) {T:Tk} {G:Nat->Bool},T.Ok->Bs G T->wfG G es->(∀e∈es,∀v,e.val=some v->0<=v)->(∀i e,es[i]?=some e->hn (T.n+i)=e.hand)->Hn hn T->Hn hn (run T es)
 |[],_,_,_,_,_,_,_,h=>h
 |e::es,T,G,d,q,wf,o,p,h=>by
  obtain⟨g,j⟩:=DC d q wf.1 (o e AAP);refine UJ (es0:=es0) es g j wf.2 (λf l=>o f (AAQ _ l)) (λi f l=>?_) λb a=>?_
  ·rw[step_n];have:=p (i+1) f l;rw[show T.n+(i+1)=T.n+1+i by lia] at this;exact this
  have s:hn T.n=e.hand:=p 0 e rfl;have c:∀f w,T.step e=⟨T.n+1,f,K93.upd T.wv T.n (some w),T.fn⟩->(e.hand=0/\∃v,w=some v)∨0<e.hand/\w=none->(hn b=0/\∃v,(T.step e).wv b=some (some v))∨0<hn b/\(T.step e).wv b=some none:=λf w t u=>by
   rw[t] at a ⊢;rw[Gc] at a;show (hn b=0/\∃v,K93.upd T.wv T.n (some w) b=some (some v))∨0<hn b/\K93.upd T.wv T.n (some w) b=some none;rcases AAJ.mp a with z|z
   ·rw[K93.upd_ne (AAc (K93.bl_lt z))];exact h b z
   ·rw[AAK.mp z,K93.upd_self,s];rcases u with ⟨m,v,n⟩|⟨m,n⟩
    ·exact .inl ⟨m,v,by rw[n]⟩
    ·exact .inr ⟨m,by rw[n]⟩
  cases e with
  |wb v=>exact c _ (some v) rfl (.inl ⟨rfl,v,rfl⟩)
  |rb r=>exact c _ none rfl (.inr ⟨Nat.succ_pos r,rfl⟩)
  |we=>exact h b (by have a:b∈bl ⟨T.n+1,_,T.wv,_⟩:=a;rw[Fy d] at a;exact a)
  |re r v=>exact h b (by have a:b∈bl ⟨T.n+1,_,T.wv,_⟩:=a;rw[Fy d] at a;exact a)
theorem Er{α:Type}{f:α->D}{k:Nat}(h:∀a,clB k (f a)=true):∀xs:List α,Do k (xs.map f)=true
 |[]=>rfl
 |x::xs=>by
  show (match clB k (f x) with|true=>Do k (xs.map f)|false=>false)=true;rw[h x];exact Er h xs
theorem QF:∀ks:List Nat,FP (.lst (ks.map λk:Nat=>D.int k))=true:=λks=>by
 show ((ks.map λk:Nat=>D.int k).all λd=>match d with | .int _=>true|_=>false)=true;rw[List.all_map];exact List.all_eq_true.mpr λ_ _=>rfl
theorem JE(d:r.all FP=true)(h:φ [a,c,ksD ks] r=some (.bl b,r))(e:Do r.length [a,c,.non]=true):JF 2 φ [a,c,.ref r.length] (r++[.lst (ks.map λk:Nat=>D.int k)])=some (.bl b,r++[.lst (ks.map λk:Nat=>D.int k)]):=by
 have f:(r++[MO.lst (ks.map λk:Nat=>D.int k)])[r.length]?=some (.lst (ks.map λk:Nat=>D.int k)):=by rw[AAR (AAE _),AAt];rfl
 have g:(r++[MO.lst (ks.map λk:Nat=>D.int k)]).take r.length=r:=List.take_left;unfold JF;show (match (r++[MO.lst (ks.map λk:Nat=>D.int k)])[r.length]? with
  |some (.lst i)=>if r.length+1=(r++[MO.lst (ks.map λk:Nat=>D.int k)]).length/\(r++[MO.lst (ks.map λk:Nat=>D.int k)]).all FP=true/\Do r.length [a,c,.non]=true then (_) else none
  |_=>none)=_
 rw[f,g];dsimp;rw[if_pos ⟨by rw[AAG];rfl,by rw[List.all_append,d];show (FP _&&true)=true;rw[QF];rfl,e⟩,h];dsimp;rw[if_pos ⟨rfl,d⟩]
end
end K18
namespace K18
open PySem L2 Mi Nk Wb Ht
open K13 (Aw Ai Ev Ev.beg Ev.hand Ev.val wfG Ns evD BH hdD po pc pd p2 pq pa piT piF pr AU CL BD Bl Ba BB Ae BZ BF BP II C7 EX Ej)
open K16 (mkK Dy)
open K93 (Tk bl ksD run T0 ok0 Fg Hw ddD Zo Zn)
section
variable{T:Tk}{Z:Mh}{hn:Nat->Nat}{k:Nat}{ks:List Nat}{ns:List Str}{kd:Str}{sz bg:Int}{es:List Ev}
noncomputable def hnE(es:List Ev)(b:Nat):Nat:=((es[b]?).map Ev.hand).getD 0
theorem UK(h:es[i]?=some e):hnE es i=e.hand:=by unfold hnE;rw[h];rfl
theorem V1(es:List Ev):∀{T:Tk},(run T es).n=T.n+es.length:=by
 induction es with
 |nil=>intro T;rfl
 |cons e es a=>
  intro T;show (run _ es).n=_;rw[a,K93.step_n,AAH];lia
theorem O4(h:es.length<=900):(bl (run T0 es)).length<=900:=by
 have:=Hw (T:=run T0 es);rw[V1] at this;have a:T0.n=0:=rfl;lia
noncomputable abbrev φB:List D->M D:=Az .drop 4 3 (IF Ai FG FF Cm DZ DH)
theorem Lb(N:Ns ns)(j:wfG (λ_=>false) es)(l:∀e∈es,e.Ok ns sz)(q:es.length<=100)(m:ks.Nodup)(a:∀k∈ks,k<(bl (run T0 es)).length):φB [mkK kd sz bg ns,.lst (es.map (evD ns)),ksD ks] Z=some (.bl (vb (run T0 es) bg (ks.map (gk (run T0 es)))),Z):=by
 obtain⟨B,C,r,n⟩:=K16.v_actsX (Z:=Z) (kd:=kd) (bg:=bg) N l j q;subst r;rw[K16.eq_acts] at n;have s:=SL (Z:=Z) j l (λi e h=>UK h) (by lia);have t:=O4 (es:=es) (by lia);have u  := UJ (es0:=es) es ok0 (λ_=>rfl) j (λe w v x=>((l e w).v v x).1) (λi e h=>by show hnE es (0+i)=_;rw[Nat.zero_add];exact UK h) λb y=>by cases y
 generalize run T0 es=T at *;have z:ks.length<=900:=by
  have:=Gy m λk h=>List.mem_range.mpr (a k h);rw[List.length_range] at this;lia
 refine Ac (g:=[]) (x3:=[some (mkK kd sz bg ns),some (.lst (es.map (evD ns))),some (ksD ks),some (pdL (hnE es) T)]) ?_ rfl (by unfold Cl;trivial);rw[AAY];refine pq (pa (d:=pdL (hnE es) T) (pd (pc (pd rfl n) rfl) s) rfl) ?_;refine pq (piF (EK (b:=true) (AX (pd (pc rfl (pc (pd rfl (by show some (D.int ((((bl T).map (pdD (hnE es) T)).length:Nat):Int),Z)=_;rw[AAF])) rfl)) (Ql m a (by lia))))) rfl) (pr ?_);have c:=cC (Z:=Z) (hn:=hnE es) a z t;have f:=cA (Z:=Z) (hn:=hnE es) a;have A:=b9 (Z:=Z) (bg:=bg) u a;unfold vb;cases o:heB T (ks.map (gk T)) with
 |false=>
  rw[o] at c;exact Jv (pd rfl c)
 |true=>
  rw[o] at c;rw[Bool.true_and];refine Cz (pd rfl c) ?_;cases p:kt T (-1) (ks.map (gk T)) with
  |false=>rw[p] at f;exact Jv (pd rfl f)
  |true=>
   rw[p] at f;rw[Bool.true_and];exact Cz (pd rfl f) (pd (pc rfl (pc rfl (pc (po rfl rfl rfl) rfl))) A)
noncomputable abbrev dlL(T:Tk):D:=.lst ((bl T).map (ddD T))
theorem Qg(h:k<(bl T).length):AJ (dlL T) (.int k) Z=some (ddD T (gk T k),Z):=GQ (BZ (by rw[AAV,G6 h];rfl))
theorem LF:∀ks:List Nat,DV (ks.map λk:Nat=>D.int k)=some (ks.map λk:Nat=>V.int k)
 |[]=>rfl
 |k::ks=>by
  show (DV _).map _=_;rw[LF ks];rfl
theorem bL:FA true (.int k) (ksD ks) Z=some (.bl (!decide (k∈ks)),Z):=by
 show G4 true (.int k) (ksD ks) Z=_;unfold G4;rw[AM rfl,LF];show some (D.bl !inV (.int k) _,Z)=_;have:inV (.int k) (ks.map λk:Nat=>V.int k)=decide (k∈ks):=by
  unfold inV;rw[List.any_map,Bool.eq_iff_iff,List.any_eq_true,decide_eq_true_eq];constructor
  ·rintro⟨j,b,a⟩;have a:(j==(k:Int))=true:=a;rw[beq_iff_eq] at a;exact show j=k by lia ▸ b
  ·exact λh=>⟨k,h,by show _;exact beq_self_eq_true _⟩
 rw[this]
end
end K18
namespace K18
open PySem L2 Mi Nk Wb Ht
open K13 (Ev evD hdD po pc pd p2 pq pa piT piF pr AU CL BD Bl Ba BB Ae BZ BF BP II C7 EX Ej)
open K16 (mkK)
open K93 (Tk bl ksD ddD Zo Zn pz_nats)
section
variable{T:Tk}{Z:Mh}{k:Nat}{ks:List Nat}{ns:List Str}{kd:Str}{sz bg:Int}
theorem L4:DA (ksD js) (.lst []) Z=some (.bl (!js.isEmpty),Z):=by
 obtain⟨c,d⟩:=pz_nats js;obtain⟨e,f,q⟩:=Ow (a:=ksD js) (b:=.lst []) c (by trivial) (by unfold dpt;lia) (by trivial);show Fj true (ksD js) (.lst []) Z=_;rw[q];have:e=js.isEmpty:=by
  rw[Bool.eq_iff_iff]
  simp_all
 rw[this];rfl
theorem QP{α:Type}{p:α->Bool}{xs:List α}:(xs.filter p).isEmpty=xs.all λa=>!p a:=by
 induction xs with
 |nil=>rfl
 |cons x xs b=>
  rw[List.all_cons,←b];cases q:p x with
  |true=>rw[List.filter_cons_of_pos q];rfl
  |false=>rw[List.filter_cons_of_neg (by rw[q];decide)];rfl
theorem bq(a:k<(bl T).length)(b:mo B Z=some (dlL T,Z))(c:mi B Z=some (.int k,Z)):mOp AJ (mOp AJ mo mi) (mC (.int 1)) B Z=some (enD T (gk T k),Z):=po (po b c (Qg a)) rfl rfl
theorem c8(a:k<(bl T).length)(b:mo B Z=some (dlL T,Z))(c:mi B Z=some (.int k,Z)):mOp AJ (mOp AJ mo mi) (mC (.int 0)) B Z=some (.int (gk T k),Z):=po (po b c (Qg a)) rfl rfl
noncomputable abbrev lwC:Sl->M Bool:=(Dj (AN (mOp (CA true) (mOp AJ (mOp AJ (AA 1) (AA 2)) (mC (.int 1))) (mC .non))) (AN (mOp IS (mOp AJ (mOp AJ (AA 1) (AA 2)) (mC (.int 1))) (mOp AJ (mOp AJ (AA 1) (AA 0)) (mC (.int 0))))))
theorem aC(c:k<(bl T).length)(d:j<(bl T).length):lwC [some (.int j),some (dlL T),some (.int k)] Z=some (!enB T (gk T j) (gk T k),Z):=by
 have b:=bq (Z:=Z) (mo:=AA 1) (mi:=AA 2) (B:=[some (.int j),some (dlL T),some (.int k)]) c rfl rfl;have a:=Kj b;unfold enB;cases q:T.fn (gk T k) with
 |none=>rw[q] at a;exact GD a
 |some y=>
  rw[q] at a;have e:mOp AJ (mOp AJ (AA 1) (AA 2)) (mC (.int 1)) [some (.int j),some (dlL T),some (.int k)] Z=some (.int y.1,Z):=by rw[b];unfold enD;rw[q]
  refine GC a (AX (po e (c8 d rfl rfl) ?_));show some (D.bl (decide (y.1<(gk T j:Int))),Z)=some (D.bl (!decide (gk T j<=(y.1:Int))),Z);by_cases z:(gk T j:Int)<=y.1
  ·simp_all
  simp_all
noncomputable abbrev lwB:Sl->M (Fl×Sl):=(AS (sIf (AN (mOp DA (Bm 1 [1,5] (CM (DT (AA 2) Bv (CN (AA 4)))) (AO 0) lwC (AA 0) BU) (AE BU AK))) (As (mC (.bl false))) A6)
  (sIf (AN (mOp Af (mOp AJ (mOp AJ (AA 1) (AA 5)) (mC (.int 2))) (mC (.str "writes")))) (AY (mOp AJ (mOp AJ (AA 1) (AA 5)) (mC (.int 3))) (AO 3)) (sIf (Dj (AN (mOp (CA true) (mOp AJ (mOp AJ (AA 1) (AA 5)) (mC (.int 1))) (mC .non))) (AN (mOp DA (mOp AJ (mOp AJ (AA 1) (AA 5)) (mC (.int 3))) (AA 3)))) (As (mC (.bl false))) A6)))
noncomputable abbrev s6(mk a b:D)(w o4 o5:Option D):Sl:=[some mk,some a,some b,w,o4,o5]
theorem Xg{mk:D}(A:∀k∈ks,k<(bl T).length)(O:ks.length<=900)(G:∀b∈bl T,T.wv b≠none):∀(js pre:List Nat) (w:Int) (o4 o5:Option D),ks=pre++js->∃(g:Int) (C E:Option D),B5 (Cq [4,5]) lwB (Ct pre.length (js.map λk:Nat=>D.int k)) (s6 mk (dlL T) (ksD ks) (some (.int w)) o4 o5) Z=some ((if lw T (pre.map (gk T)) w (js.map (gk T)) then .next else .rt (.bl false),s6 mk (dlL T) (ksD ks) (some (.int g)) C E),Z)
 |[],pre,w,o4,o5,_=>⟨w,o4,o5,rfl⟩
 |j::js,pre,w,o4,o5,e=>by
  have R:=BF;have l:j<(bl T).length:=A j (by rw[e];simp);have S:pre.length+(js.length+1)=ks.length:=by rw[e,AAG,AAH]
  have H:=λu=>Xg (mk:=mk) A O G js (pre++[j]) u (some (.int pre.length)) (some (.int j)) (by rw[e];simp);have P:CM (DT (AA 2) Bv (CN (AA 4))) (s6 mk (dlL T) (ksD ks) (some (.int w)) (some (.int pre.length)) (some (.int j))) Z=some (pre.map (λk:Nat=>D.int k),Z):=by
   refine BB (p2 (x:=ksD ks) (a:=none) rfl rfl rfl ?_);show some (D.lst (FT (ks.map λk:Nat=>D.int k) none (some (pre.length:Int))),Z)=_;rw[EX (α:=.non) (by rw[AAF];lia),←List.map_take,e,List.take_left]
  have I:=Bl (Z:=Z) (mc:=lwC) (me:=AA 0) (u3:=[none,some (dlL T),some (.int j)]) (xs:=pre) (ys:=[]) (λi Q=>aC l (A i (by rw[e];exact AAa _ Q))) (λi _ _=>rfl);rw[List.nil_append] at I;have d:AN (mOp DA (Bm 1 [1,5] (CM (DT (AA 2) Bv (CN (AA 4)))) (AO 0) lwC (AA 0) BU) (AE BU AK)) (s6 mk (dlL T) (ksD ks) (some (.int w)) (some (.int pre.length)) (some (.int j))) Z=some (!((pre.map (gk T)).all λi=>enB T i (gk T j)),Z):=by
   refine AX (po (y:=.lst []) (BD P (by rw[AAF];lia) I (Ae (by rw[AAF];have:=List.length_filter_le (λi=>!enB T (gk T i) (gk T j)) pre;lia))) (pd (ds:=[]) rfl (Ae (by simp))) ?_);rw[L4,QP,List.all_map];simp only[Bool.not_not];rfl
  have F:lw T (pre.map (gk T)) w ((j::js).map (gk T))=(((pre.map (gk T)).all λi=>enB T i (gk T j))&&match T.wv (gk T j) with
   |some (some v)=>lw T (pre.map (gk T)++[gk T j]) v (js.map (gk T))
   |_=>ktW T w (gk T j)&&lw T (pre.map (gk T)++[gk T j]) w (js.map (gk T))):=rfl
  have J:(pre++[j]).map (gk T)=pre.map (gk T)++[gk T j]:=by rw[AAX];rfl
  have K:(pre++[j]).length=pre.length+1:=by rw[AAG];rfl
  cases m:(pre.map (gk T)).all λi=>enB T i (gk T j) with
  |false=>
   rw[m] at d;rw[show lw T (pre.map (gk T)) w ((j::js).map (gk T))=false from by rw[F,m];rfl];exact⟨w,some (.int pre.length),some (.int j),CL (w5:=Z) rfl (Cn (piT d (pr rfl)))⟩
  |true=>
   rw[m] at d;have n:AN (mOp Af (mOp AJ (mOp AJ (AA 1) (AA 5)) (mC (.int 2))) (mC (.str "writes"))) (s6 mk (dlL T) (ksD ks) (some (.int w)) (some (.int pre.length)) (some (.int j))) Z=some ((match T.wv (gk T j) with|some (some _)=>true|_=>false),Z):=by
    refine AX (po (po (y:=.int 2) (po (x:=dlL T) (y:=.int j) rfl rfl (Qg l)) rfl Zo) rfl ?_);cases T.wv (gk T j) with
    |none=>show Af (.str "reads") (.str "writes") Z=_;rw[Ej (by decide +kernel) (by decide +kernel)];rfl
    |some y=>
     cases y with
     |none=>show Af (.str "reads") (.str "writes") Z=_;rw[Ej (by decide +kernel) (by decide +kernel)];rfl
     |some v=>show Af (.str "writes") (.str "writes") Z=_;rw[Ej (by decide +kernel) (by decide +kernel)];rfl
   have o:mOp AJ (mOp AJ (AA 1) (AA 5)) (mC (.int 3)) (s6 mk (dlL T) (ksD ks) (some (.int w)) (some (.int pre.length)) (some (.int j))) Z=some ((match T.wv (gk T j) with|some (some v)=>.int v|_=>match T.fn (gk T j) with|some (_,v)=>.int v|none=>.non),Z):=po (y:=.int 3) (po (x:=dlL T) (y:=.int j) rfl rfl (Qg l)) rfl Zn;have p:=Kj (bq (Z:=Z) (mo:=AA 1) (mi:=AA 5) (B:=s6 mk (dlL T) (ksD ks) (some (.int w)) (some (.int pre.length)) (some (.int j))) l rfl rfl);cases r:T.wv (gk T j) with
   |none=>exact absurd r (G _ (Jo l))
   |some y=>
    rw[r] at n o;cases y with
    |some v=>
     obtain⟨g,s,t,h⟩:=H v;rw[J,K] at h;rw[show lw T (pre.map (gk T)) w ((j::js).map (gk T))=lw T (pre.map (gk T)++[gk T j]) v (js.map (gk T)) from by rw[F,m,r];rfl];exact⟨g,s,t,AU (w5:=Z) rfl (pq (piF d rfl) (piT n (pa o rfl))) h⟩
    |none=>
     obtain⟨g,s,t,h⟩:=H w;rw[J,K] at h;have f:lw T (pre.map (gk T)) w ((j::js).map (gk T))=(ktW T w (gk T j)&&lw T (pre.map (gk T)++[gk T j]) w (js.map (gk T))):=by rw[F,m,r];rfl
     cases q:T.fn (gk T j) with
     |none=>
      rw[q] at p;rw[f,show ktW T w (gk T j)=true from by unfold ktW;rw[q],Bool.true_and];exact⟨g,s,t,AU (x:=.tup [.int pre.length,.int j]) (x5:=s6 mk (dlL T) (ksD ks) (some (.int w)) (some (.int pre.length)) (some (.int j))) (w5:=Z) rfl (pq (piF d rfl) (piF n (piF (GD p) rfl))) h⟩
     |some y=>
      rw[q] at p o;have L:ktW T w (gk T j)=decide (y.2=w):=by unfold ktW;rw[q]
      have N:(Dj (AN (mOp (CA true) (mOp AJ (mOp AJ (AA 1) (AA 5)) (mC (.int 1))) (mC .non))) (AN (mOp DA (mOp AJ (mOp AJ (AA 1) (AA 5)) (mC (.int 3))) (AA 3)))) (s6 mk (dlL T) (ksD ks) (some (.int w)) (some (.int pre.length)) (some (.int j))) Z=some (!(y.2==w),Z):=GC p (AX (po (x:=.int y.2) (y:=.int w) o rfl rfl));by_cases z:y.2=w
      ·rw[f,L,AAO z,Bool.true_and];exact⟨g,s,t,AU (x:=.tup [.int pre.length,.int j]) (x5:=s6 mk (dlL T) (ksD ks) (some (.int w)) (some (.int pre.length)) (some (.int j))) (w5:=Z) rfl (pq (piF d rfl) (piF n (piF (by rw[N,z,beq_self_eq_true];rfl) rfl))) h⟩
      ·rw[f,L,AAN z,Bool.false_and];exact⟨w,some (.int pre.length),some (.int j),CL (x:=.tup [.int pre.length,.int j]) (x5:=s6 mk (dlL T) (ksD ks) (some (.int w)) (some (.int pre.length)) (some (.int j))) (w5:=Z) rfl (pq (piF d rfl) (piF n (piT (by rw[N,AAd.mpr z];rfl) (pr rfl))))⟩
noncomputable abbrev φL:List D->M D:=Az .drop 6 3 NI
theorem Mj(h:∀k∈ks,k<(bl T).length)(l:ks.length<=900)(m:(bl T).length<=900)(n:∀b∈bl T,T.wv b≠none):φL [mkK kd sz bg ns,dlL T,ksD ks] Z=some (.bl (vb T bg (ks.map (gk T))),Z):=by
 have v:=BF;obtain⟨o,r,s,t⟩:=Xg h l n ks [] bg none none rfl;have i:=MG (bf:=Cq [0,1]) (mc:=(Dj (AN (mOp (CA true) (mOp AJ (AA 1) (mC (.int 1))) (mC .non))) (AN (mOp (FA true) (AA 0) (AA 2))))) (me:=AA 0) (u3:=[none,none,some (ksD ks)]) (f:=λk:Nat=>D.tup [.int k,ddD T (gk T k)]) (p:=λk=>(T.fn (gk T k)).isSome&&!decide (k∈ks)) (xs:=List.range (bl T).length) (ys:=[]) (λa _=>rfl) (λa _=>by
  have d:AN (mOp (CA true) (mOp AJ (AA 1) (mC (.int 1))) (mC .non)) [some (.int a),some (ddD T (gk T a)),some (ksD ks)] Z=some ((T.fn (gk T a)).isSome,Z):=Kj (po rfl rfl rfl);cases q:(T.fn (gk T a)).isSome with
  |false=>rw[q] at d;exact GD d
  |true=>rw[q] at d;exact GC d (AX (po rfl rfl bL))) (λa _ _=>rfl)
 rw[List.nil_append] at i;have e:AN (mOp DA (Bm 2 [2] (GP (AD (AA 1) AK)) (Cq [0,1]) (Dj (AN (mOp (CA true) (mOp AJ (AA 1) (mC (.int 1))) (mC .non))) (AN (mOp (FA true) (AA 0) (AA 2)))) (AA 0) BU) (AE BU AK)) [some (mkK kd sz bg ns),some (dlL T),some (ksD ks),none,none,none] Z=some (!heB T (ks.map (gk T)),Z):=by
  refine AX (po (BD ?_ (by rw[AAF,List.length_range];lia) i (Ae (by grind))) (pd rfl (Ae (by simp))) ?_)
  ·show some (Ct 0 ((bl T).map (ddD T)),Z)=_;rw[QM]
  ·rw[L4,QP,←Xr h,List.all_filter]
   simp_all
 rw[←bK];have c:D7 (GP (AD (AA 2) AK)) (Cq [4,5]) lwB (s6 (mkK kd sz bg ns) (dlL T) (ksD ks) (some (.int bg)) none none) Z=_:=Dl rfl t;cases q:heB T (ks.map (gk T)) with
 |false=>
  rw[q] at e;refine Ac (g:=[]) (x3:=[some (mkK kd sz bg ns),some (dlL T),some (ksD ks),none,none,none]) ?_ rfl (by unfold Cl;trivial);rw[AAY];exact Cn (piT e (pr rfl))
 |true=>
  rw[q] at e;rw[Bool.true_and];refine Ac (g:=[]) (x3:=s6 (mkK kd sz bg ns) (dlL T) (ksD ks) (some (.int o)) r s) ?_ rfl (by unfold Cl;trivial);rw[AAY];refine pq (piF e rfl) (pq (pa (po rfl rfl rfl) rfl) ?_);have u:([].map (gk T))=[]:=rfl;rw[u] at c;cases j:lw T [] bg (ks.map (gk T)) with
  |true=>rw[j] at c;exact pq c (pr rfl)
  |false=>rw[j] at c;exact Cn c
end
end K18
namespace K18
open PySem L2 Mi Nk Wb Ht
open K13 (Aw Ai Ev Ev.beg Ev.hand Ev.val wfG Ns evD BH bS po pc pd p2 pq pa piT piF pr Ou Ov Ae Ax BZ BF BP GR C7 BJ B9)
open K16 (mkK FI Ds asCs_csD Ar An oC v_cbW v_cbR v_ceW v_ceR)
open K15 (one)
open K93 (Tk bl ksD Et Gz)
section
variable{Z:Mh}{k n:Nat}{ks:List Nat}
noncomputable def pth:List Nat->D
 |[]=>.non
 |k::r=>.tup [.int k,pth r]
noncomputable abbrev ooB:Sl->M (Fl×Sl):=(AS (Bt (BG DM (AA 1) (AD (mOp AJ (AA 0) (mC (.int 0))) AK)))
  (AY (mOp AJ (AA 0) (mC (.int 1))) (AO 0)))
noncomputable abbrev ooT:Sl->M Bool:=(AN (mOp (CA true) (AA 0) (mC .non)))
theorem e_0:(Z++[x])[Z.length]?=some x:=by rw[AAR (AAE _),AAt];rfl
theorem f_0:(Z++[x]).set Z.length y=Z++[y]:=by simp
theorem XZ:∀(r a:List Nat) (f:Nat),r.length<f->a.length+r.length<=1000->IQ ooT ooB f [some (pth r),some (.ref Z.length)] (Z++[.lst (a.map λk:Nat=>D.int k)])=some ((.next,[some .non,some (.ref Z.length)]),Z++[.lst ((a++r).map λk:Nat=>D.int k)])
 |[],a,f+1,_,_=>by
  rw[AAY];exact Ov (AX (po (x:=.non) (y:=.non) rfl rfl rfl))
 |k::r,a,f+1,h,c=>by
  have e:=BF;rw[AAH] at h c;have b:=XZ r (a++[k]) f (by lia) (by rw[AAG,List.length_singleton];lia);rw[AAk] at b;refine Ou (AX (po (y:=.non) rfl rfl rfl)) ?_ b;refine AT (DI (d:=.non) (Da (ds:=[.int k]) rfl (BJ e_0) (pc (po (y:=.int 0) rfl rfl rfl) rfl) ?_)) (pa (d:=pth r) (po (y:=.int 1) rfl rfl rfl) rfl);rw[B9 e_0 (by rw[AAF];lia),f_0,AAX];rfl
theorem Vr(b:ks.length<=1000):EH [pth ks.reverse] Z=some (.ref Z.length,Z++[.lst (ks.map λk:Nat=>D.int k)]):=by
 have a  := XZ (Z:=Z) ks.reverse [] GG (by rw[List.length_reverse];unfold GG;lia) (by simp;lia);refine Et (x3:=[some .non,some (.ref Z.length)]) (AT (CW (Bi rfl (Gz (by simp))) rfl) (AT a (AT (DI (d:=.non) ?_) (C6 rfl)))) rfl;unfold FC;rw[AM (rfl),AM (BJ e_0)];show FY Z.length _ _=_;unfold FY;rw[e_0]
 simp_all
theorem Z9(b:e.hand<=c.2.2.length)(d:c.2.2.length<=1000):sIf (AN (mOp Af (mOp AJ (AA 1) (mC (.int 0))) (mC (.str "begin")))) (AY (AE Ar (AD (AA 3) (AD (mOp AJ (AA 1) (mC (.int 1))) (AD (mOp AJ (AA 1) (mC (.int 2))) AK)))) (AO 5)) (AY (AE An (AD (AA 3) (AD (mOp AJ (AA 1) (mC (.int 1))) (AD (mOp AJ (AA 1) (mC (.int 2))) AK)))) (AO 5)) [o0,some (BH e g),o2,some (csD c),o4,o5] Z=some ((.next,[o0,some (BH e g),o2,some (csD c),o4,some (oC (one e c))]),Z):=by
 have t:AN (mOp Af (mOp AJ (AA 1) (mC (.int 0))) (mC (.str "begin"))) [o0,some (BH e g),o2,some (csD c),o4,o5] Z=some (e.beg,Z):=AX (po (po rfl rfl rfl) rfl GR);have a:AD (AA 3) (AD (mOp AJ (AA 1) (mC (.int 1))) (AD (mOp AJ (AA 1) (mC (.int 2))) AK)) [o0,some (BH e g),o2,some (csD c),o4,o5] Z=some _:=rfl;cases e with
 |wb v=>exact piT t (pa (pd a v_cbW) rfl)
 |we=>exact piF t (pa (pd a v_ceW) rfl)
 |rb r=>exact piT t (pa (pd a (v_cbR b d)) rfl)
 |re r v=>exact piF t (pa (pd a (v_ceR b d)) rfl)
noncomputable abbrev pbB:Sl->M (Fl×Sl):=(AS (sIf (AN (mOp Af (mOp AJ (AA 1) (mC (.int 0))) (mC (.str "begin")))) (AY (AE Ar (AD (AA 3) (AD (mOp AJ (AA 1) (mC (.int 1))) (AD (mOp AJ (AA 1) (mC (.int 2))) AK)))) (AO 5)) (AY (AE An (AD (AA 3) (AD (mOp AJ (AA 1) (mC (.int 1))) (AD (mOp AJ (AA 1) (mC (.int 2))) AK)))) (AO 5)))
  (sIf (AN (mOp (CA true) (AA 5) (mC .non))) (Ed (AA 2) (AA 5) (AA 4)) A6))
noncomputable def bhd(e:Ev)(l:List (Cs×D)):List (Cs×D):=l.filterMap λy=>(one e y.1).map λc=>(c,y.2)
theorem Qe:∀{l:List (Cs×D)},(bhd e l).map (·.1)=l.filterMap λy=>one e y.1
 |[]=>rfl
 |y::l=>by
  unfold bhd;rw[List.filterMap_cons,List.filterMap_cons];have a:=Qe (e:=e) (l:=l);cases one e y.1 with
  |none=>exact a
  |some c=>exact congrArg (c::·) a
theorem Gj(h:Z[n]?=some (.dC l)):FZ n l Z=some ((),Z):=by
 unfold FZ
 simp_all
theorem Td(hn:Z[n]?=some (.dC l))(m:∀y∈l,e.hand<=y.1.2.2.length/\y.1.2.2.length<=1000)(G:l.length<=3000):∀(r a:List (Cs×D)) (o3 o4 o5:Option D),(∀y∈r,y∈l)->(a.map (·.1)++(bhd e r).map (·.1)).Nodup->a.length+r.length<=3000->∃o p s:Option D,
  NS n l (Cq [3,4]) pbB r [some (.ref n),some (BH e g),some (.ref Z.length),o3,o4,o5] (Z++[.dC a])=some ((.next,[some (.ref n),some (BH e g),some (.ref Z.length),o,p,s]),Z++[.dC (a++bhd e r)])
 |[],a,o3,o4,o5,_,_,_=>⟨o3,o4,o5,by
  have b:(Z++[MO.dC a])[n]?=some (.dC l):=by rw[AAS (AAT.mp hn).1];exact hn
  show bnd (FZ n l) _ _=_;rw[AM (Gj b),show bhd e []=[] from rfl,AAY];rfl⟩
 |y::r,a,o3,o4,o5,t,d,I=>by
  have h:=BF;have b:(Z++[MO.dC a])[n]?=some (.dC l):=by rw[AAS (AAT.mp hn).1];exact hn
  rw[AAH] at I;have h1:=m y (t y AAP);have i:=Z9 (Z:=Z++[.dC a]) (e:=e) (g:=g) (c:=y.1) (o0:=some (.ref n)) (o2:=some (.ref Z.length)) (o4:=some y.2) (o5:=o5) h1.1 h1.2;have H:∀{f:Fl×Sl} {u:Mh},pbB [some (.ref n),some (BH e g),some (.ref Z.length),some (csD y.1),some y.2,o5] (Z++[.dC a])=some ((.next,f.2),u)->∀{R:(Fl×Sl)×Mh},NS n l (Cq [3,4]) pbB r f.2 u=some R->NS n l (Cq [3,4]) pbB (y::r) [some (.ref n),some (BH e g),some (.ref Z.length),o3,o4,o5] (Z++[.dC a])=some R:=λ{f u} J {R} K=>by
   show bnd (FZ n l) _ _=_;rw[AM (Gj b)];show bnd (Cq [3,4] (.tup [csD y.1,y.2]) _) _ _=_;rw[AM (show Cq [3,4] (.tup [csD y.1,y.2]) [some (.ref n),some (BH e g),some (.ref Z.length),o3,o4,o5] (Z++[MO.dC a])=some ([some (.ref n),some (BH e g),some (.ref Z.length),some (csD y.1),some y.2,o5],Z++[MO.dC a]) from rfl),AM J];exact K
  cases q:one e y.1 with
  |none=>
   have w:bhd e (y::r)=bhd e r:=by unfold bhd;rw[List.filterMap_cons,q];rfl
   rw[w] at d ⊢;rw[q] at i;obtain⟨A,C,E,j⟩:=Td (g:=g) hn m G r a (some (csD y.1)) (some y.2) (some .non) (λz h=>t z (AAQ _ h)) d (by lia);exact⟨A,C,E,H (f:=(.next,_)) (AT i (EW (AX (po (x:=.non) (y:=.non) rfl rfl rfl)) rfl)) j⟩
  |some c=>
   have w:bhd e (y::r)=(c,y.2)::bhd e r:=by unfold bhd;rw[List.filterMap_cons,q];rfl
   rw[w] at d ⊢;rw[q] at i;have F:((a++[(c,y.2)]).map (·.1)++(bhd e r).map (·.1)).Nodup:=by
    rw[AAX,AAk];exact d
   obtain⟨A,C,E,j⟩:=Td (g:=g) hn m G r (a++[(c,y.2)]) (some (csD y.1)) (some y.2) (some (csD c)) (λz h=>t z (AAQ _ h)) F (by rw[AAG,List.length_singleton];lia);rw[AAk] at j;refine⟨A,C,E,H (f:=(.next,_)) (AT i (Dk (AX (po (x:=csD c) (y:=.non) rfl rfl rfl)) ?_)) j⟩;have N:c∉a.map (·.1):=λz=>by
    have:=(List.nodup_append.mp d).2.2 c z c (by rw[AAW];exact AAP);exact this rfl
   have:=FI (B:=[some (.ref n),some (BH e g),some (.ref Z.length),some (csD y.1),some y.2,some (csD c)]) (mo:=AA 2) (mi:=AA 5) (mv:=AA 4) (v:=y.2) (c:=c) (L:=a) rfl rfl rfl e_0 (by lia) N;rw[f_0] at this;exact this
theorem SO(hn:Z[n]?=some (.dC l))(b:∀y∈l,e.hand<=y.1.2.2.length/\y.1.2.2.length<=1000)(a:l.length<=3000)(c:((bhd e l).map (·.1)).Nodup):Cg [.ref n,BH e g] Z=some (.ref Z.length,Z++[.dC (bhd e l)]):=by
 obtain⟨d,f,i,j⟩:=Td hn b a l [] none none none (λy h=>h) c (by simp;exact a);refine Et (x3:=[some (.ref n),some (BH e g),some (.ref Z.length),d,f,i]) (AT rfl (AT ?_ (C6 rfl))) rfl;show bnd (_) _ _=_;rw[AM (rfl),AM (Ds (by rw[AAS (AAT.mp hn).1];exact hn))];exact j
end
end K18
namespace K18
open PySem L2 Mi Nk Wb Ht
open K13 (po pc pd p2 pq pa piT piF pr Ax BF Ij)
open K16 (FI Ds asCs_csD Bb F0 wH Ways MR)
open K93 (Et)
section
variable{Z:Mh}{n g:Nat}
theorem HU:∀{l:List (Cs×D)} {c:Cs},c∈l.map (·.1)->∃d,JA l c=some d/\(c,d)∈l
 |[],c,h=>by cases h
 |(z,x)::l,c,h=>by
  by_cases e:z=c
  ·subst e;exact⟨x,by simp[JA],AAP⟩
  ·obtain⟨d,a,b⟩:=HU ((AAI.mp h).resolve_left (Ne.symm e));exact⟨d,by simpa[JA,e] using a,AAQ _ b⟩
theorem UA(h:Z[n]?=some (.dC L))(a:JA L c=some d):HI (.ref n) (csD c) Z=some (d,Z):=by
 unfold HI;rw[AM (Ds h)];rw[asCs_csD,Option.bind_some,a];rfl
noncomputable abbrev wmH(Z:Mh)(F W:List (Cs×D))(a:Mh):Mh:=Z++(.dC F::.dC W::.lst []::a)
theorem wm0:(wmH Z F W a)[Z.length]?=some (.dC F):=by rw[AAR (AAE _),AAt];rfl
theorem wm1:(wmH Z F W a)[Z.length+1]?=some (.dC W):=by simp
theorem wmS:(wmH Z F W a).set Z.length (.dC b)=wmH Z b W a:=by simp
theorem wmN(h:Z[n]?=some x):(wmH Z F W a)[n]?=some x:=by rw[AAS (AAT.mp h).1];exact h
noncomputable abbrev wmB:Sl->M (Fl×Sl):=(sIf (AN (mOp (CA false) (AA 4) (mC .non))) (Ed (AA 2) (AA 3) (mOp HI (AA 0) (AA 3))) (Ed (AA 2) (AA 3) (AE BE (AD (mOp Dr (AA 1) (mOp AJ (AA 4) (mC (.int 0)))) (AD (mOp HI (AA 2) (mOp AJ (AA 4) (mC (.int 1)))) AK)))))
theorem XG{l W:List (Cs×D)}{L:List (Key×D)}{P:Cs->D->Prop}(hn:Z[n]?=some (.dC l))(I:Z[g]?=some (.dK L))(J:∀y∈l,P y.1 y.2)
  (K:∀(p c:Cs) (h:Nat) (d:D),(h,c)∈Dw p->P p d->∃i:D,CU L (.inl (h:Int))=some i/\P c (.tup [i,d]))
  (N:Ways (l.map (·.1)) W) (o:(W.map (·.1)).Nodup) (S:W.length<=3000):∀(r pre F:List (Cs×D)) (o3 o4:Option D),pre++r=W->F.map (·.1)=pre.map (·.1)->(∀y∈F,P y.1 y.2)->∃(f:List (Cs×D)) (s t:Option D),f.map (·.1)=W.map (·.1)/\(∀y∈f,P y.1 y.2) /\
  NS (Z.length+1) W (Cq [3,4]) wmB r [some (.ref n),some (.ref g),some (.ref Z.length),o3,o4] (wmH Z F W a)=some ((.next,[some (.ref n),some (.ref g),some (.ref Z.length),s,t]),wmH Z f W a)
 |[],pre,F,o3,o4,b,e,m=>by
  rw[AAY] at b;subst b;refine⟨F,o3,o4,e,m,?_⟩;show bnd (FZ (Z.length+1) pre) _ _=_;rw[AM (Gj wm1)];rfl
 |y::r,pre,F,o3,o4,b,e,m=>by
  have O:=BF;have Q:W[pre.length]?=some y:=by rw[←b,AAR (AAE _),AAt];rfl
  have hl:pre.length<W.length:=(AAT.mp Q).1;have lf:F.length=pre.length:=by have:=congrArg List.length e;simpa using this
  have k:y.1∉F.map (·.1):=by
   rw[e];rw[←b,AAX,AAW] at o;exact λz=>(List.nodup_append.mp o).2.2 _ z _ AAP rfl
  have u:∃d,P y.1 d/\wmB [some (.ref n),some (.ref g),some (.ref Z.length),some (csD y.1),some y.2] (wmH Z F W a)=some ((.next,[some (.ref n),some (.ref g),some (.ref Z.length),some (csD y.1),some y.2]),wmH Z (F++[(y.1,d)]) W a):=by
   rcases N _ _ Q with ⟨w,T⟩|⟨h,p,j,w,U,X,R⟩
   ·obtain⟨d,A,C⟩:=HU T;refine⟨d,J _ C,?_⟩;rw[w];have:=FI (B:=[some (.ref n),some (.ref g),some (.ref Z.length),some (csD y.1),some D.non]) (Z:=wmH Z F W a) (n:=Z.length) (mo:=AA 2) (mi:=AA 3) (mv:=mOp HI (AA 0) (AA 3)) (v:=d) (c:=y.1) (L:=F) (po (x:=.ref n) (y:=csD y.1) rfl rfl (UA (wmN hn) A)) rfl rfl wm0 (by lia) k;rw[wmS] at this;exact this
   ·have Y:p∈F.map (·.1):=by
     rw[e];rw[←b,AAX,AAS (by rw[AAF];exact X)] at R;exact AAU R
    obtain⟨d,A,C⟩:=HU Y;obtain⟨i,E,G⟩:=K p y.1 h d U (m _ C);refine⟨_,G,?_⟩;rw[w];have:=FI (B:=[some (.ref n),some (.ref g),some (.ref Z.length),some (csD y.1),some (D.tup [.int h,csD p])]) (Z:=wmH Z F W a) (n:=Z.length) (mo:=AA 2) (mi:=AA 3) (mv:=AE BE (AD (mOp Dr (AA 1) (mOp AJ (AA 4) (mC (.int 0)))) (AD (mOp HI (AA 2) (mOp AJ (AA 4) (mC (.int 1)))) AK))) (c:=y.1) (L:=F) (pd (ds:=[i,d]) (pc (po (x:=.ref g) (y:=.int h) rfl (po (y:=.int 0) rfl rfl rfl) (Ij (wmN I) E)) (pc (po (y:=csD p) rfl (po (y:=.int 1) rfl rfl rfl) (UA wm0 A)) rfl)) (Ax (by simp;lia))) rfl rfl wm0 (by lia) k;rw[wmS] at this;exact this
  obtain⟨d,G,st⟩:=u;obtain⟨f,p3,p4,e',H,go⟩:=XG hn I J K N o S r (pre++[y]) (F++[(y.1,d)]) (some (csD y.1)) (some y.2) (by rw[AAk];exact b) (by rw[AAX,AAX,e];rfl) (λz O=>by
   rcases AAJ.mp O with q|q
   ·exact m z q
   ·rw[AAK.mp q];exact G)
  refine⟨f,p3,p4,e',H,?_⟩;show bnd (FZ (Z.length+1) W) _ _=_;rw[AM (Gj wm1)];rw[AM (show Cq [3,4] (.tup [csD y.1,y.2]) [some (.ref n),some (.ref g),some (.ref Z.length),o3,o4] (wmH Z F W a)=some ([some (.ref n),some (.ref g),some (.ref Z.length),some (csD y.1),some y.2],wmH Z F W a) from rfl),AM st];exact go
theorem HW{l:List (Cs×D)}{L:List (Key×D)}{U:List Cs}{P:Cs->D->Prop}(hn:Z[n]?=some (.dC l))(j:Z[g]?=some (.dK L))(k:∀y∈l,P y.1 y.2)
  (m:∀(p c:Cs) (h:Nat) (d:D),(h,c)∈Dw p->P p d->∃i:D,CU L (.inl (h:Int))=some i/\P c (.tup [i,d]))
  (o:(l.map (·.1)).Nodup) (f:∀x∈clo (l.map (·.1)),x∈U) (q:U.length<3000) (r:∀x∈clo (l.map (·.1)),x.2.2.length<=100) :
  ∃(F W:List (Cs×D)) (a:Mh),Wk (l.map (·.1)) (F.map (·.1)) []/\(∀y∈F,P y.1 y.2)/\Cf [.ref n,.ref g] Z=some (.ref Z.length,wmH Z F W a):=by
 obtain⟨W,a,b,s,_,t⟩:=F0 o f q r;have u:W.length<=3000:=by
  have:=CB b.nd λx v=>f x (b.frm x v);rw[AAF] at this;lia
 obtain⟨F,w,z,A,B,C⟩:=XG hn j k m s b.nd u W [] [] none none rfl rfl (λy E=>by cases E);refine⟨F,W,a,by rw[A];exact b,B,Et (x3:=[some (.ref n),some (.ref g),some (.ref Z.length),w,z]) ?_ rfl⟩;have e:(Z++[MO.dC []])[n]?=some (.dC l):=by rw[AAS (AAT.mp hn).1];exact hn
 refine AT (x5:=[some (.ref n),some (.ref g),some (.ref Z.length),none,none]) rfl (AT ?_ (C6 rfl));have G:wH (Z++[MO.dC []]) W [] a=wmH Z [] W a:=by simp
 have H:AE Bb (AD (AE G3 (AD (AA 0) AK)) AK) [some (.ref n),some (.ref g),some (.ref Z.length),none,none] (Z++[MO.dC []])=some (.ref (Z.length+1),wmH Z [] W a):=by
  have I:AD (AE G3 (AD (AA 0) AK)) AK [some (.ref n),some (.ref g),some (.ref Z.length),none,none] (Z++[MO.dC []])=some ([.lst ((l.map (·.1)).map csD)],Z++[MO.dC []]):=by
   refine pc (pd rfl ?_) rfl;show bnd (GJ (.ref n)) _ _=_;rw[AM (Ds e),List.map_map];rfl
  refine Bi I ?_;rw[t,G,AAG];rfl
 show bnd _ _ _=_;rw[AM H,AM (Ds wm1)];exact C
end
end K18
namespace K18
open PySem L2 Mi Nk Wb Ht
open K13 (Ev Ev.beg Ev.hand Ev.val wfG BF Dt)
open K15 (one St Shp Bz MT)
open K93 (Tk Od V V0 Rp bl Iu had Mf Pg Ph N9 Bs Hm Ew step_bl step_n ET)
section
variable{T:Tk}{bg:Int}{m:Nat}{o:Od}{x y:Cs}{h:Nat}{e:Ev}
theorem ZI(s:(h,y)∈Dw x):(h=0/\0<=x.2.1/\y=(x.2.1,-2,x.2.2))∨∃i,h=i+1/\x.2.2[i]?=some (-2)/\y=mvR x i:=by
 rcases AAJ.mp s with z|z
 ·simp_all
 ·obtain⟨i,a,e⟩:=AAL.mp z;cases e;exact .inr ⟨i,rfl,(mem_rdF.mp a).2,rfl⟩
theorem Sj(a:T.Ok)(l:0<=bg)(k:V T bg o)(r:Rp T bg m o x)(s:(h,y)∈Dw x):∃b u,T.op h=some b/\V T bg (o++[(b,u)])/\Rp T bg m (o++[(b,u)]) y:=by
 obtain⟨n,p⟩:=Iu a l k.ch;rcases ZI s with ⟨rfl,g,rfl⟩|⟨i,rfl,d,rfl⟩
 ·cases e:T.op 0 with
  |none=>rw[r.w0 e] at g;exact absurd g (by decide)
  |some b=>
   rcases had o b with ⟨u,j⟩|f
   ·rw[r.w1 b u e j] at g;exact absurd g (by decide)
   ·have w:=r.w2 b e f;exact⟨b,_,rfl,Mf k a f (by rw[w];exact λz=>by cases z) (a.op 0 b e).1 (by rw[w];rfl),Pg e a r⟩
 ·have c:i<m:=by rw[←r.n];exact(AAT.mp d).1
  cases e:T.op (i+1) with
  |none=>rw[r.r0 i c e] at d;cases d
  |some b=>
   rcases had o b with ⟨u,j⟩|f
   ·rw[r.r1 i b u c e j] at d;cases d;exact absurd (show 0<=-2 from n _ j) (by decide)
   ·have w:T.wv b=some none:=by
     rcases(a.op _ b e).2 with ⟨z,_⟩|⟨_,z⟩
     ·lia
     ·exact z
    exact⟨b,_,rfl,Mf k a f (by rw[w];exact λz=>by cases z) (a.op _ b e).1 (by rw[w];exact r.v),Ph c e f a r⟩
def Pt(T:Tk)(bg:Int)(m:Nat)(c:Cs)(p:D):Prop:=∃(a:List Nat) (o:Od),V T bg o/\Rp T bg m o c/\p=pth a.reverse/\(∀k∈a,k<(bl T).length)/\o.map Prod.fst=a.map (gk T)
def Gi(T:Tk)(L:List (Key×D)):Prop:=∀h b,T.op h=some b->∃i:Nat,CU L (.inl (h:Int))=some (.int i)/\(bl T)[i]?=some b
theorem Xs(h:(bl T)[i]?=some b):gk T i=b:=by
 unfold gk
 simp_all
theorem Pt.mom(f:T.Ok)(g:0<=bg)(j:Gi T L)(s:(h,y)∈Dw x)(p:Pt T bg m x d):∃i:D,CU L (.inl (h:Int))=some i/\Pt T bg m y (.tup [i,d]):=by
 obtain⟨l,o,n,r,rfl,q,t⟩:=p;obtain⟨b,u,v,w,A⟩:=Sj f g n r s;obtain⟨i,B,c⟩:=j h b v;refine⟨_,B,l++[i],_,w,A,?_,λk a=>?_,?_⟩
 ·rw[List.reverse_append];rfl
 ·rcases AAJ.mp a with z|z
  ·exact q k z
  ·rw[AAK.mp z];exact(AAT.mp c).1
 ·rw[AAX,AAX,t,List.map_singleton,List.map_singleton,Xs c]
theorem bp(a:T.Ok):(bl T).length<=(bl (T.step e)).length:=by
 rw[step_bl a];split<;>simp
theorem Wp(b:T.Ok)(a:k<(bl T).length):gk (T.step e) k=gk T k:=by
 refine Xs ?_;rw[step_bl b];split
 ·rw[AAS a];exact G6 a
 ·exact G6 a
theorem Pt.ev(a:T.Ok)(bs:Bs G T)(c:G e.hand=!e.beg)(f:∀v,e.val=some v->0<=v)(g:e.hand<m+1)(p:Pt T bg m x d)(s:one e x=some y):Pt (T.step e) bg m y d:=by
 obtain⟨i,o,j,r,rfl,b,l⟩:=p;obtain⟨n,q⟩:=N9 a bs c f g j r s;refine⟨i,o,n,q,rfl,λk z=>AAM (b k z) (bp a),?_⟩;rw[l];exact List.map_congr_left λk z=>(Wp a (b k z)).symm
theorem Gi.ev(d:T.Ok)(f:e.beg=true->g=((bl T).length:Int))(k:Gi T L):Gi (T.step e) (Dc L (.inl ((e.hand:Nat):Int)) (.int g)):=λj b z=>by
 rw[Ew] at z;rw[step_bl d,Dt];by_cases q:j=e.hand
 ·subst q;rw[K93.upd_self] at z;rw[if_pos rfl];cases a:e.beg with
  |true=>
   rw[a,if_pos rfl] at z;cases z;rw[if_pos rfl,f a];exact⟨_,rfl,by rw[AAR (AAE _),AAt];rfl⟩
  |false=>
   rw[a] at z;cases z
 ·rw[K93.upd_ne q] at z;rw[if_neg λw=>q (by have:=Sum.inl.inj w;lia)];obtain⟨i,l,c⟩:=k j b z;refine⟨i,l,?_⟩;split
  ·rw[AAS (AAT.mp c).1];exact c
  ·exact c
theorem Zh:∀{cs:List Cs},cs.filterMap (one e)=pre cs e:=λ{cs}=>by
 cases e with
 |wb v=>exact List.filterMap_eq_map' ▸ rfl
 |rb r=>exact List.filterMap_eq_map' ▸ rfl
 |we=>rfl
 |re r v=>rfl
theorem aR(k:St p is a d cs)(c:Bz G is d)(n:G e.hand=!e.beg)(q:e.hand<is.length+1)(s:∀v,e=.wb v->v∈p):∃(f:List Bool) (t:Int) (g:Option Int),St p f t g (pre cs e)/\Bz (λx=>if x=e.hand then e.beg else G x) f g/\f.length=is.length:=by
 cases e with
 |wb v=>
  have u:d=none:=by
   have:=c.w.trans n;cases d with
   |none=>rfl
   |some b=>cases this
  subst u;exact⟨is,a,some v,k.wb (s v rfl),⟨rfl,c.r⟩,rfl⟩
 |we=>
  obtain⟨b,rfl⟩:∃b,d=some b:=by
   have:=c.w.trans n;cases d with
   |none=>cases this
   |some b=>exact⟨b,rfl⟩
  exact⟨is,b,none,k.we,⟨rfl,c.r⟩,rfl⟩
 |rb r=>
  have l:r<is.length:=by
   have:r+1<is.length+1:=q;lia
  have w:is[r]?=some true:=by rw[c.r r l,show G (r+1)=false from n];rfl
  refine⟨_,a,d,k.rb w,⟨c.w,λj i=>?_⟩,AAu ..⟩;rw[AAu] at i;by_cases z:r=j
  ·subst z;rw[List.getElem?_set_self l];show some false=some !if r+1=r+1 then true else G (r+1)
   rw[if_pos rfl];rfl
  ·rw[AAm z,c.r j i];show _=some !if j+1=r+1 then true else G (j+1)
   rw[if_neg (by lia)]
 |re r v=>
  have l:r<is.length:=by
   have:r+1<is.length+1:=q;lia
  refine⟨_,a,d,k.re,⟨c.w,λj i=>?_⟩,AAu ..⟩;rw[AAu] at i;by_cases z:r=j
  ·subst z;rw[List.getElem?_set_self l];show some true=some !if r+1=r+1 then false else G (r+1)
   rw[if_pos rfl];rfl
  ·rw[AAm z,c.r j i];show _=some !if j+1=r+1 then false else G (j+1)
   rw[if_neg (by lia)]
theorem aQ(b:St d is a f cs)(w:Wk cs K []):St d is a f K:=⟨b.S,w.nd,λc g=>MT b.S b.sub (w.frm c g)⟩
theorem Wy(a:T.Ok)(bs:Bs G T)(b:Hm T m)(c:G e.hand=!e.beg)(d:∀v,e.val=some v->0<=v)(f:e.hand<m+1)(g:∀o,V T bg o->∃x∈cs,Rp T bg m o x)(w:Wk (pre cs e) K []):∀o,V (T.step e) bg o->∃x∈K,Rp (T.step e) bg m o x:=λo i=>by
 obtain⟨j,l,k⟩:=K93.cmp_ev a bs b c d f i;obtain⟨x,n,r⟩:=g j l;obtain⟨y,z,s,p,q⟩:=k x r;exact⟨z,w.done.mpr (K15.in_clo (K15.mem_one.mpr ⟨x,n,s⟩) p),q⟩
end
end K18
namespace K18
open PySem L2 Mi Nk Wb Ht
open K13 (Ai Ev Ev.beg Ev.hand Ev.val wfG Ns evD BH hdD po pc pd p2 pq pa piT piF pr AU Ax BF En Du Ft BP)
open K16 (mkK Dy Ds)
open K15 (one St Shp Bz)
open K93 (Tk Od V Rp bl Bs Hm T0 ok0 run DC G5)
section
variable{Z:Mh}{bg:Int}{m gn:Nat}{o0 o1 o2:Option D}
noncomputable abbrev moB:Sl->M (Fl×Sl):=(AS (EN (AA 4) (mOp AJ (AA 5) (mC (.int 1))) (mOp AJ (AA 5) (mC (.int 3))))
  (AY (AE Cf (AD (AE Cg (AD (AA 3) (AD (AA 5) AK))) (AD (AA 4) AK))) (AO 3)))
theorem Xf(b0:0<=bg)(H:Z.length<=gn):∀(es:List Ev) (T:Tk) (G:Nat->Bool) (c:Nat->Int) (l:List (Cs×D)) (L:List (Key×D)) (is:List Bool) (a:Int) (X:Option Int) (t:Nat) (M:Mh) (o5:Option D),T.Ok->Bs G T->Hm T m->wfG G es->(∀e∈es,∀v,e.val=some v->0<=v)->(∀e∈es,e.hand<m+1)->(∀v,Ev.wb v∈es->v∈ws)->St ws is a X (l.map (·.1))->Bz G is X->is.length=m->(∀y∈l,Pt T bg m y.1 y.2)->(∀o,V T bg o->∃x∈l.map (·.1),Rp T bg m o x)->Gi T L->L.length+es.length<=1000->M[t]?=some (.dC l)->M[gn]?=some (.dK L)->(∃I,M=Z++I)->
  ∃(j:List (Cs×D)) (f:Nat) (b:Mh) (r:Option D),(∀y∈j,Pt (run T es) bg m y.1 y.2)/\(∀o,V (run T es) bg o->j≠[])/\j.length<=900/\(Z++b)[f]?=some (.dC j) /\
   B5 (AO 5) moB ((es.zip (Dy (bl T).length c es)).map λp=>BH p.1 p.2) [o0,o1,o2,some (.ref t),some (.ref gn),o5] M=some ((.next,[o0,o1,o2,some (.ref f),some (.ref gn),r]),Z++b)
 |[],T,G,c,l,L,is,a,X,t,M,o5,_,_,_,_,_,_,_,C,_,_,hP,cm,_,_,Y,_,⟨I,e⟩=>by
  subst e;refine⟨l,t,I,o5,hP,λo h=>?_,by have:=C.many;rw[AAF] at this;exact this,Y,rfl⟩;rintro rfl;obtain⟨x,u,_⟩:=cm o h;cases u
 |e::es,T,G,c,l,L,is,a,X,t,M,o5,E,bs,hM,wf,hv,hh,hw,C,bz,il,hP,cm,gi,hl,Y,hg,⟨I,eM⟩=>by
  have hz:=BF;have A:=hv e AAP;have w:=hh e AAP;obtain⟨J,bs'⟩:=DC E bs wf.1 A;have hM':=G5 hM w;obtain⟨K,a',N,st',bz',il'⟩:=aR C bz wf.1 (by rw[il];exact w) (λv z=>hw v (by rw[←z];exact AAP));have O:∀(g:Int) (c':Nat->Int),(e.beg=true->g=((bl T).length:Int))->Dy (bl T).length c (e::es)=g::Dy (bl (T.step e)).length c' es->
   ∃(j:List (Cs×D)) (f:Nat) (b:Mh) (r:Option D),(∀y∈j,Pt (run T (e::es)) bg m y.1 y.2)/\(∀o,V (run T (e::es)) bg o->j≠[])/\j.length<=900/\(Z++b)[f]?=some (.dC j) /\
   B5 (AO 5) moB (((e::es).zip (Dy (bl T).length c (e::es))).map λp=>BH p.1 p.2) [o0,o1,o2,some (.ref t),some (.ref gn),o5] M=some ((.next,[o0,o1,o2,some (.ref f),some (.ref gn),r]),Z++b):=λg c' hgb hgs=>by
   let B:=Dc L (.inl ((e.hand:Nat):Int)) (.int g)
   let M1:Mh:=M.set gn (.dK B)
   have pl:=Du L (.inl ((e.hand:Nat):Int)) (.int g);have ne:gn≠t:=λz=>by rw[z,Y] at hg;cases hg
   have hp1:M1[t]?=some (.dC l):=by show (M.set gn _)[t]?=_;rw[AAm ne];exact Y
   have Q:M1[gn]?=some (.dK B):=List.getElem?_set_self (AAT.mp hg).1;have lm:=C.many;rw[AAF] at lm;have kb:(bhd e l).map (·.1)=pre (l.map (·.1)) e:=by rw[Qe,←Zh,List.filterMap_map];rfl
   have i:St ws K a' N ((bhd e l).map (·.1)):=by rw[kb];exact st'
   have vb:=SO (Z:=M1) (n:=t) (e:=e) (g:=g) hp1 (λy hy=>by
    have:=C.len (AAL.mpr ⟨y,hy,rfl⟩);have:=C.S.len;lia) (by lia) i.nd
   have hp2:(M1++[MO.dC (bhd e l)])[M1.length]?=some (.dC (bhd e l)):=e_0;have R:(M1++[MO.dC (bhd e l)])[gn]?=some (.dK B):=by rw[AAS (AAT.mp Q).1];exact Q
   have S:Gi (T.step e) B:=gi.ev E hgb;obtain⟨F,W,gg,wk,hF,vm⟩:=HW (n:=M1.length) (g:=gn) (P:=Pt (T.step e) bg m) hp2 R (λy hy=>by
    obtain⟨x,u,z⟩:=List.mem_filterMap.mp hy;obtain⟨cc,h1,h2⟩:=Option.map_eq_some_iff.mp z;subst h2;exact(hP x u).ev E bs wf.1 A w h1) (λp cc h d s q=>q.mom J b0 S s) i.nd i.fit.sub (Nat.lt_trans i.fit.few (by decide)) (λx u=>by have:=i.fit.len x (i.fit.sub x u);lia)
   have st3:=aQ i wk;have cm':=Wy E bs hM wf.1 A w cm (by rw[←kb];exact wk);have e3:∃b,wmH (M1++[MO.dC (bhd e l)]) F W gg=Z++b:=by
    refine⟨I.set (gn-Z.length) (.dK B)++[MO.dC (bhd e l)]++(.dC F::.dC W::.lst []::gg),?_⟩;show (M.set gn (.dK B)++[MO.dC (bhd e l)])++_=_;rw[eM,AAe _ _ H];simp only[AAk]
   obtain⟨j,f,b,r,q1,q2,q3,q4,go⟩:=Xf b0 H es (T.step e) _ c' F B K a' N (M1++[MO.dC (bhd e l)]).length (wmH (M1++[MO.dC (bhd e l)]) F W gg) (some (BH e g)) J bs' hM' wf.2 (λx u=>hv x (AAQ _ u)) (λx u=>hh x (AAQ _ u)) (λv hv=>hw v (AAQ _ hv)) st3 bz' (il'.trans il) hF cm' S (by rw[AAH] at hl;show (Dc L _ _).length+_<=_;lia) wm0 (wmN R) e3;refine⟨j,f,b,r,q1,q2,q3,q4,?_⟩;rw[hgs];refine AU (x:=BH e g) (w5:=M) rfl (AT (w5:=M1) (En (L:=L) (k:=e.hand) (v:=.int g) (po (x:=BH e g) (y:=.int 3) rfl rfl rfl) rfl (po (x:=BH e g) (y:=.int 1) rfl rfl rfl) hg (by lia)) (CW (Bi (EL (Bi rfl vb) (EL (x:=.ref gn) rfl rfl)) vm) rfl)) go
  cases U:e.beg with
  |true=>exact O (bl T).length _ (λ_=>rfl) (by rw[K16.gs_beg U,K93.step_bl E,U,if_pos rfl,AAG];rfl)
  |false=>exact O (c e.hand) c (λz=>by rw[U] at z;cases z) (by rw[K16.gs_end U,K93.step_bl E,U];rfl)
end
end K18
namespace K18
open PySem L2 Mi Nk Wb Ht
open K13 (Ai Ev Ev.beg Ev.hand Ev.val wfG Ns evD BH hdD po pc pd p2 pq pa piT piF pr AU Ax BF Ft BP)
open K16 (mkK Dy Ds)
open K15 (one St Shp Bz Gd mem_wz wz)
open K93 (Tk Od V Rp bl Bs Hm T0 ok0 run Fh LZ SM)
section
variable{Z g:Mh}{ds vs:List D}{N ps j:Nat}{x3:Sl}{mb:Sl->M (Fl×Sl)}
theorem W5(e:mb (Bc N ds) Z=some ((.rt (.ref j),x3),Z++g))(a:Nat.beq ds.length ps=true)(b:Z.length<=j)(h:(Z++g)[j]?=some (.lst vs))(c:Do Z.length vs=true)(f:CS Z.length Z.length (Z++g)=some Z):IN N ps mb ds Z=some (.ref Z.length,Z++[.lst vs]):=by
 have:J9 N ps mb ds Z=some (.ref Z.length,Z++[.lst vs]):=by
  unfold J9;rw[a];dsimp only;rw[e];dsimp only;rw[Nat.ble_eq_true_of_le b];dsimp only;rw[h];dsimp only;rw[c];dsimp only;rw[f]
 unfold IN;rw[this]
theorem W4(e:mb (Bc N ds) Z=some ((.rt .non,x3),Z++g))(a:ds.length=ps):IN N ps mb ds Z=some (.non,Z):=by
 have:J9 N ps mb ds Z=none:=by
  unfold J9
  simp_all
 unfold IN;rw[this];exact Ac e a (by trivial)
end
section
variable{Z:Mh}{sz bg:Int}{ns:List Str}{kd:Str}{es:List Ev}
theorem st0(S:K15.Shp b (List.replicate n true) bg none):St b (List.replicate n true) bg none [(bg,-1,List.replicate n (-1))]:=⟨S,by simp,λc a=>by
 rw[AAK.mp a];refine mem_Uc.mpr ⟨?_,rfl,rfl⟩;clear S a
 induction n with
 |zero=>simp[tlU]
 |succ k d=>exact mem_tlU.mpr ⟨-1,_,rfl,rfl,d⟩⟩
theorem FX(a:Gd ns sz bg es)(f:∀g,CS Z.length Z.length (Z++g)=some Z):
  (∃(ks:List Nat) (o:Od),V (run T0 es) bg o/\(∀k∈ks,k<(bl (run T0 es)).length)/\o.map Prod.fst=ks.map (gk (run T0 es))/\Ck [mkK kd sz bg ns,.lst (es.map (evD ns))] Z=some (.ref Z.length,Z++[.lst (ks.map λk:Nat=>D.int k)])) ∨
  ((∀o,¬V (run T0 es) bg o)/\Ck [mkK kd sz bg ns,.lst (es.map (evD ns))] Z=some (.non,Z)):=by
 have hz:=BF;have hi:=a.N.hi;have lo:=a.N.lo;have l1:=a.l1
 let m:=ns.length-1
 let c:Cs:=(bg,-1,List.replicate m (-1))
 let i:Mh:=Z++[MO.dC [(c,.non)],MO.dK []]
 have K:i[Z.length]?=some (.dC [(c,.non)]):=by show (Z++[MO.dC [(c,.non)],MO.dK []])[Z.length]?=_;rw[AAR (AAE _),AAt];rfl
 have L:i[Z.length+1]?=some (.dK []):=by show (Z++[MO.dC [(c,.non)],MO.dK []])[Z.length+1]?=_;rw[AAR (by lia),Nat.add_sub_cancel_left];rfl
 obtain⟨gs,hg,N,A⟩:=K16.v_actsX (Z:=i) (kd:=kd) (bg:=bg) a.N a.ok a.wf (by lia);subst N;rw[K16.eq_acts] at A;have O:=st0 a.shp;obtain⟨B,p,l,q,P,Q,q3,C,S⟩:=Xf (Z:=Z) (m:=m) (gn:=Z.length+1) (o2:=some (.int m)) a.b0 (by lia) es T0 (λ_=>false) (λ_=>0) [(c,.non)] [] _ bg none Z.length i none ok0 (λ_=>rfl) (λ_ _ e=>by cases e) a.wf (λe s v t=>(a.hv e s v t).1) (λe s=>by have:=(a.ok e s).h;show _<ns.length-1+1;lia) (λv t=>AAQ _ (mem_wz.mpr t)) O ⟨rfl,λr E=>by rw[List.getElem?_replicate,if_pos (by rw[AAl] at E;exact E)];rfl⟩ AAl (λy T=>by
  rw[AAK.mp T];exact⟨[],[],SM,Fh a.b0,rfl,(λ_ h=>by cases h),rfl⟩) (λo h=>⟨c,AAK.mpr rfl,by rw[LZ h];exact Fh a.b0⟩) (λh b z=>by cases z) (by show 0+_<=_;lia) K L ⟨_,rfl⟩
 have n:∀{R:(Fl×Sl)×Mh},(AS (sIf (Dx (NJ (AA 3))) (As (mC .non)) A6)
  (As (AE EH (AD (mOp AJ (mUn Oa (AA 3)) (mC (.int 0))) AK)))) [some (mkK kd sz bg ns),some (.lst (es.map (evD ns))),some (.int m),some (.ref p),some (.ref (Z.length+1)),q] (Z++l)=some R->G1 Ai Cg Cf EH (Bc 6 [mkK kd sz bg ns,.lst (es.map (evD ns))]) Z=some R:=λ{R} h=>by
  refine AT (w5:=Z) (x5:=[some (mkK kd sz bg ns),some (.lst (es.map (evD ns))),some (.int m),none,none,none]) (pa (d:=.int m) (po (x:=.int ns.length) (y:=.int 1) (pd rfl ?_) rfl ?_) rfl) (AT (w5:=Z++[.dC [(c,.non)]]) (CW (d:=.ref Z.length) ?_ rfl) (AT (w5:=i) (CW (d:=.ref (Z.length+1)) ?_ rfl) (AT (Dl (w5:=i) ?_ S) h)))
  ·show some (D.int (((ns.map hdD).length:Nat):Int),Z)=_;rw[AAF]
  ·show some (D.int ((ns.length:Int)-1),Z)=_;rw[show ((ns.length:Int)-1)=(m:Nat) by show _=((ns.length-1:Nat):Int);lia]
  ·have U:AE BE (AD (mOp AJ (AA 0) (mC (.int 2))) (AD (mC K16.d_NONE) (AD (mOp E9 (AE BE (AD (mC K16.d_NONE) AK)) (AA 2)) AK))) [some (mkK kd sz bg ns),some (.lst (es.map (evD ns))),some (.int m),none,none,none] (Z++[MO.dC []])=some (csD c,Z++[MO.dC []]):=by
    refine pd (pc (x:=.int bg) (po (y:=.int 2) rfl rfl rfl) (pc (x:=.int (-1)) rfl (pc (po (x:=.tup [.int (-1)]) (y:=.int m) rfl rfl ?_) rfl))) (Ax (by simp;lia));show (if [D.int (-1)]≠[]/\[D.int (-1)].length<=1000/\1<=(m:Int)/\(m:Int)<=1000 then some (D.tup (List.replicate ((m:Nat):Int).toNat [D.int (-1)]).flatten,(Z++[MO.dC []])) else none)=_;have W:1<=m:=by show 1<=ns.length-1;lia
    have X:m<=3:=by show ns.length-1<=3;lia
    rw[if_pos ⟨by simp,by simp,by lia,by lia⟩,Ft,List.map_replicate,Int.toNat_natCast]
   unfold L0;rw[show (bnd (AE BE (AD (mOp AJ (AA 0) (mC (.int 2))) (AD (mC K16.d_NONE) (AD (mOp E9 (AE BE (AD (mC K16.d_NONE) AK)) (AA 2)) AK))) [some (mkK kd sz bg ns),some (.lst (es.map (evD ns))),some (.int m),none,none,none]) λy=>bnd (mC .non [some (mkK kd sz bg ns),some (.lst (es.map (evD ns))),some (.int m),none,none,none]) λx=>ret (y,x)) (Z++[.dC []])=some ((csD c,.non),Z++[MO.dC []]) from by rw[AM U];rfl];dsimp only;rw[e_0,K16.asCs_csD];dsimp only;rw[f_0]
  ·show some (D.ref (Z++[MO.dC [(c,.non)]]).length,(Z++[MO.dC [(c,.non)]])++[MO.dK []])=_;rw[AAG,AAk];rfl
  ·exact K13.BB (pd rfl A)
 have F:NJ (AA 3) [some (mkK kd sz bg ns),some (.lst (es.map (evD ns))),some (.int m),some (.ref p),some (.ref (Z.length+1)),q] (Z++l)=some (!B.isEmpty,Z++l):=by
  unfold NJ;rw[AM (rfl),AM (Ds C)];rfl
 cases B with
 |nil=>exact .inr ⟨λo h=>Q o h rfl,W4 (g:=l) (n (Cn (piT (EK F) (pr rfl)))) rfl⟩
 |cons y r=>
  obtain⟨ks,o,G,_,Y,H,u⟩:=P y AAP;have kl:ks.length<=1000:=by
   have h1:=CB (ys:=bl (run T0 es)) G.nd (λb I=>by
    rw[u] at I;obtain⟨k,w,rfl⟩:=AAL.mp I;exact Jo (H k w))
   rw[u,AAF] at h1;have:=O4 (es:=es) (by lia);lia
  refine .inl ⟨ks,o,G,H,u,?_⟩;have J:=Vr (Z:=Z++l) kl;rw[←Y] at J;refine W5 (j:=(Z++l).length) (x3:=[some (mkK kd sz bg ns),some (.lst (es.map (evD ns))),some (.int m),some (.ref p),some (.ref (Z.length+1)),q]) (n ?_) rfl (by rw[AAG];lia) (by rw[←AAk];exact e_0) (Er (λ_=>rfl) _) (f _);rw[←AAk];refine AT (piF (EK F) rfl) (C6 (Bi (ds:=[y.2]) (pc (po (x:=.lst ((y::r).map (·.2))) (y:=.int 0) ?_ rfl (GQ (K13.BZ (r:=0) rfl))) rfl) J));show bnd (AA 3 _) _ _=_;rw[AM (rfl)];show bnd (GJ (.ref p)) _ _=_;rw[AM (Ds C)]
end
end K18
namespace K18
open PySem L2 Mi Nk Wb Ht
open K13 (po pc pd p2 pq pa piT piF pr AU BD Bl Ba BB Ae BF L7 P3 BP A7)
open K93 (ksD)
def flt(xs:List Nat)(i:Nat):List Nat:=xs.filter λj=>!((j:Int)==(i:Int))
noncomputable def ord:Nat->List Nat->List (List Nat)
 |0,_=>[]
 |n+1,a=>[]::a.flatMap λi=>(ord n (flt a i)).map (i::·)
noncomputable def cnt:Nat->Nat
 |0=>1
 |k+1=>1+(k+1) * cnt k
theorem Zq(k:Nat):cnt k<=cnt (k+1):=by
 show cnt k<=1+(k+1) * cnt k
 grind
theorem Fw:∀{k:Nat},j<=k->cnt j<=cnt k
 |0,h=>by simp_all
 |k+1,h=>by
  rcases Nat.lt_or_eq_of_le h with z|z
  ·exact AAq (Fw (Nat.le_of_lt_succ z)) (Zq k)
  simp_all
theorem mem_flt:j∈flt xs i↔j∈xs/\j≠i:=by
 unfold flt
 grind
theorem G8(h:i∈xs):(flt xs i).length<xs.length:=by
 unfold flt;rw[List.length_filter_lt_length_iff_exists];exact⟨i,h,by simp⟩
theorem Ot{α a:Type}{f:α->List a}{B_:Nat}:∀{xs:List α},(∀i∈xs,(f i).length<=B_)->(xs.flatMap f).length<=xs.length * B_
 |[],_=>by simp
 |x::xs,h=>by
  have c:=h x AAP;have d:=Ot λi b=>h i (AAQ _ b);rw[List.flatMap_cons,AAG,AAH,Nat.succ_mul]
  grind
theorem Ib:∀(n:Nat) (xs:List Nat),(ord n xs).length<=cnt xs.length
 |0,xs=>AAi _
 |n+1,xs=>by
  unfold ord;rw[AAH];cases q:xs.length with
  |zero=>rw[List.length_eq_zero_iff.mp q];exact AAE 1
  |succ k=>
   have:=Ot (B_:=cnt k) (xs:=xs) (f:=λi=>(ord n (flt xs i)).map (i::·)) λi a=>by
    rw[AAF];refine AAq (Ib n (flt xs i)) (Fw ?_);have:=G8 a;lia
   rw[q] at this;show _<=1+(k+1) * cnt k;lia
theorem Ig:∀{n:Nat} {xs ks:List Nat},xs.length<n->(ks∈ord n xs↔ks.Nodup/\∀k∈ks,k∈xs)
 |0,xs,ks,h=>by grind
 |n+1,xs,ks,h=>by
  unfold ord;rw[AAI,List.mem_flatMap];constructor
  ·rintro(rfl|⟨i,b,a⟩)
   ·simp_all
   ·obtain⟨r,d,rfl⟩:=AAL.mp a;have l:=G8 b;obtain⟨e,c⟩:=(Ig (by lia)).mp d;refine⟨List.nodup_cons.mpr ⟨λz=>(mem_flt.mp (c i z)).2 rfl,e⟩,λk a=>?_⟩;rcases AAI.mp a with rfl|z
    ·exact b
    ·exact(mem_flt.mp (c k z)).1
  ·rintro⟨f,a⟩;cases ks with
   |nil=>exact .inl rfl
   |cons i r=>
    have b:=a i AAP;have l:=G8 b;obtain⟨g,j⟩:=List.nodup_cons.mp f;exact .inr ⟨i,b,AAL.mpr ⟨r,(Ig (by lia)).mpr ⟨j,λk z=>mem_flt.mpr ⟨a k (AAQ _ z),λy=>g (by rw[←y];exact z)⟩⟩,rfl⟩⟩
section
variable{Z:Mh}
noncomputable abbrev orB(φ:List D->M D):Sl->M (Fl×Sl):=(AS (AY (Bm 1 [2] (CM (AA 0)) (AO 0) (AN (mOp DA (AA 0) (AA 1))) (AA 0) BU) (AO 3))
  (AY (mOp Av (AA 1) (Bm 1 [2] (CM (AE φ (AD (AA 3) AK))) (AO 0) DO (mOp Av (AE BU (AD (AA 1) AK)) (AA 0)) BU)) (AO 1)))
theorem XY{φ:List D->M D}{n:Nat}{xs:List Nat}(g:xs.length<=5)(hn:xs.length<n+1)(d:∀ys:List Nat,ys.length<n->ys.length<=5->φ [ksD ys] Z=some (.lst ((ord n ys).map ksD),Z)):∀(js pre:List Nat) (o2 o3:Option D),pre++js=xs->∃b c:Option D,
  B5 (AO 2) (orB φ) (js.map λk:Nat=>D.int k) [some (ksD xs),some (.lst (([]::pre.flatMap λi=>(ord n (flt xs i)).map (i::·)).map ksD)),o2,o3] Z=some ((.next,[some (ksD xs),some (.lst ((ord (n+1) xs).map ksD)),b,c]),Z)
 |[],pre,o2,o3,e=>⟨o2,o3,by rw[AAY] at e;subst e;rfl⟩
 |i::js,pre,o2,o3,e=>by
  have s:=BF;have h:i∈xs:=by rw[←e];simp
  have t:=G8 h;have u:=Ib n (flt xs i);have v:cnt (flt xs i).length<=326:=AAq (Fw (show _<=5 by lia)) (by decide);have l:∀k∈ord n (flt xs i),k.length<=5:=λk m=>by
   have:=(Ig (by lia)).mp m;have:=CB this.1 this.2;lia
  have w:(pre.flatMap λi=>(ord n (flt xs i)).map (i::·)).length<=10000:=by
   have:=Ot (B_:=326) (xs:=pre) (f:=λi=>(ord n (flt xs i)).map (i::·)) λj o=>by
    rw[AAF];refine AAq (Ib n _) (AAq (Fw (show _<=5 from ?_)) (by decide));have:=G8 (xs:=xs) (i:=j) (by rw[←e];exact AAa _ o);lia
   have z:pre.length<=xs.length:=by rw[←e,AAG];lia
   have:pre.length * 326<=5 * 326:=Nat.mul_le_mul_right _ (by lia);lia
  obtain⟨p2,p,q⟩:=XY g hn d js (pre++[i]) (some (.int i)) (some (ksD (flt xs i))) (by rw[AAk];exact e);refine⟨p2,p,AU (x:=.int i) (w5:=Z) rfl (AT (w5:=Z) (pa (BD (BB rfl) (by rw[AAF];lia) ?_ (Ae (by rw[AAF];lia))) rfl) (pa (po rfl (BD (es:=((ord n (flt xs i)).map (i::·)).map ksD) (BB (pd rfl (d _ (by lia) (by lia)))) (by rw[AAF];lia) ?_ (Ae (by rw[AAF,AAF];lia))) ?_) rfl)) q⟩
  ·have:=Bl (Z:=Z) (me:=AA 0) (mc:=AN (mOp DA (AA 0) (AA 1))) (u3:=[none,some (.int i)]) (xs:=xs) (ys:=[]) (λa _=>AX (po (x:=.int a) (y:=.int i) rfl rfl P3)) (λa _ _=>rfl);exact this
  ·have:=Bl (Z:=Z) (me:=mOp Av (AE BU (AD (AA 1) AK)) (AA 0)) (mc:=DO) (u3:=[none,some (.int i)]) (f:=ksD) (F:=λk=>ksD (i::k)) (ys:=[]) (λa _=>rfl) (λa r _=>po (y:=ksD a) (pd (ds:=[.int i]) rfl (Ae (by simp;lia))) rfl (by have:=l a r;exact L7 (by rw[AAF];simp;lia)));rw[List.nil_append,Ba] at this;rw[List.map_map];exact this
  ·rw[L7 (by rw[AAF,AAF,AAF,AAH];lia),←AAX,List.cons_append,List.flatMap_append];simp
theorem Me:∀(n:Nat) (xs:List Nat),xs.length<n->xs.length<=5->Em n [ksD xs] Z=some (.lst ((ord n xs).map ksD),Z)
 |0,xs,h,_=>by lia
 |n+1,xs,h,a=>by
  have d:=BF;obtain⟨p2,b,c⟩:=XY a h (Me n) xs [] none none rfl;refine Ac (g:=[]) (x3:=[some (ksD xs),some (.lst ((ord (n+1) xs).map ksD)),p2,b]) ?_ rfl ?_
  ·rw[AAY];exact pq (pa (pd (pc (pd rfl (Ae (by simp))) rfl) (Ae (by simp;lia))) rfl) (pq (Dl (BB rfl) c) (pr rfl))
  ·exact A7 (λk=>by exact A7 (λ_=>BP _ _) _) _
end
end K18
namespace K93
open PySem L2 Mi Ht Nk Wb
open K13 (Ev Ev.beg Ev.hand Ev.val BH bS evD hdD Ns nm wfG A7 BP BF Ai Ao Gf)
open K16 (ER Bb wH Ds A2 Au A4 BM Aj CC mkK mkW S0)
open K12 (Cl1 clD JC mwD Iw FR D1 D2)
open K15
section
variable{Z:Mh}{QD:D->Mh->Prop}{sz bg v:Int}{hs:List D}{cs U:List Cs}{r:Nat}
theorem Qj(F:Fit (cs.map (KB v)) U)(q:∀K,Cl1 (cs.map (KB v)) K->QD (clD K) Z):WP (BY [mwD sz bg hs,clD cs,.int v]) Z QD:=by
 have a:=F.many;rw[AAF] at a;unfold BY;refine C0 rfl ?_;unfold A2;wtm_at "c";refine Iw ?_;wtm_at "c";refine⟨by rw[AAF,sizeLine_eq];lia,FW _ (λ_=>true) (λc=>csD (KB v c)) (λc b=>?_) ?_⟩
 ·wtm_at "c";refine⟨rfl,?_⟩;wtm_at "c";refine⟨rfl,rfl,λ_=>?_⟩;wtm_at "c";exact BQ K16.v_cbW ⟨rfl,rfl⟩
 ·rw[List.filter_eq_self.mpr λ_ _=>rfl];refine Gg (by rw[AAF,sizeLine_eq];lia) ?_;wtm_at "c";rw[show (cs.map λc=>csD (KB v c))=(cs.map (KB v)).map csD by rw[List.map_map];rfl];exact D4 F λK k=>⟨_,_,[],rfl,by simp,FR _ _,q K k⟩
theorem MX(b:∀c∈cs,r<c.2.2.length)(d:∀c∈cs,c.2.2.length<=3)(F:Fit (cs.map (GI r)) U)(q:∀K,Cl1 (cs.map (GI r)) K->QD (clD K) Z):WP (BL [mwD sz bg hs,clD cs,.int r]) Z QD:=by
 have e:=F.many;rw[AAF] at e;unfold BL;refine C0 rfl ?_;unfold A4;wtm_at "c";refine Iw ?_;wtm_at "c";refine⟨by rw[AAF,sizeLine_eq];lia,FW _ (λ_=>true) (λc=>csD (GI r c)) (λc a=>?_) ?_⟩
 ·wtm_at "c";refine⟨rfl,?_⟩;wtm_at "c";refine⟨rfl,rfl,λ_=>?_⟩;wtm_at "c";exact BQ (K16.v_cbR (b c a) (by have:=d c a;lia)) ⟨rfl,rfl⟩
 ·rw[List.filter_eq_self.mpr λ_ _=>rfl];refine Gg (by rw[AAF,sizeLine_eq];lia) ?_;wtm_at "c";rw[show (cs.map λc=>csD (GI r c))=(cs.map (GI r)).map csD by rw[List.map_map];rfl];exact D4 F λK k=>⟨_,_,[],rfl,by simp,FR _ _,q K k⟩
end
section
variable{Z:Mh}{QD:D->Mh->Prop}{m cl t g:D}{r:Nat}
theorem cw(h:WP (BY [m,cl,t]) Z λd w5=>Cl Z.length d/\w5=Z/\QD d Z):WP (A8 [m,cl,.tup [.str "begin",.int ((0:Nat):Int),t,g]]) Z QD:=by
 refine C0 rfl ?_;unfold Aj;wtm_at "f";exact Ak h λd w5 ⟨c,e,q⟩=>⟨_,_,[],rfl,by rw[e];simp,c,q⟩
theorem c7(h:WP (A9 [m,cl]) Z λd w5=>Cl Z.length d/\w5=Z/\QD d Z):WP (A8 [m,cl,.tup [.str "end",.int ((0:Nat):Int),t,g]]) Z QD:=by
 refine C0 rfl ?_;unfold Aj;wtm_at "f";exact Ak h λd w5 ⟨c,e,q⟩=>⟨_,_,[],rfl,by rw[e];simp,c,q⟩
theorem c6(h:WP (BL [m,cl,.int (r:Int)]) Z λd w5=>Cl Z.length d/\w5=Z/\QD d Z):WP (A8 [m,cl,.tup [.str "begin",.int ((r+1:Nat):Int),t,g]]) Z QD:=by
 refine C0 rfl ?_;unfold Aj;wtm_at "f";rw[show ((r+1:Nat):Int)-1=r by lia];wtm_at "f";exact Ak h λd w5 ⟨c,e,q⟩=>⟨_,_,[],rfl,by rw[e];simp,c,q⟩
theorem cz(h:WP (Bh [m,cl,.int (r:Int),t]) Z λd w5=>Cl Z.length d/\w5=Z/\QD d Z):WP (A8 [m,cl,.tup [.str "end",.int ((r+1:Nat):Int),t,g]]) Z QD:=by
 refine C0 rfl ?_;unfold Aj;wtm_at "f";rw[show ((r+1:Nat):Int)-1=r by lia];wtm_at "f";exact Ak h λd w5 ⟨c,e,q⟩=>⟨_,_,[],rfl,by rw[e];simp,c,q⟩
end
section
variable{Z:Mh}{QD:D->Mh->Prop}{ws:List Int}{is:List Bool}{a:Int}{mm:Option Int}{cs S:List Cs}{G:Nat->Bool}{sz bg:Int}{ns:List Str}
theorem Z7(i:St ws is a mm cs)(f:Bz G is mm)(h:∀x,x∈cs↔x∈S)(u:G e.hand=!e.beg)(A:e.hand<is.length+1)(C:∀v,e=.wb v->v∈ws)
  (E:Jn S e=true->QD .non Z) (q:Jn S e=false->∀(K:List Cs) (l:List Bool) (F:Int) (o:Option Int),St ws l F o K->Bz (λx=>if x=e.hand then e.beg else G x) l o->l.length=is.length->(∀x,x∈K↔x∈clo (pre S e))->QD (clD K) Z) :
  WP (A8 [mkW sz bg ns,clD cs,BH e g]) Z QD:=by
 have t:∀c∈cs,c.2.2.length=is.length:=λc=>i.len;have p:=i.S.len;cases e with
 |wb v=>
  have H:mm=none:=by
   have:=f.w.trans u;cases mm with
   |none=>rfl
   |some b=>cases this
  subst H;have d:=i.wb (C v rfl);exact cw (Qj d.fit λK k=>⟨FR _ _,rfl,q rfl K is a (some v) (d.clo k) ⟨rfl,f.r⟩ rfl (Ir (.wb v) h k)⟩)
 |we=>
  obtain⟨b,rfl⟩:∃b,mm=some b:=by
   have:=f.w.trans u;cases mm with
   |none=>cases this
   |some b=>exact⟨b,rfl⟩
  have d:=i.we;exact c7 (Nt i.many d.fit λK k=>⟨FR _ _,rfl,q rfl K is b none (d.clo k) ⟨rfl,f.r⟩ rfl (Ir .we h k)⟩)
 |rb r=>
  have n:r<is.length:=by
   have:r+1<is.length+1:=A;lia
  have I:is[r]?=some true:=by rw[f.r r n,show G (r+1)=false from u];rfl
  have d:=i.rb I;refine c6 (MX (λc m=>by rw[t c m];exact n) (λc m=>by rw[t c m];exact p) d.fit λK k=>⟨FR _ _,rfl,q rfl K _ a mm (d.clo k) ⟨f.w,λj s=>?_⟩ (AAu ..) (Ir (.rb r) h k)⟩);rw[AAu] at s;by_cases z:r=j
  ·subst z;rw[List.getElem?_set_self n];show some false=some !if r+1=r+1 then true else G (r+1)
   rw[if_pos rfl];rfl
  ·rw[AAm z,f.r j s];show _=some !if j+1=r+1 then true else G (j+1)
   rw[if_neg (by lia)]
 |re r v=>
  have n:r<is.length:=by
   have:r+1<is.length+1:=A;lia
  have d:=i.re (r:=r) (v:=v);have B:Jn S (.re r v)=(JC cs r v).isEmpty:=by
   show (S.filterMap (FJ r v)).isEmpty=(cs.filterMap (FJ r v)).isEmpty;rw[Bool.eq_iff_iff,List.isEmpty_iff,List.isEmpty_iff,List.eq_nil_iff_forall_not_mem,List.eq_nil_iff_forall_not_mem];exact⟨λz x w=>z x ((Ly h (.re r v) x).mp w),λz x w=>z x ((Ly h (.re r v) x).mpr w)⟩
  refine cz (VH (v:=v) i.many (λc m=>by rw[t c m];exact n) (λc m=>by rw[t c m];exact p) d.fit (λz=>⟨by unfold Cl;trivial,rfl,E (by rw[B,z];rfl)⟩) λz K k=>⟨FR _ _,rfl,q (by rw[B];cases y:JC cs r v with|nil=>exact absurd y z|cons _ _=>rfl) K _ a mm (d.clo k) ⟨f.w,λj s=>?_⟩ (AAu ..) (Ir (.re r v) h k)⟩);rw[AAu] at s;by_cases z:r=j
  ·subst z;rw[List.getElem?_set_self n];show some true=some !if r+1=r+1 then false else G (r+1)
   rw[if_pos rfl];rfl
  ·rw[AAm z,f.r j s];show _=some !if j+1=r+1 then false else G (j+1)
   rw[if_neg (by lia)]
theorem PM(N:Ns ns)(F:∀e∈es,e.Ok ns sz)(H:wfG (λ_=>false) es)(U:es.length<=100)(l:K15.Shp ws (List.replicate (ns.length-1) true) bg none)(W:∀v,Ev.wb v∈es->v∈ws)(q:QD (.bl (Ga (S0 bg (ns.length-1)) es)) Z):WP (CT [mkW sz bg ns,.lst (es.map (evD ns))]) Z QD:=by
 have X:=N.hi;have m:=N.lo;obtain⟨Y,hg,J⟩:=K16.v_acts N F H U;rw[K16.eq_acts] at J;have L:=K16.v_begunW (Z:=Z) (sz:=sz) (bg:=bg) (by lia) m;rw[K16.eq_begun] at L;unfold CT;refine C0 rfl ?_;unfold CC;wtm_at "f";refine BQ L ?_;wtm_at "f";refine BQ J ?_;wtm_at "f";have n:St ws (List.replicate (ns.length-1) true) bg none (S0 bg (ns.length-1)):=⟨l,by simp[S0],λc hc=>by
  rw[AAK.mp hc];refine mem_Uc.mpr ⟨?_,rfl,rfl⟩;generalize ns.length-1=k
  induction k with
  |zero=>simp[tlU]
  |succ k ih=>exact mem_tlU.mpr ⟨-1,List.replicate k (-1),rfl,rfl,ih⟩⟩
 have d:=Gf hg;refine Ix (I:=λi B o=>∃(b:List (Ev×Int)) (S cs:List Cs) (is:List Bool) (a:Int) (mm:Option Int) (G:Nat->Bool) (s:Option D),i=b.map (λp=>BH p.1 p.2)/\Ga (S0 bg (ns.length-1)) es=Ga S (b.map (·.1))/\St ws is a mm cs/\Bz G is mm/\is.length=ns.length-1/\(∀x,x∈cs↔x∈S)/\wfG G (b.map (·.1))/\(∀e∈b.map (·.1),e∈es)/\o=Z/\B=[some (mkW sz bg ns),some (.lst (es.map (evD ns))),some (clD cs),s]) ?_ ?_ ⟨es.zip Y,_,_,_,_,_,λ_=>false,none,rfl,by rw[d],n,⟨rfl,λr g=>by rw[List.getElem?_replicate,if_pos (by rw[AAl] at g;exact g)];rfl⟩,AAl,λ_=>Iff.rfl,by rw[d];exact H,by rw[d];exact λ_ h=>h,rfl,rfl⟩
 ·rintro x xs B o ⟨b,S,cs,is,a,mm,G,s,g,j,O,P,t,Q,R,f,rfl,rfl⟩;cases b with
  |nil=>cases g
  |cons p b=>
   obtain⟨e3,e4⟩:=List.cons.inj g;subst e3;obtain⟨w1,w2⟩:=R;have T  := f p.1 AAP;wtm_at "f";refine Z7 O P Q w1 (by rw[t];have:=(F p.1 T).h;lia) (λv e=>W v (by rw[←e];exact T)) (λu=>?_) λu K w a' y z A C E=>?_
   ·wtm_at "f";refine⟨_,_,[],rfl,by simp,by unfold Cl;trivial,?_⟩;have:Ga S ((p::b).map (·.1))=false:=by
     show (if Jn S p.1=true then false else _)=false;rw[if_pos u]
    rw[j,this] at q;exact q
   ·wtm_at "f";refine MZ ⟨b,clo (pre S p.1),K,w,a',y,_,_,e4,?_,z,A,C.trans t,E,w2,λe he=>f e (AAQ _ he),rfl,rfl⟩;rw[j];show (if Jn S p.1=true then false else _)=_;rw[u];rfl
 ·rintro B o ⟨b,S,cs,is,a,mm,G,s,g,j,O,P,t,Q,R,f,rfl,rfl⟩;cases b with
  |cons p b=>cases g
  |nil=>
   wtm_at "f";refine⟨_,_,[],rfl,by simp,by unfold Cl;trivial,?_⟩;rw[j] at q;exact q
end
end K93
namespace K18
open PySem L2 Mi Nk Wb Ht
open K13 (Ev Ev.beg Ev.hand Ev.val wfG Ns evD BH hdD po pc pd p2 pq pa piT piF pr AU Ax Ae BF BP P4 Xj F7 BJ B9)
open K16 (mkK S0)
open K15 (Gd mem_wz wz)
open K93 (Tk Od V Rp bl T0 ok0 run Fg ksD ddD CT K7 PM ET)
section
variable{Z:Mh}{sz bg:Int}{ns:List Str}{kd:Str}{es:List Ev}{T:Tk}{o:Od}{ks:List Nat}
theorem Tt{α a:Type}{f:α->a}{xs:List α}(h:(xs.map f).Nodup):xs.Nodup:=(List.pairwise_map.mp h).imp λz e=>z (congrArg f e)
theorem SI(e:T.Ok)(a:V T bg o)(f:∀k∈ks,k<(bl T).length)(c:o.map Prod.fst=ks.map (gk T)):vb T bg (ks.map (gk T))=true:=by
 have d:=a.nd;rw[c] at d;refine(SJ e d λb g=>?_).mpr ?_
 ·obtain⟨k,h,rfl⟩:=AAL.mp g;exact Jo (f k h)
 ·rw[←c,Tp a.ch];exact a
theorem cB(g:Gd ns sz bg es):CT [mkK "whole" sz bg ns,.lst (es.map (evD ns))] Z=some (.bl (Ga (S0 bg (ns.length-1)) es),Z):=by
 have c:=g.l1;obtain⟨d,a,e,rfl,rfl⟩:=PM (QD:=λd a=>d=.bl _/\a=Z) g.N g.ok g.wf (by lia) g.shp (λv b=>AAQ _ (mem_wz.mpr b)) ⟨rfl,rfl⟩;exact e
theorem ZS(g:Gd ns sz bg es):Ga (S0 bg (ns.length-1)) es=true↔∃o,V (run T0 es) bg o:=
 K7 g.b0 g.wf (λe a v b=>(g.hv e a v b).1) λe a=>by have:=(g.ok e a).h;lia
theorem Uq:clB k (mkK kd sz bg ns)=true:=by
 have a:Do k (ns.map hdD)=true:=Er (λ_=>rfl) ns;simp[mkK,clB,Do,a]
theorem X1:clB k (.lst (es.map (evD ns)))=true:=Er (λe=>by cases e<;>rfl) es
theorem bn:clB k (dlL T)=true:=by
 refine Er (λb=>?_) _;unfold ddD;cases T.fn b<;>rcases T.wv b with _|_|_<;>rfl
theorem Zs(b:clB k a=true)(d:clB k c=true):Do k [a,c,.non]=true:=by
 simp[Do,clB,b,d]
theorem Vq(g:Gd ns sz bg es):Fu [mkK kd sz bg ns,.lst (es.map (evD ns))] []=some (.bl true,[]):=by
 have hz:=BF;have l1:=g.l1;have w:=Fg es ok0 (λ_=>rfl) g.wf g.ok;have z:=O4 (es:=es) (by lia);have H:=ZS g;have I:=La (Z:=[]) (mk:=mkK kd sz bg ns) g.N g.wf g.ok (by lia);have R:∀{M:Mh} {f J K i:Option D},(AE CT (AD (mOp Av (AE BE (AD (mC (.str "whole")) AK)) (DT (AA 0) (CN (mC (.int 1))) Bv)) (AD (AA 1) AK))) [some (mkK kd sz bg ns),some (.lst (es.map (evD ns))),f,J,K,i] M=some (.bl (Ga (S0 bg (ns.length-1)) es),M):=λ{M f J K i}=>
  pd (pc (po (y:=.tup [.int sz,.int bg,.tup [],.tup (ns.map hdD)]) (pd rfl (Ax (by simp;lia))) (p2 rfl rfl rfl rfl) (F7 (by simp;lia))) rfl) (cB g)
 have L:∀{M:Mh} {f i:Option D} {j:D} ,(!isN j)=Ga (S0 bg (ns.length-1)) es->(mOr (AN (mOp DA (AA 3) (AA 1))) (AN (mOp DA (mOp (CA true) (AA 4) (mC .non)) (AE CT (AD (mOp Av (AE BE (AD (mC (.str "whole")) AK)) (DT (AA 0) (CN (mC (.int 1))) Bv)) (AD (AA 1) AK)))))) [some (mkK kd sz bg ns),some (.lst (es.map (evD ns))),f,some (.lst (es.map (evD ns))),some j,i] M=some (false,M):=λ{M f i j} h=>
  Ho (AX (po rfl rfl (P4 g.N λe S=>(g.ok e S).h))) (AX (po (x:=.bl (!isN j)) (po (x:=j) rfl rfl rfl) R (by rw[h];exact Xj)))
 have A:∀g:Mh,CS ([]:Mh).length ([]:Mh).length ([]++g)=some []:=λg=>by cases g<;>rfl
 rcases FX g A with ⟨ks,o,c,v,N,B⟩|⟨c,B⟩
 ·have U  := H.mpr ⟨o,c⟩;have l:=SI w c v N;have O:ks.Nodup:=Tt (by rw[←N];exact c.nd);have W:ks.length<=900:=by
   have:=CB O λk h=>List.mem_range.mpr (v k h);rw[List.length_range] at this;lia
  let M1:Mh:=[.lst (ks.map λk:Nat=>D.int k)]
  let a:Mh:=[.lst ((ks++[0]).map λk:Nat=>D.int k)]
  have C:∀g:Mh,CS a.length a.length (a++g)=some a:=λg=>by
   have X:W2 1 (MO.lst ((ks++[0]).map λk:Nat=>D.int k))=true:=by
    unfold W2;exact Er (λ_=>rfl) _
   show Mi.CS 1 1 (MO.lst ((ks++[0]).map λk:Nat=>D.int k)::g)=_;unfold Mi.CS;rw[X];cases g<;>rfl
  rcases FX (Z:=a) g C with ⟨m,o2,n,p,s,E⟩|⟨Y,_⟩
  ·have t:=SI w n p s;have F:m.Nodup:=Tt (by rw[←s];exact n.nd);have P:=Lb (Z:=[]) (kd:=kd) (bg:=bg) g.N g.wf g.ok (by lia) O v;rw[l] at P;have Q:=Mj (Z:=[]) (kd:=kd) (sz:=sz) (bg:=bg) (ns:=ns) v W z (λb hb=>(ET w).mp hb);rw[l] at Q;have u:=Lb (Z:=a) (kd:=kd) (bg:=bg) g.N g.wf g.ok (by lia) F p;rw[t] at u;have b1  := JE (r:=[]) rfl P (Zs Uq X1);have b2  := JE (r:=[]) rfl Q (Zs Uq bn);have G:a.all FP=true:=by show (FP _&&true)=true;rw[QF];rfl
   have b3  := JE (r:=a) G u (Zs Uq X1);refine Ac (g:=a++[.lst (m.map λk:Nat=>D.int k)]) (x3:=[some (mkK kd sz bg ns),some (.lst (es.map (evD ns))),some (dlL (run T0 es)),some (.lst (es.map (evD ns))),some (.ref 0),some (.ref 1)]) ?_ rfl (by unfold Cl;trivial);refine AT (pa (pd rfl I) rfl) ?_;refine AT (pa (pd rfl rfl) rfl) ?_;refine AT (CW (Bi rfl B) rfl) ?_;refine AT (w5:=M1) (piF (L (by rw[U];rfl)) rfl) ?_;refine AT (w5:=M1) (piF (AX (po rfl rfl rfl)) rfl) ?_;refine AT (w5:=M1) (piF (Ho (EK (b:=true) (AX (pd rfl rfl))) (Ho (EK (b:=true) (AX (pd rfl b1))) (EK (b:=true) (AX (pd rfl b2))))) rfl) ?_;refine AT (w5:=a) (DI (d:=.non) (Da (x6:=M1) rfl (BJ (rfl)) rfl ?_)) ?_
   ·rw[B9 (rfl) (by rw[AAF];lia)];show some (D.non,[MO.lst ((ks.map λk:Nat=>D.int k)++[.int 0])])=some (D.non,[MO.lst ((ks++[0]).map λk:Nat=>D.int k)]);rw[AAX];rfl
   refine AT (CW (Bi rfl E) rfl) ?_;exact C6 (Cz (po rfl rfl rfl) (pd rfl b3))
  ·exact absurd c (Y o)
 ·have jf:Ga (S0 bg (ns.length-1)) es=false:=by
   cases q:Ga (S0 bg (ns.length-1)) es with
   |false=>rfl
   |true=>obtain⟨o,h⟩:=H.mp q;exact absurd h (c o)
  refine Ac (g:=[]) (x3:=[some (mkK kd sz bg ns),some (.lst (es.map (evD ns))),some (dlL (run T0 es)),some (.lst (es.map (evD ns))),some .non,none]) ?_ rfl (by unfold Cl;trivial);refine AT (pa (pd rfl I) rfl) ?_;refine AT (pa (pd rfl rfl) rfl) ?_;refine AT (w5:=[]) (CW (Bi rfl B) rfl) ?_;refine AT (w5:=[]) (piF (L (by rw[jf];rfl)) rfl) ?_;exact Cn (piT (AX (po rfl rfl rfl)) (pr rfl))
end
end K18
namespace Mi
open PySem L2
section
variable{Z l:Mh}{o:MO}{k i n N ps:Nat}{B:Sl}{d:D}{ds es:List D}{ra:Sl->M (List D)}{tc:Sl->M Bool}{m:Sl->M (Fl×Sl)}{QD:D->Mh->Prop}{QB:Bool->Mh->Prop}{QS:Fl×Sl->Mh->Prop}{b:Bool}
theorem Hh:(Z++l)[Z.length+k]?=l[k]?:=by rw[AAR (by grind)];grind
theorem ZZ:(Z++l).set (Z.length+k) o=Z++l.set k o:=by simp
theorem Vm(h:ds.length<=sizeLine)(q:QD (.ref (Z.length+l.length)) (Z++(l++[.lst ds]))):WP (Dv ds) (Z++l) QD:=PL h (by simp_all)
theorem Nx(a:l[k]?=some (.lst ds)):EZ (.ref (Z.length+k)) (Z++l)=some (ds,Z++l):=by
 show (match (Z++l)[Z.length+k]? with|some (.lst ds)=>_|_=>none)=_;rw[Hh,a]
theorem YN(c:B[i]?=some (some (.ref (Z.length+k))))(a:l[k]?=some (.lst ds))(e:ds.length<sizeLine)(h:WP (ra B) (Z++l) λes w5=>∃y,es=[y]/\w5=Z++l/\QD .non (Z++l.set k (.lst (ds++[y])))):WP (BG DM (AA i) ra B) (Z++l) QD:=by
 refine A0 (BQ (BT c) (A0 (BQ (by unfold EU;rw[AM (Nx a)];rfl) (A0 (Ak h ?_)))));rintro es w5 ⟨y,rfl,rfl,q⟩;refine BQ ?_ q;show FY (Z.length+k) _ (Z++l)=_;unfold FY;rw[Hh,a];simp[e]
theorem Vh{y:D}{P:D->Prop}{a:Mh}(h:P y):∃z,[y]=[z]/\a=a/\P z:=⟨y,rfl,rfl,h⟩
theorem YM(a:l[k]?=some (.lst ds))(q:QD (.int ds.length) (Z++l)):WP (Bp [.ref (Z.length+k)]) (Z++l) QD:=by
 refine BQ ?_ q;unfold Bp;simp[Hh,a]
theorem VT{a:Mh}(q:QD (.int ds.length) a):WP (Bp [.lst ds]) a QD:=⟨_,a,rfl,q⟩
theorem Vl{p:M Bool}(a:b=true->WP p Z QB)(c:b=false->QB false Z):XC p QB b Z:=by cases b;exact c rfl;exact a rfl
noncomputable def whK(n:Nat)(tc:Sl->M Bool)(m:Sl->M (Fl×Sl))(B:Sl)(QS:Fl×Sl->Mh->Prop):Bool->Mh->Prop
 |true,Z=>WP (m B) Z (Kx (λa c=>WP (GX n tc m a) c QS) QS)
 |false,Z=>QS (.next,B) Z
theorem Ve(h:WP (m B) Z (Kx (λa Z'=>WP (GX n tc m a) Z' QS) QS)):whK n tc m B QS true Z:=h
theorem Vf(h:QS (.next,B) Z):whK n tc m B QS false Z:=h
theorem XH(h:WP (tc B) Z (whK n tc m B QS)):WP (GX (n+1) tc m B) Z QS:=by
 refine A0 (Ak h λb c z=>?_);cases b with
 |false=>exact CO z
 |true=>
  refine A0 (Ak z λr e z=>?_);obtain⟨a,f⟩:=r;cases a<;>first|exact z|exact CO z
theorem PP(a:ds.length=ps)(h:WP (m (Bc N ds)) (Z++[]) λr w6=>∃d x3 c,r=(.rt d,x3)/\w6=Z++c/\Cl Z.length d/\QD d Z):WP (Az .drop N ps m ds) Z QD:=C0 a (by rw[AAY] at h;exact h)
theorem SF(f:ds.length=ps)(h:WP (m (Bc N ds)) (Z++[]) λr w6=>∃k es x3 a,r=(.rt (.ref (Z.length+k)),x3)/\w6=Z++a/\a[k]?=some (.lst es)/\ClL Z.length es/\QD (.lst es) Z):WP (Az .frz N ps m ds) Z QD:=by
 rw[AAY] at h;obtain⟨r,w6,e,k,es,x3,a,rfl,rfl,g,c,q⟩:=h;exact BQ (LL e f (by lia) (by rw[Hh];exact g) c) q
theorem Vn{bf:D->Sl->M Sl}{c:Mh}(h:WP (bf (.int 0) B) c λx5 w5=>WP (m x5) w5 (Kx (λa Z'=>QS (.next,a) Z') QS)):WP (B5 bf m ((List.range 1).map λ(i:Nat)=>D.int (i:Int)) B) c QS:=YJ (I:=λj a Z'=>j=0/\a=B/\Z'=c∨j=1/\QS (.next,a) Z') (by simp_all) (by simp_all) (.inl ⟨rfl,rfl,rfl⟩)
theorem Va{c:Mh}(h:(ds++es).length<=sizeLine)(q:QD (.tup (ds++es)) c):WP (Av (.tup ds) (.tup es)) c QD:=by
 refine BQ ?_ q;cases ds with
 |nil=>rfl
 |cons a e=>
  show bnd _ _ c=_;rw[AM (He h _)];rfl
theorem VO{a:Mh}(q:QD (.int 1000000000) a):WP (M6 (.int 10) (.int 9)) a QD:=YA (by decide) q
theorem VS{i j:Int}{a:Mh}(h:0<j)(q:0<=i % j->i % j<j->QD (.int (i % j)) a):WP (Cv (.int i) (.int j)) a QD:=Nu h (q (Int.emod_nonneg _ (by lia)) (Int.emod_lt_of_pos _ h))
theorem VR{i j:Int}{a:Mh}(h:0<j)(q:∀v,0<=v->v<j->QD (.int v) a):WP (Cv (.int i) (.int j)) a QD:=Nu h (q _ (Int.emod_nonneg _ (by lia)) (Int.emod_lt_of_pos _ h))
theorem X7{x y:Option Int}{a:Mh}(q:QD (.lst (FT ds x y)) a):WP (JV x y (.lst ds)) a QD:=⟨_,a,rfl,q⟩
theorem YC{i:Int}{a:Mh}(q:QD (.int (-i)) a):WP (Pm (.int i)) a QD:=⟨_,a,rfl,q⟩
theorem Wa{x y:Option Int}{d:D}(h:d∈FT ds x y):d∈ds:=List.mem_of_mem_drop (List.mem_of_mem_take h)
theorem Wd{x y:Option Int}:(FT ds x y).length<=ds.length:=by unfold FT;rw[List.length_take,List.length_drop];lia
theorem Vb{a:Mh}(h:(ds++es).length<=sizeLine)(q:QD (.lst (ds++es)) a):WP (Av (.lst ds) (.lst es)) a QD:=by
 refine BQ ?_ q;show bnd _ _ a=_;rw[AM (He h _)];rfl
theorem SA{v:Int}{a:Mh}(e:0<=v)(f:v<ds.length)(q:∀d∈ds,QD d a):WP (AJ (.lst ds) (.int v)) a QD:=by
 obtain⟨k,rfl⟩:∃k:Nat,v=k:=⟨v.toNat,by grind⟩;have c:k<ds.length:=by grind
 refine SB ?_ (q _ (List.getElem_mem c));rw[XB (AAr c)]
theorem YF{x y:D}{a:Mh}(h:AJ x y a=some (d,a))(q:QD d a):WP (AJ x y) a QD:=BQ h q
theorem XI{x y:Option Int}(a:l[k]?=some (.lst ds))(q:QD (.lst (FT ds x y)) (Z++l)):WP (JV x y (.ref (Z.length+k))) (Z++l) QD:=by
 refine BQ ?_ q;show bnd _ _ _=_;rw[AM (Nx a)];rfl
end
end Mi
local macro_rules | `(tactic| wtm_at "i")=>`(tactic| first|lia|(focus (simp;done))|(focus (simp;lia)))
local macro_rules | `(tactic| wtm_at "q")=>`(tactic| first|(left;constructor<;>lia)|(right;constructor<;>lia))
local macro_rules | `(tactic| wtm_at "n")=>`(tactic| first
 |((with_reducible apply Mi.VS);(wtm_at "e");intro _ _)|((with_reducible apply Mi.Vm);(wtm_at "i"))|((with_reducible apply Mi.Gg);(wtm_at "i"))|((with_reducible apply Mi.PK);(wtm_at "i"))|wtm_at "p" |((with_reducible apply Mi.YN);rfl;rfl;(wtm_at "i"))|(with_reducible apply Mi.Vh)|((with_reducible apply Mi.YM);rfl)|(with_reducible apply Mi.VT)|(with_reducible apply Mi.Ve)|(with_reducible apply Mi.Vf)|(with_reducible apply Mi.MZ)|(with_reducible apply Mi.VO)|((with_reducible apply Mi.YD);(wtm_at "q"))|((with_reducible apply Mi.XI);rfl)|(with_reducible apply Mi.X7)|(with_reducible apply Mi.YC)|((with_reducible apply Mi.YF);rfl)|((with_reducible apply Mi.Vb);(wtm_at "i"))|((with_reducible apply Mi.Va);(wtm_at "i"))|((with_reducible apply Mi.Vg);rfl;(wtm_at "e"))|(with_reducible apply Mi.Vn)
 |((with_reducible apply Mi.Vl)<;>intro _)|((with_reducible apply Mi.wkb_or)<;>intro _)|((with_reducible apply Mi.YL)<;>intro _)|((with_reducible apply Mi.wkb_wh)<;>intro _)|(with_reducible refine And.intro rfl ?_)|(refine λ(_:true=true)=>?_))
local macro_rules | `(tactic| wtm_at "l")=>`(tactic| first|((with_reducible apply Mi.VR);(wtm_at "i");intro _ _ _)|wtm_at "n")
local macro_rules | `(tactic| wtm_at "d")=>`(tactic| repeat' wtm_at "l")
namespace K93
open PySem L2 Mi Ht
open K13 (Ev Ev.beg Ev.hand Ev.val Ev.Ok nm bS evD hdD Ns Ns.nok wfG G0 gA gS QC wf_app Bsy bD Xh UB Og Xi OS BZ BF Ba EX A7 Xz nL0 nL1 nL2 Ps Bq CG Be CH CK Ce Bf CI)
open K16 (mkK)
section
variable{Z:Mh}{kd:Str}{sz bg:Int}{ns:List Str}
theorem Uf:WP (Bq [.int c,.int 1]) Z λd Z'=>Z'=Z/\∃x:Int,0<=x/\d=.lst [.int x]:=by
 have h:=BF;unfold Bq;refine PP rfl ?_;unfold CG;wtm_at "d";refine Ak (Q:=λr b=>∃(i:Int) (a:List Int),a.length<=1/\(∀x∈a,0<=x)/\r=(.next,[some (.int c),some (.int 1),some (.ref (Z.length+0)),some (.int i),none])/\b=Z++[.lst (a.map D.int)]) (XH (n:=1048575) ?_) ?_
 ·wtm_at "d"
  ·refine XH (n:=1048574) ?_;wtm_at "d"
   all_goals exact⟨_,[_],by simp,by simp;assumption,rfl,rfl⟩
  all_goals exact⟨_,[],by simp,by simp,rfl,rfl⟩
 rintro r b ⟨i,a,e,f,rfl,rfl⟩;wtm_at "d";rename_i v g _;rcases a with _|⟨y,_|⟨z,a⟩⟩
 ·exact⟨_,_,_,rfl,rfl,show Cl _ (.lst [.int v]) by simp[Cl,ClL],rfl,v,g,rfl⟩
 ·exact⟨_,_,_,rfl,rfl,show Cl _ (.lst [.int y]) by simp[Cl,ClL],rfl,y,f y (by simp),rfl⟩
 ·simp at e
theorem aA(b:0<=v)(c:v<3):∃L:List Str,L.length=4/\(∀n∈L,PyData.strOk n=true)/\L.Nodup/\∀M:Mh,AJ (.lst [.lst (nL0.map D.str),.lst (nL1.map D.str),.lst (nL2.map D.str)]) (.int v) M=some (.lst (L.map D.str),M):=by
 rcases(show v=0∨v=1∨v=2 by lia) with h|h|h<;>subst h
 ·exact⟨nL0,rfl,by decide +kernel,by trivial,λM=>rfl⟩
 ·exact⟨nL1,rfl,by decide +kernel,by decide +kernel,λM=>rfl⟩
 ·exact⟨nL2,rfl,by decide +kernel,by decide +kernel,λM=>rfl⟩
theorem bm:Cl k (mkK kd sz bg ns):=by
 have:=A7 (k:=k) (f:=hdD) λn=>by trivial ns
 simp[mkK,Cl,ClL,this]
theorem Ug:WP (Be [.int x,.str kd]) Z λd Z'=>Z'=Z/\∃(sz bg:Int) (ns:List Str),2<=sz/\sz<=10/\0<=bg/\bg<sz/\Ns ns/\d=mkK kd sz bg ns:=by
 have l:=BF;unfold Be;refine PP rfl ?_;unfold CH;wtm_at "d";rename_i m _ _ _ g h;obtain⟨L,i,c,e,f⟩:=aA g h;refine BQ (f _) ?_;wtm_at "d";rename_i v _ _;obtain⟨j,k⟩:∃j:Nat,j=1+(1+v):=⟨(1+(1+v)).toNat,by lia⟩;rw[←k,EX (α:=.non) (by rw[AAF];lia),←List.map_take];refine⟨by simp;lia,FW D.str (λ_=>true) hdD (λa _=>?_) ?_⟩
 ·wtm_at "d";exact rfl
 rw[Ba];wtm_at "d";rename_i b _ _;exact⟨_,_,_,rfl,rfl,bm,rfl,_,b,_,by lia,by lia,by assumption,by assumption,Ps c e i (by lia) (by lia),rfl⟩
theorem Wx{w:Nat}{a:List Int}(c:l[w]?=some (.lst (a.map D.int)))(m:a.length<=1000)(n:0<sz)(e:0<=bg)(f:bg<sz)(b:∀x∈a,0<=x/\x<sz):WP (CK [mkK kd sz bg ns,.ref (Z.length+w),.int y]) (Z++l) λd Z'=>Z'=Z++l/\∃v:Int,0<=v/\v<sz/\d=.int v:=by
 have o:=BF;unfold CK;refine C0 rfl ?_;unfold Ce;have g:=Wd (ds:=a.map D.int) (x:=some (-3)) (y:=none);rw[AAF] at g;wtm_at "d";refine XI c ?_;wtm_at "d";rename_i u _ _ _ _ _;refine SA (by assumption) (by assumption) λd h=>?_;wtm_at "d";obtain⟨v,rfl,i,j⟩:∃v:Int,d=.int v/\0<=v/\v<sz:=by
  rcases AAJ.mp h with z|z
  ·obtain⟨x,k,rfl⟩:=AAL.mp (Wa z);exact⟨x,rfl,b x k⟩
  ·simp at z;rcases z with rfl|rfl
   ·exact⟨_,rfl,by assumption,by assumption⟩
   ·exact⟨_,rfl,e,f⟩
 exact⟨_,_,[],rfl,by simp,by simp[Cl],rfl,v,i,j,rfl⟩
theorem Zt(B_:Bsy ns sz es bs m)(f:decide (e.hand∈bs)=!e.beg)(g:e.Ok ns sz)(i:∀x∈c,0<=x/\x<sz):Bsy ns sz (es++[e]) (if e.beg=true then bs++[e.hand] else bs.erase e.hand) c:=by
 have j:∀h,decide (h∈if e.beg=true then bs++[e.hand] else bs.erase e.hand)=gA G0 (es++[e]) h:=λh=>by
  rw[QC];unfold gS;by_cases z:h=e.hand
  ·subst z;cases q:e.beg<;>simp[B_.nd.not_mem_erase]
  ·rw[if_neg z,←B_.mem];cases q:e.beg<;>simp[z]
 refine⟨wf_app.mpr ⟨B_.wf,by rw[←B_.mem,f],trivial⟩,λx k=>(AAJ.mp k).elim (B_.ok x) λz=>by simp_all,λh d=>?_,?_,j,i⟩
 ·split at d
  ·exact(AAJ.mp d).elim (B_.lt h) λz=>by rw[AAK] at z;rw[z];exact g.h
  ·exact B_.lt h (List.mem_of_mem_erase d)
 ·split
  ·rename_i q;rw[q] at f;exact List.nodup_append.mpr ⟨B_.nd,by simp,λa n b l z=>by simp_all⟩
  ·exact B_.nd.erase _
theorem Xy(N:Ns ns)(b:∀h∈bs,h<ns.length)(c:h<ns.length)(d:h∈bs)(e:B[i]?=some (some (.ref (Z.length+k))))(a:l[k]?=some (.lst (bD ns bs)))(q:WP (f B) (Z++l) λes w5=>es=[.str (nm ns h)]/\w5=Z++l/\QD .non (Z++l.set k (.lst (bD ns (bs.erase h))))):WP (BG Sy (AA i) f B) (Z++l) QD:=by
 refine A0 (BQ (BT e) (A0 (BQ (by unfold EU;rw[AM (Nx a)];rfl) (A0 (Ak q ?_)))));rintro es w5 ⟨rfl,rfl,q⟩;exact BQ (Xh N b c d (by rw[Hh];exact a)) (by rw[ZZ];exact q)
noncomputable abbrev slE(mk a b:D)(L:Nat)(d e f g c:Option D):Sl:=[some mk,some b,some (.ref (L+0)),some (.ref (L+1)),some (.ref (L+2)),some a,d,e,f,g,c]
theorem Uh(N:Ns ns){cs:List Int}(h0:2<=sz)(h1:sz<=10)(J:0<=bg)(K:bg<sz)(hc:cs.length<=30):WP (Bf [mkK kd sz bg ns,.lst (cs.map D.int)]) Z λd Z'=>Z'=Z/\∃es:List Ev,wfG G0 es/\(∀e∈es,e.Ok ns sz)/\es.length=cs.length/\d=.lst (es.map (evD ns)):=by
 have hz:=BF;have S:=N.hi;have T:=N.lo;unfold Bf;refine SF rfl ?_;unfold CI;wtm_at "d";refine⟨by simp;lia,FW hdD (λ_=>true) D.str (λa _=>by wtm_at "d";rfl) ?_⟩;rw[Ba];wtm_at "d";refine Ix (I:=λu B Z'=>∃(r:List Int) (es:List Ev) (f:List Nat) (g:List Int) (E F G A m:Option D),u=r.map D.int/\r.length+es.length=cs.length/\g.length<=es.length+1/\f.length<=es.length/\Bsy ns sz es f g/\B=slE (mkK kd sz bg ns) (.lst (ns.map D.str)) (.lst (cs.map D.int)) Z.length E F G A m/\Z'=Z++[.lst (bD ns f),.lst (es.map (evD ns)),.lst (g.map D.int)]) ?_ ?_ ⟨cs,[],[],[bg],none,none,none,none,none,rfl,by simp,by simp,by simp,⟨trivial,by simp,by simp,by simp,λh=>by simp[gA],λx y=>by rw[AAK] at y;subst y;exact⟨J,K⟩⟩,rfl,rfl⟩
 ·rintro x xs B Z' ⟨r,es,f,g,E,F,G,A,m,p,H,U,W,i,rfl,rfl⟩;cases r with
  |nil=>cases p
  |cons c r=>
   cases p;rw[AAH] at H;wtm_at "d";refine Ak Uf ?_;rintro _ _ ⟨rfl,x,y,rfl⟩;wtm_at "d";refine SA (by assumption) (by assumption) λd X=>?_;obtain⟨h,j,rfl⟩:∃h,h<ns.length/\d=.str (nm ns h):=by
    obtain⟨a,Y,rfl⟩:=AAL.mp X;obtain⟨k,L,rfl⟩:=List.getElem_of_mem Y;exact⟨k,L,by simp[nm,L]⟩
   have g0:(ns.map D.str)[0]?=some (D.str (nm ns 0)):=by rw[AAV,AAr (by lia)];simp[nm,show 0<ns.length by lia]
   have O:∀M,AJ (.lst (ns.map D.str)) (.int 0) M=some (.str (nm ns 0),M):=λM=>GQ (BZ (r:=0) g0);refine MY (R7 (Ak (Q:=λq P=>∃h,h<ns.length/\q=(.next,slE (mkK kd sz bg ns) (.lst (ns.map D.str)) (.lst (cs.map D.int)) Z.length (some (.int c)) (some (.int x)) (some (.str (nm ns h))) A m)/\P=Z++[.lst (bD ns f),.lst (es.map (evD ns)),.lst (g.map D.int)]) ?_ ?_))
   ·repeat' (first|(with_reducible refine BQ (O _) ?_)|wtm_at "l")
    ·exact⟨0,by lia,rfl,rfl⟩
    ·exact⟨h,j,rfl,rfl⟩
   rintro q P ⟨h,j,rfl,rfl⟩;obtain⟨b,t⟩:∃b,(h==0)=b:=⟨_,rfl⟩;obtain⟨C,p⟩:∃C,(!b)=C:=⟨_,rfl⟩;have t1:∀M,Af (.str (nm ns h)) (.str (nm ns 0)) M=some (.bl b,M):=λM=>by rw[←t];exact Og N j (by lia)
   have t2:∀M,DA (.str (nm ns h)) (.str (nm ns 0)) M=some (.bl C,M):=λM=>by rw[Xi (N.nok j) (N.nok (by lia)),OS N j (by lia),t,p]
   have n:∀(e:Ev) (s:List Int),e.hand=h->decide (h∈f)=!e.beg->e.Ok ns sz->(∀x∈s,0<=x/\x<sz)->Bsy ns sz (es++[e]) (if e.beg=true then f++[h] else f.erase h) s:=λe s z o ok hw=>by subst z;exact Zt i o ok hw
   have R:∀l:Mh,l[0]?=some (.lst (bD ns f))->FA false (.str (nm ns h)) (.ref (Z.length+0)) (Z++l)=some (.bl (decide (h∈f)),Z++l):=λl hl=>UB N i.lt j (by rw[Hh];exact hl);cases o:decide (h∈f)<;>cases b<;>cases C<;>cases p<;>rw[o] at R<;>repeat' (first|(with_reducible refine BQ (O _) ?_)|(with_reducible refine BQ (t1 _) ?_)|(with_reducible refine BQ (t2 _) ?_)|((with_reducible refine BQ (R _ ?_) ?_);rfl)|((with_reducible refine Ak (Wx (w:=2) ?_ ?_ ?_ J K i.ws) ?_);rfl;lia;lia;rintro _ _ ⟨rfl,v,v0,v1,rfl⟩)|wtm_at "l")
   ·obtain⟨k,rfl⟩:∃k,h=k+1:=⟨h-1,by simp at t;lia⟩;exact⟨r,es++[.rb k],f++[k+1],g,_,_,_,_,_,rfl,by simp;lia,by simp;lia,by simp;lia,n (.rb k) g rfl o ⟨j,nofun⟩ i.ws,rfl,by simp[evD,bS,Ev.beg,Ev.hand,Ev.val]⟩
   ·obtain rfl:h=0:=by simpa using t
    exact⟨r,es++[.wb _],f++[0],g++[_],_,_,_,_,_,rfl,by simp;lia,by simp;lia,by simp;lia,n (.wb _) (g++[_]) rfl o ⟨j,λv e=>by cases e;exact⟨by assumption,by assumption⟩⟩ (λx y=>(AAJ.mp y).elim (i.ws x) λz=>by rw[AAK] at z;subst z;exact⟨by assumption,by assumption⟩),rfl,by simp[evD,bS,Ev.beg,Ev.hand,Ev.val]⟩
   ·refine Xy N i.lt j (of_decide_eq_true o) rfl rfl ?_;wtm_at "d";obtain⟨k,rfl⟩:∃k,h=k+1:=⟨h-1,by simp at t;lia⟩;exact⟨r,es++[.re k v],f.erase (k+1),g,_,_,_,_,_,rfl,by simp;lia,by simp;lia,by have:=List.length_erase_le (a:=k+1) (l:=f);simp;lia,n (.re k v) g rfl o ⟨j,λv e=>by cases e;exact⟨v0,v1⟩⟩ i.ws,rfl,by simp[evD,bS,Ev.beg,Ev.hand,Ev.val]⟩
   ·refine Xy N i.lt j (of_decide_eq_true o) rfl rfl ?_;wtm_at "d";obtain rfl:h=0:=by simpa using t
    exact⟨r,es++[.we],f.erase 0,g,_,_,_,_,_,rfl,by simp;lia,by simp;lia,by have:=List.length_erase_le (a:=0) (l:=f);simp;lia,n .we g rfl o ⟨j,nofun⟩ i.ws,rfl,by simp[evD,bS,Ev.beg,Ev.hand,Ev.val]⟩
 ·rintro B Z' ⟨r,es,f,g,E,F,G,A,m,p,H,U,W,i,rfl,rfl⟩;cases r with
  |cons c r=>cases p
  |nil=>
   wtm_at "d";exact⟨1,_,_,_,rfl,rfl,rfl,A7 (λe=>Xz e) _,rfl,es,i.wf,i.ok,by simpa using H,rfl⟩
theorem Mg:∃(sz bg:Int) (ns:List Str),2<=sz/\sz<=10/\0<=bg/\bg<sz/\Ns ns/\Be [.int x,.str kd] Z=some (mkK kd sz bg ns,Z):=by
 obtain⟨d,h,e,rfl,sz,bg,ns,a,b,c,f,g,rfl⟩:=Ug;exact⟨sz,bg,ns,a,b,c,f,g,e⟩
theorem Ki(N:Ns ns){cs:List Int}(a:2<=sz)(b:sz<=10)(c:0<=bg)(f:bg<sz)(g:cs.length<=30):∃es:List Ev,wfG G0 es/\(∀e∈es,e.Ok ns sz)/\es.length=cs.length/\Bf [mkK kd sz bg ns,.lst (cs.map D.int)] Z=some (.lst (es.map (evD ns)),Z):=by
 obtain⟨d,k,e,rfl,es,h,i,j,rfl⟩:=Uh N a b c f g;exact⟨es,h,i,j,e⟩
end
end K93
namespace K18
open PySem L2 Mi Nk Wb Ht
open K13 (Ev Ev.beg Ev.hand Ev.val wfG Ns evD BH hdD po pc pd p2 pq pa piT piF pr AU BD Bl Ba BB Ax Ae BF BP EX SN II aV Bk Be Bf BZ)
open K16 (mkK)
open K15 (Gd)
open K93 (Tk Od V bl T0 ok0 run Fg ksD ddD ET Mg Ki)
section
variable{Z:Mh}{sz bg:Int}{ns:List Str}{kd:Str}{es:List Ev}{T:Tk}
theorem TC:∀xs:List (List Nat),PzL (xs.map ksD)/\Kb (xs.map ksD)<=62
 |[]=>⟨by trivial,by trivial⟩
 |x::xs=>by
  have ih:=TC xs;have h:=K93.pz_nats x;rw[AAW];refine⟨⟨h.1,ih.1⟩,?_⟩;have e:dpt (ksD x)=Kb (x.map λk:Nat=>D.int k)+1:=rfl;unfold Kb;lia
theorem Wf{xs:List (List Nat)}:Af (.lst (xs.map ksD)) (.lst []) Z=some (.bl xs.isEmpty,Z):=by
 obtain⟨c,d⟩:=TC xs;obtain⟨e,f,q⟩:=Ow (a:=.lst _) (b:=.lst []) (by trivial) (by trivial) (by unfold dpt;lia) (by trivial);show Fj false _ _ Z=_;rw[q];have:e=xs.isEmpty:=by
  rw[Bool.eq_iff_iff]
  simp_all
 rw[this];rfl
noncomputable abbrev s8(o0 o1:Option D)(mk ev a:D)(o5 b c:Option D):Sl:=[o0,o1,some mk,some ev,some a,o5,b,c]
noncomputable abbrev cg:Sl->M (Fl×Sl):=(AS (sIf (Dx (AN (AE Fu (AD (AA 2) (AD (DT (AA 3) Bv (CN (AA 5))) AK))))) (As (mC (.bl false))) A6)
  (sIf (AN (mOp HZ (AE Bp (AD (AE EJ (AD (AA 2) (AD (DT (AA 3) Bv (CN (AA 5))) AK))) AK)) (mC (.int 5)))) (AY (DT (AA 3) Bv (CN (AA 5))) (AO 4)) A6))
theorem Of(g:Gd ns sz bg es):∀(k s j:Nat) (o5:Option D),s+k=es.length+1->(bl (run T0 (es.take j))).length<=5->∃(a:Nat) (d:Option D),(bl (run T0 (es.take a))).length<=5 /\
  B5 (AO 5) cg ((List.range' s k).map λi:Nat=>D.int i) (s8 o0 o1 (mkK kd sz bg ns) (.lst (es.map (evD ns))) (.lst ((es.take j).map (evD ns))) o5 none none) []=some ((.next,s8 o0 o1 (mkK kd sz bg ns) (.lst (es.map (evD ns))) (.lst ((es.take a).map (evD ns))) d none none),[])
 |0,s,j,o5,_,e=>⟨j,o5,e,rfl⟩
 |k+1,s,j,o5,h,e=>by
  have b:=g.pre s;have u:=b.l1;have r:=Vq (kd:=kd) b;have t:=La (Z:=[]) (mk:=mkK kd sz bg ns) g.N b.wf b.ok (by lia);have f:∀o ,DT (AA 3) Bv (CN (AA 5)) (s8 o0 o1 (mkK kd sz bg ns) (.lst (es.map _)) o (some (.int s)) none none) []=some (.lst ((es.take s).map (evD ns)),[]):=λo=>by
   show some _=_;rw[EX (α:=.non) (by rw[AAF];lia),List.map_take]
  have p:AN (mOp HZ (AE Bp (AD (AE EJ (AD (AA 2) (AD _ AK))) AK)) (mC (.int 5))) (s8 o0 o1 _ _ (.lst ((es.take j).map (evD ns))) _ none none) []=some _:=
   AX (po (pd (pc (pd (pc rfl (pc (f _) rfl)) t) rfl) (by show some _=_;rw[AAF])) rfl rfl)
  have q:sIf (Dx (AN (AE Fu (AD (AA 2) (AD (_) AK))))) (As (mC (.bl false))) A6 (s8 o0 o1 _ _ (.lst ((es.take j).map (evD ns))) _ none none) []=some _:=
   piF (EK (AX (pd (pc rfl (pc (f _) rfl)) r))) rfl
  by_cases c:(bl (run T0 (es.take s))).length<=5
  ·obtain⟨a,l,m,n⟩:=Of g k (s+1) s _ (by lia) c;exact⟨a,l,m,AU rfl (pq q (piT (by rw[p,AAO (by lia)]) (pa (f _) rfl))) n⟩
  ·obtain⟨a,l,m,n⟩:=Of g (o0:=o0) k (s+1) j _ (by lia) e;exact⟨a,l,m,AU rfl (pq q (piF (by rw[p,AAN (by lia)]) rfl)) n⟩
noncomputable abbrev bY:Sl->M (Fl×Sl):=(AS (AY (AE EJ (AD (AA 2) (AD (AA 4) AK))) (AO 6))
  (AS (AY (Bm 1 [6,2] (CM (AE (Em 8) (AD (mUn (M4 D.lst) (AE Bp (AD (AA 6) AK))) AK))) (AO 0) (AN (AE Fv (AD (AA 2) (AD (AA 1) (AD (AA 0) AK))))) (AA 0) BU) (AO 7))
  (AS (sIf (AN (mOp DA (Bm 1 [4,2] (CM (AA 7)) (AO 0) (Dx (AN (AE Dg (AD (AA 2) (AD (AA 1) (AD (AA 0) AK)))))) (AA 0) BU) (AE BU AK))) (As (mC (.bl false))) A6)
  (As (mOp Af (mOp (CA false) (AE Ck (AD (AA 2) (AD (AA 4) AK))) (mC .non)) (mOp Af (AA 7) (AE BU AK)))))))
theorem PV(g:Gd ns sz bg es)(K:(bl (run T0 es)).length<=5){o0 o1 o5:Option D}:∃(x3:Sl) (L:Mh),bY (s8 o0 o1 (mkK kd sz bg ns) ev (.lst (es.map (evD ns))) o5 none none) []=some ((.rt (.bl true),x3),L):=by
 have hz:=BF;have l1:=g.l1;have s:=Fg es ok0 (λ_=>rfl) g.wf g.ok;have N:=La (Z:=[]) (mk:=mkK kd sz bg ns) g.N g.wf g.ok (by lia)
 let T:=run T0 es
 let n:=(bl T).length
 have B:n<=5:=K
 let os:=ord 8 (List.range n)
 have C:∀{c:_},c∈os↔c.Nodup/\∀k∈c,k∈List.range n:=Ig (by rw[List.length_range];lia);have O:os.length<=326:=AAq (Ib 8 _) (AAq (Fw (by rw[List.length_range];exact B)) (by decide));have d:∀{c:_},c∈os->(∀k∈c,k<(bl T).length)/\c.Nodup/\c.length<=5:=λ{c} h=>by
  obtain⟨a,b⟩:=C.mp h;have:=CB a b;rw[List.length_range] at this;exact⟨λk j=>List.mem_range.mp (b k j),a,by lia⟩
 let p:List Nat->Bool:=λc=>vb T bg (c.map (gk T))
 have P:=Me (Z:=[]) 8 (List.range n) (by rw[List.length_range];lia) (by rw[List.length_range];exact B)
 let Q  := s8 o0 o1 (mkK kd sz bg ns) ev (.lst (es.map (evD ns))) o5 (some (dlL T)) none
 let t  := s8 o0 o1 (mkK kd sz bg ns) ev (.lst (es.map (evD ns))) o5 (some (dlL T)) (some (.lst ((os.filter p).map ksD)))
 have fl:(os.filter p).length<=326:=AAq (List.length_filter_le ..) O;have S:(mUn (M4 D.lst) (AE Bp (AD (AA 6) AK))) Q []=some (ksD (List.range n),[]):=by
  unfold mUn;rw[AM (pd rfl (by show some _=_;rw[AAF]))];show (if (0:Int)<=n/\(n:Int)<=1000 then some _ else none)=_;rw[if_pos ⟨by lia,by lia⟩];unfold Xe;rw[List.map_map];rfl
 have E:=Bl (Z:=[]) (me:=AA 0) (mc:=AN (AE Fv (AD (AA 2) (AD (AA 1) (AD (AA 0) AK))))) (u3:=[none,some (dlL T),some (mkK kd sz bg ns)]) (f:=ksD) (F:=ksD) (p:=p) (ys:=[]) (λa l=>AX (pd rfl (Mj (d l).1 (by have:=(d l).2.2;lia) (by show _;lia) (λb=>(ET s).mp)))) (λa _ _=>rfl);have u:=Bl (me:=AA 0) (mc:=Dx (AN (AE Dg (AD (AA 2) (AD (AA 1) (AD (AA 0) AK)))))) (u3:=[none,some _,some _]) (f:=ksD) (F:=ksD) (p:=λ_=>false) (xs:=os.filter p) (ys:=[]) (λa l=>by
  obtain⟨e,v⟩:=List.mem_filter.mp l;have G:=Lb (Z:=[]) (kd:=kd) (bg:=bg) g.N g.wf g.ok (by lia) (d e).2.1 (d e).1;rw[show vb _ bg _=true from v] at G;exact EK (b:=true) (AX (pd rfl G))) (λa _ z=>by cases z)
 rw[List.nil_append] at E u;have U:(os.filter p).filter (λ_=>false)=[]:=List.filter_eq_nil_iff.mpr λ_ _ z=>by cases z
 rw[U] at u;have H:∀{M:Mh},mOp Af (AA 7) (AE BU AK) t M=some _:=λ{M}=>po rfl (pd rfl (Ae (by simp))) Wf;have i:∀{R:_},_->bY (s8 o0 o1 _ ev (_) o5 none none) []=some R:=λ{R} h=>by
  refine AT (pa (pd rfl N) rfl) (AT (pa (BD (ds:=os.map ksD) (BB (pd (pc S rfl) P)) (by rw[AAF];lia) E (Ae (by rw[AAF];lia))) rfl) (AT (piF (AX (po (BD (es:=[]) (BB rfl) (by rw[AAF];lia) u (Ae (by simp))) (pd rfl (Ae (by simp))) (L4 (js:=[])))) rfl) h))
 rcases FX (Z:=[]) g (λg=>by trivial) with ⟨c,o,m,j,I,w⟩|⟨m,w⟩
 ·refine⟨t,[.lst (c.map λk:Nat=>D.int k)],i (C6 (LH (x:=.bl false) (LH (Bi rfl w) rfl rfl) H ?_))⟩;have W:p c=true:=SI s m j I;have A  := Tt (by rw[←I];exact m.nd);have J  := List.mem_filter.mpr ⟨C.mpr ⟨A,λk h=>List.mem_range.mpr (j k h)⟩,W⟩;rw[show (os.filter p).isEmpty=false from by
   cases q:os.filter p with
   |nil=>rw[q] at J;cases J
   |cons _ _=>rfl]
  rfl
 ·refine⟨t,[],i (C6 (LH (x:=.bl true) (LH (Bi rfl w) rfl rfl) H ?_))⟩;rw[show (os.filter p).isEmpty=true from by
   cases q:os.filter p with
   |nil=>rfl
   |cons a r=>
    obtain⟨e,v⟩:=List.mem_filter.mp (by rw[q];exact AAP);have A:=Wb.nodup_map_on (λx X y Y z=>UQ ((d e).1 x X) ((d e).1 y Y) z) (d e).2.1;exact absurd ((SJ s A λb hb=>by obtain⟨k,h,rfl⟩:=AAL.mp hb;exact Jo ((d e).1 k h)).mp v) (m _)]
  rfl
theorem math:∀cs:List Int,cs.length<=63->∃Z',UU [.scr cs] []=some (.bl true,Z'):=by
 intro cs s;have S:=BF;obtain⟨c,t⟩:=SN s;have u:∃kd:Str,mOp AJ (AE BU (AD (mC (.str "safe")) (AD (mC (.str "steady")) (AD (mC (.str "whole")) AK)))) (mOp Cv (AA 1) (mC (.int 3))) [some (.scr cs),some (.int c),none,none,none,none,none,none] []=some (.str kd,[]):=by
  have f:=Int.emod_nonneg c (show 3≠0 by decide);have h:∀k:Nat,k<3->c % 3=k->∃kd:Str,AJ (.lst [.str "safe",.str "steady",.str "whole"]) (.int (c % 3)) []=some (.str kd,[]):=λk U e=>by
   rw[e];rcases k with _|_|_|k
   ·exact⟨_,GQ (BZ rfl)⟩
   ·exact⟨_,GQ (BZ rfl)⟩
   ·exact⟨_,GQ (BZ rfl)⟩
   ·lia
  obtain⟨kd,e⟩:=h (c % 3).toNat (by lia) (by lia);exact⟨kd,po (pd rfl (Ae (by trivial))) (po rfl rfl (T7 (by decide))) e⟩
 obtain⟨kd,v⟩:=u;obtain⟨sz,bg,ns,f,p,q,r,N,w⟩:=Mg;have A:=N.hi;have l:∀n ,∃d:List Int,FT (cs.map D.int) (some 1) (some ((n+1:Nat):Int))=d.map _/\d.length<=n:=λn=>by
  unfold FT;refine⟨_,by rw[List.map_take,List.map_drop],?_⟩;rw[show 1=((1:Nat):Int) from rfl,HT.IY,HT.IY,List.length_take,AAF];lia
 have a:∃n:Nat,n<=14/\(ns.length=4->n<=9)/\15-5 * (if decide ((3:Int)<ns.length) then 1 else 0)=((n+1:Nat):Int):=by
  by_cases z:ns.length=4
  ·exact⟨9,by lia,λ_=>AAE _,by rw[z];rfl⟩
  ·exact⟨14,by lia,λy=>absurd y z,by rw[AAN (by lia)];rfl⟩
 obtain⟨n,W,B,C⟩:=a;obtain⟨d,m,E⟩:=l n;obtain⟨es,F,G,X,H⟩:=Ki N f p q r (cs:=d) (by lia);have g:Gd ns sz bg es:=⟨N,f,p,q,r,F,G,by lia,λz=>by have:=B z;lia⟩;obtain⟨j,Y,I,J⟩:=Of g (es.length+1) 0 0 none (by lia) (AAi 5);obtain⟨K,L,o⟩:=PV (g.pre j) I;refine⟨[],Ac (g:=L) (x3:=K) (AT (pa (pd rfl t) rfl) (AT (x5:=[_,_,_,none,none,none,none,none]) (pa (pd (pc (po rfl rfl (Oi (by decide) (by decide))) (pc v rfl)) w) rfl) ?_)) rfl (by trivial)⟩;have O:AE Bp (AD (mOp AJ (AA 2) (mC (.int 4))) AK) [some (.scr cs),some (.int c),some (mkK kd sz bg ns),none,none,none,none,none] []=some _:=pd (pc (po rfl rfl rfl) rfl) (by show some _=_;rw[AAF]);have P:AE MB (AD (mOp OI _ (mC (.int 3))) AK) _ []=some _:=pd (pc (po O rfl rfl) rfl) (by trivial);refine AT (pa (pd (pc rfl (pc (p2 (b:=some ((n+1:Nat):Int)) rfl rfl ?_ ?_) rfl)) H) rfl) ?_
 ·rw[←C];unfold CN;rw[AM (po rfl (po rfl P rfl) rfl)];rfl
 ·show some _=_;rw[m]
 refine AT (pa (pd rfl (Ae (by simp))) rfl) ?_;have Q:AE Bp (AD (AA 3) AK) (s8 (some (.scr cs)) (some (.int c)) (mkK kd sz bg ns) (.lst (es.map (evD ns))) (.lst []) none none none) []=some _:=pd rfl (by show some _=_;rw[AAF]);have R:Kv (AD (mOp Av (AE Bp (AD (AA 3) AK)) (mC (.int 1))) AK) (s8 (some (.scr cs)) (some (.int c)) (mkK kd sz bg ns) (.lst (es.map (evD ns))) (.lst []) none none none) []=some ((List.range' 0 (es.length+1)).map λi:Nat=>D.int i,[]):=by
  unfold Kv;rw[AM (pc (x:=.int ((_:Nat):Int)) (po Q rfl (by trivial)) rfl)];unfold Pi;dsimp only;rw[if_pos (by lia),aV,List.range_eq_range']
 exact AT (Dl R J) o
end
end K18
open PySem PySem.W PyProof.Rows
local macro_rules | `(tactic| wtm_at "b")=>`(tactic| (refine' Mi.bb ?qa ?ql ?qc ?qk;(case qa=>k_is);(case ql=>k_is);(case qc=>k_is);(case qk=>k_is)))
set_option maxRecDepth 100000 in
set_option maxHeartbeats 0 in
theorem PySem.Challenge.cw_strongboxes_k18_an_order_just_where_a_wh_holds : PySem.Challenge.rw_strongboxes_k18_an_order_just_where_a_wh.Holds := by
 w_on;o_law;k_head;(case hw=>w_witness2)
 k_fill
 refine Mi.Z8 (k:=10) (l:=PySem.Challenge.rw_strongboxes_k18_an_order_just_where_a_wh) rfl rfl (by decide) (λw h c=>PySem.W.kIn_of c) ?F
 case F=>
  intro w d e h a G b;refine' K18.all_mk K18.math ⟨a,G,?e0,?e1,?e2,?e3,?e4,?e5,?e6,?e7,?e8,?e9,?e10,?e11,?e12,?e13,?e14,?e15,?e16,?e17,?e18,?e19,?e20,?e21,?e22,?e23,?e24,?e25,?e26,?e27,?e28,?e29,?e30,?e31,?e32,?e33,?e34,?e35,?e36,?e37,?e38,?e39,(PySem.W.mg_none_of a G ?z0),(PySem.W.mg_none_of a G ?z1),(PySem.W.mg_none_of a G ?z2),(PySem.W.mg_none_of a G ?z3),(PySem.W.mg_none_of a G ?z4),(PySem.W.mg_none_of a G ?z5),(PySem.W.mg_none_of a G ?z6),(PySem.W.mg_none_of a G ?z7),(PySem.W.mg_none_of a G ?z8),(PySem.W.mg_none_of a G ?z9),(PySem.W.mg_none_of a G ?z10),(PySem.W.mg_none_of a G ?z11),?gk0,?gk1,?gk2,?gk3⟩ b
  (case e0=>wtm_at "b")
  (case e1=>wtm_at "b")
  (case e2=>wtm_at "b")
  (case e3=>wtm_at "b")
  (case e4=>wtm_at "b")
  (case e5=>wtm_at "b")
  (case e6=>wtm_at "b")
  (case e7=>wtm_at "b")
  (case e8=>wtm_at "b")
  (case e9=>wtm_at "b")
  (case e10=>wtm_at "b")
  (case e11=>wtm_at "b")
  (case e12=>wtm_at "b")
  (case e13=>wtm_at "b")
  (case e14=>wtm_at "b")
  (case e15=>wtm_at "b")
  (case e16=>wtm_at "b")
  (case e17=>wtm_at "b")
  (case e18=>wtm_at "b")
  (case e19=>wtm_at "b")
  (case e20=>wtm_at "b")
  (case e21=>wtm_at "b")
  (case e22=>wtm_at "b")
  (case e23=>wtm_at "b")
  (case e24=>wtm_at "b")
  (case e25=>wtm_at "b")
  (case e26=>wtm_at "b")
  (case e27=>wtm_at "b")
  (case e28=>wtm_at "b")
  (case e29=>wtm_at "b")
  (case e30=>wtm_at "b")
  (case e31=>wtm_at "b")
  (case e32=>wtm_at "b")
  (case e33=>wtm_at "b")
  (case e34=>wtm_at "b")
  (case e35=>wtm_at "b")
  (case e36=>wtm_at "b")
  (case e37=>wtm_at "b")
  (case e38=>wtm_at "b")
  (case e39=>wtm_at "b")
  (case z0=>k_is)
  (case z1=>k_is)
  (case z2=>k_is)
  (case z3=>k_is)
  (case z4=>k_is)
  (case z5=>k_is)
  (case z6=>k_is)
  (case z7=>k_is)
  (case z8=>k_is)
  (case z9=>k_is)
  (case z10=>k_is)
  (case z11=>k_is)
  (case gk0=>refine' Mi.Im a G ?qa;(case qa=>k_is))
  (case gk1=>refine' Mi.Im a G ?qa;(case qa=>k_is))
  (case gk2=>refine' Mi.Im a G ?qa;(case qa=>k_is))
  (case gk3=>refine' Mi.Im a G ?qa;(case qa=>k_is))

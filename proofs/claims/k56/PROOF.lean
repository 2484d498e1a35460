import PyProof.Rows.All
import Wide.All
import OpenK.AllK
import Wide.FinOn
import Lean
import PyProof.EqAt
import PyProof.EqKinds
import PyProof.TupleCall
import PySem.Challenge.RW_notefall_k56_the_way_of_a_value
set_option maxRecDepth 100000
set_option maxHeartbeats 0
set_option hygiene false
local macro_rules | `(tactic| exists 2,$a:term,$b:term,$t:term,$x:term,$y:term,$z:term)=>`(tactic| refine aq (rest:=(aj $a).drop $b) $t λ$x $y $z=>?_)
local macro_rules | `(tactic| exists 1,$a,*)=>do
 let b:=a.getElems
 `(tactic| intro pins s σ H $b*)
local macro_rules | `('a')=>`((PySem.W.Fast.tw4187177175401517315 hQ B7 (PySem.W.Fast.tw5923862056798008813 PySem.Challenge.pw_notefall_k56_the_way_of_a_value.main.body) (IY hQ Gj) true ⟨zc w.params,Array.mk [],⟨0,0,0,0⟩,1632,os⟩))
local macro_rules | `('b')=>`((.ListComp elt [⟨tg,iter,ifs,0⟩,⟨mL,bZ,gj,0⟩] scope pos))
local macro_rules | `('c')=>`((model X.prog X.w))
local macro_rules | `('d')=>`((ec ak hr (aa bg (aa ei ah))))
local macro_rules | `('e')=>`((X.comp N sc C s H fp))
local macro_rules | `('f')=>`((iV (tw (sH (fj (Ec (ef (jm (B3 B.isinstance bg (mG rfl B.tuple iB)))))) (jc (cM (cz (om qR) (jm (tN B.len bg)) (jm ei) (aH _)))))) (aE (aR uP)) cD))
local macro_rules | `('g')=>`((model prog w))
local macro_rules | `('h')=>`((.str "notefall.errors" 194))
local macro_rules | `('i')=>`((.ref s.heap.objs.size))
local macro_rules | `('j')=>`((λ_ _ _ _=>(gn 0 nk)))
local macro_rules | `('k')=>`((.ins az dx [(("rule":Str),rv),(("last":Str),.int last),(("fresh":Str),.int fresh),(("due":Str),.ref bF)]))
local macro_rules | `('l')=>`((upd H D (.lst [])))
local macro_rules | `('m')=>`((iT "type.__prepare__" (.type "type")))
local macro_rules | `('n')=>`((backToKw pos (keywordEach sG X.env)))
local macro_rules | `('o')=>`((pL rv last fresh bF kn fl))
local macro_rules | `('p')=>`((x==("__debug__":Str)))
local macro_rules | `('q')=>`((B0 (gJ hr.units cN (jm dM) (λ_ _=>rfl))))
local macro_rules | `('r')=>`((.Pass ⟨0,0,0,0⟩))
local macro_rules | `('s')=>`((jB a b c pl last ms fr g t))
local macro_rules | `('t')=>`((false,eval e X.env))
local macro_rules | `('u')=>`((k==NameKind.free&&env.scope.kind==.function&&env.kindOf n==some .cell))
local macro_rules | `('v')=>`((λ_ _ _ _=>cT))
local macro_rules | `('w')=>`((X.comp N sc H2.objs.size s H fp))
local macro_rules | `('x')=>`((backTo pos (starEach es X.env)))
set_option hygiene true
set_option bootstrap.genMatcherCode false
set_option linter.all false
variable{p:Prop}
section
open PySem PySem.Spec PyProof.Rows
def ab:=@List.length_map
def ae:=@PySem.Heap.get?_push_of_some
def ag:=@Nat.le_refl
def ar:=@List.length_append
def ax:=@List.getElem?_map
def a9:=@List.getElem?_eq_getElem
def ba:=@PySem.Heap.lt_size
def bb:=@List.mem_of_getElem?
def bc:=@List.mem_cons_of_mem
def bj:=@List.map_append
def bo:=@List.getElem?_eq_some_iff
def bp:=@Option.map_eq_some_iff
def cb:=@List.mem_cons_self
def cf:=@List.mem_append_right
def cm:=@Nat.lt_of_lt_of_le
def cn:=@PySem.Heap.get?_push_size
def cp:=@Bool.and_eq_true
def cq:=@List.mem_singleton
def cv:=@Nat.ne_of_lt
def cw:=@Nat.le_trans
def cx:=@List.mem_map_of_mem
def da:=@List.size_toArray
def de:=@List.mem_append
def dn:=@Array.getElem?_eq_getElem
def dq:=@List.map_map
def dr:=@List.getElem?_zip_eq_some
def dt:=@Bool.false_ne_true
def dv:=@List.take_length
def dy:=@Array.length_toList
def dC:=@PyProof.Rows.callWith_type1
def eC:=@List.length_take
def eI:=@Nat.lt_of_le_of_lt
def eP:=@List.all_eq_true
def eQ:=@PySem.Heap.size_push
def fb:=@List.length_reverse
def fg:=@List.mem_map
def fi:=@Option.toList_some
def fo:=@Array.getD_eq_getD_getElem?
def fv:=@Nat.le_of_lt
def fw:=@List.mem_iff_getElem
def fI:=@Nat.ne_of_gt
def gs:=@Nat.zero_le
def gL:=@List.append_assoc
def gN:=@List.getElem?_append_left
def hU:=@Nat.lt_irrefl
def ib:=@List.mem_filter
def ip:=@PySem.Heap.get?_update_self
def i3:=@List.length_filter_le
def i4:=@Nat.lt_succ_of_lt
def i5:=@List.getElem?_append_right
def js:=@List.mem_append_left
def ka:=@PySem.W.kia_one
def ke:=@PySem.Around.under_plainId
def kf:=@Nat.lt_succ_self
def km:=@List.length_drop
def ky:=@PySem.Heap.get?_update_other
def lj:=@Bool.and_true
def lx:=@List.length_singleton
def ma:=@Nat.le_add_right
def mn:=@Array.getElem?_eq_none
def mx:=@Int.le_refl
def my:=@Int.toNat_natCast
def mB:=@List.getElem?_of_mem
def mI:=@List.eq_nil_or_concat
def mN:=@List.length_zip
def nz:=@Nat.le_of_eq
def oa:=@PyProof.Rows.F.plain_set_update_loop
def oe:=@Bool.false_eq_true
def og:=@List.getElem?_toArray
def ot:=@PySem.W.mg_of
def oy:=@List.nodup_append
def oP:=@List.foldl_append
def pb:=@List.pairwise_iff_getElem
def pd:=@Nat.max_le
def pf:=@Nat.lt_trans
def ph:=@List.getElem_mem
def pj:=@List.map_fst_zip
def pw:=@PySem.mem_of_lookup
def px:=@List.length_eq_zero_iff
def pz:=@Bool.eq_iff_iff
def pE:=@List.take_of_length_le
def qr:=@List.length_replicate
def rf:=@List.all_map
def rg:=@List.pairwise_append
def rh:=@List.dropLast_concat
def rp:=@List.map_snd_zip
def sk:=@List.getD_eq_getElem?_getD
def sx:=@PySem.F.plain_extend_loop
def tf:=@List.reverse_append
def tj:=@List.filter_map
def tq:=@PyProof.Rows.F.entry_set_update_loop
def tJ:=@PySem.F.slot_list_getattribute
def t5:=@Int.zero_add
def ub:=@Nat.sub_self
def ui:=@List.filter_cons_of_pos
def uj:=@List.filter_cons_of_neg
def uk:=@Array.toList_push
def va:=@Nat.le_succ_of_le
def vi:=@PySem.Heap.size_update
def vk:=@List.mem_reverse
def vw:=@PySem.W.methodCall_KW
def vy:=@Array.getElem?_toList
def vT:=@List.take_append_drop
def wb:=@List.getElem?_reverse
def wq:=@PyProof.Rows.callWith_builtin1
def wx:=@PySem.F.slot_zip_next
def xi:=@List.replicate_succ'
def xn:=@List.mem_of_mem_drop
def xt:=@List.reverse_reverse
def xv:=@PySem.W.plainGet_of
def yn:=@PySem.Heap.SameBut.update
def y7:=@PySem.W.callWith_K
def zt:=@Int.emod_lt_of_pos
def Ap:=@PySem.Paired.length
def Bi:=@List.length_eraseIdx_of_lt
def Bn:=@List.map_drop
def Bz:=@PySem.int_text_length_le10
def BM:=@List.take_sublist
def B1:=@List.getElem_drop
def B2:=@Option.isSome_iff_exists
def Dx:=@Option.getD_none
def Ee:=@Nat.le_of_not_lt
def Fh:=@List.getElem_map
def Fm:=@PySem.Heap.IsList.push
def Fn:=@List.map_reverse
def Fs:=@Int.le_trans
def Fu:=@List.pairwise_singleton
def FC:=@List.of_mem_zip
def FK:=@Int.emod_nonneg
def FR:=@Nat.log2_lt
def FV:=@Bool.false_and
def FX:=@Array.size_map
def Ha:=@Bool.or_false
def Hb:=@Bool.true_and
def Hc:=@PySem.wpAny_bind
def Hd:=@PySem.wpAny_pure
def He:=@if_neg
def Hk:=@if_pos
def Hm:=@decide_eq_true
def Hn:=@beq_self_eq_true
def HI:=@PySem.wpAny_mono
def Iy:=@decide_eq_true_eq
def IH:=@PySem.wpAny_holding
def Jn:=@or_false
def Kb:=@PySem.wpAny_Call_Name_kw
def Ki:=@PySem.wpAny_setField_rec
def Kj:=@PySem.wpAny_truthy_bool
def Kk:=@decide_eq_false
def Kt:=@if_false
def Kx:=@PySem.codeAny_builtin
def L9:=@PySem.wpAny_call_entry
def Md:=@PySem.wpAny_standAt
def Mo:=@PySem.wpAny_callSpecial?_slot
def Nw:=@PySem.wpAny_pyIter_list
def NA:=@PySem.sizeLine_eq
def NM:=@not_or
def Oy:=@PySem.wpAny_setState_of
def OK:=@PySem.wpAny_askSetting
def Pl:=@PySem.wpAny_seqItems
def Pm:=@PySem.wpAny_passesOwn
def Pt:=@PySem.builtinLookup_eq_fast
def PH:=@PySem.wpAny_updateSeq
def PQ:=@PySem.plainId_quiet
def P2:=@PySem.wpAny_newObj_type
def Qb:=@PySem.codeAny_mono
def Qr:=@PySem.wpAny_comprehension_free
def QP:=@if_true
def QQ:=@PySem.wpAny_field
def QR:=@of_decide_eq_true
def Q1:=@PySem.wpAny_rule
def RF:=@PySem.wpAny_attempt
def RR:=@PySem.wpAny_specialOf
def Sr:=@PySem.typeLookup_type
def SF:=@PySem.strLen_append
def SU:=@beq_iff_eq
def Ta:=@PySem.wpAny_typeOf
def Tb:=@PySem.wpAny_isInstance
def Ts:=@PySem.wpAny_pyIter_zip
def Tx:=@PySem.codeAny_of_tree
def TB:=@exists_eq_left'
def TC:=@exists_and_left
def TK:=@exists_eq_left
def U2:=@and_true
def XB:=@and_assoc
def X1:=@decide_false
theorem X2(h:p:=by omega):p:=h
theorem X9(h:p:=by decide +kernel):p:=h
theorem Y1(h:p:=by decide):p:=h
theorem Y2(h:p:=by simp):p:=h
theorem aaa(h:p:=by simp;omega):p:=h
theorem aab(h:p:=by with_unfolding_all rfl):p:=h
end
open PySem.W (Frag keepIn findIn fnOf emptyDict topFrame kitOne instObj boot_heap SharedT codeIn topRun isFn behindTheImports exmOne plainGet topStub nsIn lookIn methodObj hasDictIn deadEnd takerIn makesIn doneF kHook boot_drawn boot_o_10 boot_toks plainOver boot_o_0 boot_o_1 boot_o_4 boot_o_5 boot_o_6 boot_o_7 boot_o_8 boot_o_9 openGood handedIn BT blockOf segRun restOf topGo namesBound staticsOk boot_o_2 boot_o_3 piecesOf gensDone laidKept wideGood clsGoodW InitBack absHeap segRunT hideAll looseW typeIn recOk LeftO xlAt)
set_option Elab.async false
set_option linter.all false
namespace PySem.W
variable{p:Program}
abbrev Vr (f:Scope->Str->Option Pos->Bool):TablesWhole.Alg Bool:=⟨f,λ_ _ _ _=>true,λ_=>true,true,false,λa b=>a&&b⟩
theorem Le {f:Scope->Str->Option Pos->Bool}{m:Module}(e:TablesWhole.wSs TablesWhole.gather m.scope ⟨m.scope,[],[],[],none⟩ m.scope m.body=[])(h:TablesWhole.wSs (Vr f) m.scope ⟨m.scope,[],[],[],none⟩ m.scope m.body=true):TablesWhole.wModule (Vr f) m=true:=by
 unfold TablesWhole.wModule;dsimp only;rw[e,h];rfl
theorem SD {b:List Stmt}{ok:Scope->Str->Bool}(e:TablesWhole.wSs TablesWhole.gather p.main.scope ⟨p.main.scope,[],[],[],none⟩ p.main.scope b=[])(h:TablesWhole.wSs (Vr λsc n _=>ok sc n) p.main.scope ⟨p.main.scope,[],[],[],none⟩ p.main.scope b=true):namesMeet p b ok=true:=Le (m:={ p.main with body:=b }) e h
theorem SE (e:TablesWhole.wSs TablesWhole.gather p.main.scope ⟨p.main.scope,[],[],[],none⟩ p.main.scope p.main.body=[])(h:TablesWhole.wSs (Vr λsc n _=>match sc.names.lookup n with
   | some .globalImplicit | some .globalExplicit=>p.boundNames.contains n||n==("__name__":Str)||n==("__debug__":Str)||(builtinNamed n&&!worldNames.contains n&&!n.opensWith "__")
   | _=>true) p.main.scope ⟨p.main.scope,[],[],[],none⟩ p.main.scope p.main.body=true):namesResolve p=true:=Le e h
theorem SG (e:(["vars","dir","locals"]:List Str).filter (readsOut p p.main.body)=[])(a:sreFenced p.main=true)(b:((moduleNames p.main.body).isEmpty||lookedIntoSs (moduleNames p.main.body) p.main.body)=true)(c:namesResolve p=true)(d:p.boundNames.all (λn=>!worldNames.contains n)=true)
   (f:noRoadLSs { strict:=!(importedModules p.main.body).all cThrough.contains,foot:=none,bare:=[] } p.main.body=true) (g:namesMeet p p.main.body (λ_ n=>attrL n)=true):looksOpen p=true:=by
 unfold looksOpen;rw[e,a,b,c,d,f,g];rfl
end PySem.W
section
open PySem PySem.W
abbrev eV.pp:Program:=PySem.Challenge.pw_notefall_k56_the_way_of_a_value
theorem eV.h0:TablesWhole.wSs TablesWhole.gather eV.pp.main.scope ⟨eV.pp.main.scope,[],[],[],none⟩ eV.pp.main.scope eV.pp.main.body=[]:=by kernel_rfl
theorem eV.h1:(["vars","dir","locals"]:List Str).filter (readsOut eV.pp eV.pp.main.body)=[]:=by kernel_rfl
theorem eV.h2:sreFenced eV.pp.main=true:=by kernel_rfl
theorem eV.h3:((moduleNames eV.pp.main.body).isEmpty||lookedIntoSs (moduleNames eV.pp.main.body) eV.pp.main.body)=true:=by kernel_rfl
theorem eV.h4:TablesWhole.wSs (Vr λsc n _=>match sc.names.lookup n with
   | some .globalImplicit | some .globalExplicit=>eV.pp.boundNames.contains n||n==("__name__":Str)||n==("__debug__":Str)||(builtinNamed n&&!worldNames.contains n&&!n.opensWith "__")
   | _=>true) eV.pp.main.scope ⟨eV.pp.main.scope,[],[],[],none⟩ eV.pp.main.scope eV.pp.main.body=true:=by kernel_rfl
theorem eV.h5:eV.pp.boundNames.all (λn=>!worldNames.contains n)=true:=by kernel_rfl
theorem eV.h6:noRoadLSs { strict:=!(importedModules eV.pp.main.body).all cThrough.contains,foot:=none,bare:=[] } eV.pp.main.body=true:=by kernel_rfl
theorem eV.h7:TablesWhole.wSs (Vr λ_ n _=>attrL n) eV.pp.main.scope ⟨eV.pp.main.scope,[],[],[],none⟩ eV.pp.main.scope eV.pp.main.body=true:=by kernel_rfl
theorem eV.Y5:looksOpen PySem.Challenge.pw_notefall_k56_the_way_of_a_value=true:=SG eV.h1 eV.h2 eV.h3 (SE eV.h0 eV.h4) eV.h5 eV.h6 (SD eV.h0 eV.h7)
theorem eV.VL:PySem.W.OpenLaw.wellSaid PySem.Challenge.rw_notefall_k56_the_way_of_a_value=true:=by
 delta PySem.W.OpenLaw.wellSaid PySem.W.OpenRow.wellSaid PySem.W.OpenRow.partSaid
 repeat' with_reducible refine PySem.W.look_both ?_ ?_
 . exact eV.Y5
 all_goals kernel_rfl
end
namespace L2
open PySem PySem.Spec PyProof.Rows
def inClass (s:Stmt)(j:Nat):Stmt:=match s with
 | .ClassDef _ _ _ body _ _ _ _ _ _ _=>body.getD j 'r'
 | _=>.Pass ⟨0,0,0,0⟩
def cU (s:Stmt):Arguments:=match s with
 | .FunctionDef _ a _ _ _ _ _ _ _ _=>a
 | _=>{ posonlyargs:=[],args:=[],vararg:=none,kwonlyargs:=[],kw_defaults:=[],kwarg:=none,defaults:=[] }
def aj (s:Stmt):List Stmt:=match s with
 | .FunctionDef _ _ b _ _ _ _ _ _ _=>b
 | _=>[]
def aN (s:Stmt):Scope:=match s with
 | .FunctionDef _ _ _ _ _ _ sc _ _ _=>sc
 | _=>{ kind:=.function,names:=[],isGenerator:=false,isCoroutine:=false }
end L2
namespace eV
open PySem L2
variable{env:Env}{ann:Option Value}{p:Program}{w:World}
def top (i:Nat):Stmt:=PySem.Challenge.pw_notefall_k56_the_way_of_a_value.main.body.getD i 'r'
abbrev kh (P:Params)(x:Str):Int:=PyData.keyHash P x
noncomputable abbrev oC (a:Str)(b:Tok)(c:Str)(d:Tok)(e:Str)(f:Tok)(g h i j k:Int)(l:Addr)(m:Bool)(n:Int)(o:Addr)(p q r s:Value)(u v:Int)(x:Str)(y:Tok):Obj:=⟨.type "code",none,.fields #[.str a b,.str c d,.str e f,.int g 0,.int h 0,.int i 0,.int j 0,.int k 0,.ref l,.bool m,.int n 0,.ref o,p,q,r,s,.int u 0,.int v 0,.str x y],#[]⟩
noncomputable abbrev oT (x:Array Value):Obj:=⟨.type "tuple",none,.seq x 0,#[]⟩
noncomputable abbrev oF (a b:Str)(s:Stmt)(n:Nat)(d k m c:Value):Obj:=⟨.type "function",none,.func ⟨a,b,cU s,.stmts (aj s),aN s,n,[],d,k,.none,m,none,c,.none,0⟩,#[]⟩
noncomputable abbrev oG (a b:Str)(s:Stmt):Obj:=⟨.none,none,.func ⟨a,b,cU s,.stmts (aj s),aN s,0,[],.none,.none,.none,.none,none,.none,.none,0⟩,#[]⟩
noncomputable abbrev oN:Obj:=⟨.none,none,.fields #[],#[]⟩
noncomputable def OO (s:Stmt):Str:=match s with
 | .FunctionDef n _ _ _ _ _ _ _ _ _=>n
 | _=>Str.empty
noncomputable def dLn (s:Stmt):Nat:=match s with
 | .FunctionDef _ _ _ _ _ _ _ _ _ p=>p.line
 | _=>0
noncomputable abbrev bY (P:Params)(x:Str)(t:Tok)(v:Value):DictEntry:=⟨kh P x,.str x t,v⟩
noncomputable abbrev aT (P:Params)(x:Str)(t:Tok)(v:Addr):DictEntry:=⟨kh P x,.str x t,.ref v⟩
noncomputable abbrev iw (l:List DictEntry)(n:Nat):Obj:=⟨.type "dict",none,.dict l.toArray n,#[]⟩
noncomputable abbrev sL (x:Str)(t:Nat)(l:Int)(a:Nat):Obj:=oC x t x (t + 1) "/claim/cut.py" (t + 2) l 0 0 0 0 a false 181 (a + 1) .none .none .none .none (t + 3) l "/claim/cut.py" (t + 4)
noncomputable abbrev sM (a b:Addr)(v:Value):Obj:=⟨.type "frame",none,.plain,#[some (.ref a),some (.ref 3),some (.ref b),none,some v,none,some (.ref 0)]⟩
noncomputable abbrev uJ (a:Addr):Obj:=⟨.type "super",none,.fields #[.ref a,.ref a,.ref a],#[]⟩
noncomputable abbrev iT (x:String)(v:Value):Obj:=⟨.type "builtin_function_or_method",none,.fields #[.builtin x,v],#[]⟩
noncomputable abbrev vt (x:Str)(t:Tok)(a:Addr)(b:String)(v:Value):Obj:=⟨.type "getset_descriptor",none,.fields #[.str x t,.ref a,.builtin b,v],#[]⟩
noncomputable abbrev uK (x:Str)(b m:List Value)(d:Addr)(u:List Value)(v:Option Value)(t1 t2:Tok)(nw:String):Obj:=⟨.type "type",none,.cls ⟨x,b,m,d,x,true,[],u,false,none,false⟩,#[v,none,some (.str x t1),some (.str x t2),some (.builtin nw),some (.bool true)]⟩
noncomputable abbrev Eh (l:List (Nat×Nat×Nat)):Obj:=⟨.none,none,.fields (l.flatMap λp=>[.int p.1 0,.int p.2.1 0,.ref p.2.2]).toArray,#[]⟩
noncomputable def VM:Nat->List Str->List Value
 | _,[]=>[]
 | t,x::r=>.str x t::VM (t + 1) r
noncomputable abbrev VN (s:Stmt):Option (List Str×List Str):=localNames (cU s) (aN s) (.stmts (aj s))
noncomputable abbrev VO (a t:Nat)(s:Stmt)(q:Str)(u v w:Value)(e:Nat):Obj:=oC (OO s) t q (t + 1) "/claim/cut.py" (t + 2) (dLn s) (cU s).args.length 0 (cU s).kwonlyargs.length 3 a true 181 (a + 1) .none u v w e (dLn s) "/claim/cut.py" (e + 1)
noncomputable abbrev mF (a t:Nat)(s:Stmt)(q:Str):Obj:=match VN s with
 | some (vs,_)=>VO a t s q (.ref (a + 2)) (.ref (a + 3)) (.ref (a + 4)) (t + 3 + vs.length)
 | none=>VO a t s q .none .none (.ref (a + 2)) (t + 3)
noncomputable abbrev eO (a t:Nat)(s:Stmt):Obj:=mF a t s (OO s)
noncomputable abbrev za (x:Str)(s:Stmt)(q:Str)(d w m:Value)(c:Addr):Obj:=oF x q s 3 d w m (.ref c)
noncomputable abbrev QT (x:Str)(s:Stmt)(q:Str)(w m:Value)(c:Addr):Obj:=za x s q .none w m c
noncomputable abbrev sN (x:Str)(s:Stmt)(q:Str)(m:Value)(c:Addr):Obj:=za x s q .none .none m c
noncomputable abbrev Gi (x:Str)(s:Stmt)(w m:Value)(c:Addr):Obj:=za x s x .none w m c
noncomputable abbrev bE (x:Str)(s:Stmt)(m:Value)(c:Addr):Obj:=za x s x .none .none m c
abbrev Av:Type:=Nat->Nat->List Obj×Nat×Nat
noncomputable def bh (o:Obj):Av:=λa t=>([o],a + 1,t)
noncomputable def fc (n:Nat):Av:=λa _=>([],a,n)
noncomputable def vz (s:Stmt)(q:Str)(d w m:Value):Av:=λa t=>match VN s with
 | some (vs,_)=>([oT #[],oN,oT (VM (t + 3) vs).toArray,oT #[],oG (OO s) q s,mF a t s q,za (OO s) s q d w m (a + 5)],a + 7,t + 6 + vs.length)
 | none=>([oT #[],oN,oG (OO s) q s,mF a t s q,za (OO s) s q d w m (a + 3)],a + 5,t + 6)
noncomputable def zb (s:Stmt)(q:Str)(w m:Value):Av:=vz s q .none w m
noncomputable def eN (s:Stmt)(q:Str)(m:Value):Av:=vz s q .none .none m
noncomputable def IW (s:Stmt)(w m:Value):Av:=vz s (OO s) .none w m
noncomputable def aad (s:Stmt)(d w m:Value):Av:=vz s (OO s) d w m
noncomputable def dP (s:Stmt)(m:Value):Av:=vz s (OO s) .none .none m
noncomputable def VP:List Av->Nat->Nat->List Obj
 | [],_,_=>[]
 | f::r,a,t=>(f a t).1++VP r (f a t).2.1 (f a t).2.2
abbrev aae:Value:=.str "__main__" 164
abbrev aaf:Value:=.str "notefall.errors" 194
abbrev mO:Value:=.str "notefall.wholes" 319
abbrev B5:Value:=.str "notefall.actions" 408
abbrev Ei:Value:=.str "notefall.notes" 449
abbrev jy:Value:=.str "notefall.shapes" 484
abbrev VQ:Value:=.str "notefall.leaves" 566
abbrev IX:Value:=.str "notefall.trays" 580
abbrev iJ:Value:=.str "notefall.rooms" 606
abbrev qP:Value:=.str "notefall.rolls" 854
abbrev fW:Value:=.str "notefall.reads" 907
abbrev dj:Value:=.str "notefall.store" 1050
abbrev dm:Value:=.str "notefall.images" 1281
abbrev bO:Value:=.str "law_notefall_k56_the_way_of_a_value" 1427
noncomputable abbrev x2 (P:Params):Obj:=⟨.none,none,(.dict (List.toArray ( [])) 0),#[]⟩
noncomputable abbrev x3 (P:Params):Obj:=iw (bY P "__name__" 165 (.str "law_notefall_k56_the_way_of_a_value" 1427)::bY P "__doc__" 166 .none::bY P "__package__" 167 .none::bY P "__loader__" 168 (.builtin "__main__.__loader__#opaque")::bY P "__spec__" 169 .none::aT P "__annotations__" 170 6::aT P "__builtins__" 171 4::bY P "__file__" 173 (.str "/claim/cut.py" 172)::bY P "__cached__" 174 .none::aT P "_wall" 193 21::aT P "FallError" 213 31::aT P "NoKey" 229 44::aT P "NoStretch" 245 56::aT P "NoRule" 261 68::aT P "NoMark" 277 80::aT P "NoMany" 293 92::aT P "NoImage" 318 111::bY P "END" 324 (.int 1000000000000 323)::bY P "MOST_TRAY" 326 (.int 64 325)::bY P "LEAST_FAN" 328 (.int 3 327)::bY P "MOST_FAN" 330 (.int 16 329)::bY P "MOST_ROWS" 332 (.int 64 331)::aT P "PLANS" 335 114::aT P "is_number" 342 121::aT P "is_whole" 351 128::aT P "is_whole_from" 359 135::aT P "is_key" 366 142::aT P "is_stretch" 374 149::aT P "check_key" 381 156::aT P "check_stretch" 389 163::aT P "is_plan" 396 170::aT P "is_rule" 407 177::aT P "GONE" 411 178::aT P "is_half" 419 185::aT P "is_action" 428 192::aT P "half_acts" 438 199::aT P "does" 448 206::aT P "is_note" 461 213::aT P "has_key" 469 220::aT P "have_common" 477 227::aT P "reached" 483 232::aT P "is_rising" 491 237::aT P "are_wholes" 497 242::aT P "are_rising_from" 503 247::aT P "is_version" 512 254::aT P "are_versions" 518 259::aT P "is_row" 525 266::aT P "are_rows" 531 271::aT P "are_notes" 537 276::aT P "has_word" 546 283::aT P "is_leaf_told" 553 290::aT P "is_inner_told" 565 297::aT P "value_of" 579 305::aT P "up_to" 587 310::aT P "touching" 593 315::aT P "seen" 605 323::aT P "Leaf" 638 340::aT P "Inner" 673 361::aT P "stretches" 683 372::aT P "child_place" 689 377::aT P "House" 846 485::aT P "new_house" 853 496::aT P "children_of" 861 501::aT P "all_rooms" 873 508::aT P "own_rows" 879 513::aT P "room_told" 885 518::aT P "roll_of" 891 523::aT P "room_made" 897 528::aT P "top_of" 906 535::aT P "check_mark" 916 542::aT P "check_many" 923 549::aT P "rooms_to" 933 556::aT P "versions_in" 943 563::aT P "told_value" 956 570::aT P "leaf_table" 962 575::aT P "do_to" 972 582::aT P "room_table" 987 589::aT P "pairs" 993 594::aT P "read_key" 1003 602::aT P "read_stretch" 1020 611::aT P "read_above" 1031 619::aT P "read_many" 1042 627::aT P "read_way" 1049 633::aT P "Store" 1267 799::aT P "store_from" 1280 810::aT P "is_frame" 1288 815::aT P "are_beneath" 1294 820::aT P "is_tray" 1300 825::aT P "are_within" 1306 830::aT P "is_row_beneath" 1312 835::aT P "Survey" 1403 888::aT P "image_fault" 1418 899::aT P "store_of" 1426 906::aT P "_law_cell_at" 1436 913::aT P "_law_well" 1443 920::aT P "_law_draw" 1453 927::aT P "_law_value" 1461 934::aT P "_law_number" 1468 941::aT P "_law_action" 1478 948::aT P "_law_acts" 1487 955::aT P "_law_rule" 1498 962::aT P "_law_rows" 1513 969::aT P "_law_tray" 1530 976::aT P "_law_room" 1536 981::aT P "_law_all" 1545 988::aT P "_law_told" 1551 993::aT P "_law_world" 1557 998::aT P "_law_view" 1563 1003::aT P "_law_views" 1569 1008::aT P "_law_ats" 1576 1015::aT P "_law_found" 1582 1020::aT P "_law_come" 1595 1027::aT P "_law_key_right" 1610 1034::aT P "_law_right" 1622 1041::aT P "law" 1631 1048::[]) 115
noncomputable abbrev x30 (P:Params):Obj:=iw (bY P "__module__" 203 'h'::bY P "__firstlineno__" 207 (.int 5 206)::aT P "__static_attributes__" 208 29::aT P "__weakref__" 210 32::bY P "__doc__" 211 .none::[]) 3
noncomputable abbrev x31 (P:Params):Obj:=uK "FallError" [(.type "ValueError")] [(.ref 31),(.type "ValueError"),(.type "Exception"),(.type "BaseException"),(.type "object")] 30 [(.ref 44),(.ref 56),(.ref 68),(.ref 80),(.ref 92),(.ref 111)] (some (.ref 22)) 196 204 "ValueError.__new__"
noncomputable abbrev x32 (P:Params):Obj:=vt "__weakref__" 209 31 "ExceptionGroup.__weakref__" .none
noncomputable abbrev x43 (P:Params):Obj:=iw (bY P "__module__" 221 'h'::bY P "__firstlineno__" 225 (.int 7 224)::aT P "__static_attributes__" 226 42::bY P "__doc__" 227 .none::[]) 2
noncomputable abbrev x44 (P:Params):Obj:=uK "NoKey" [(.ref 31)] [(.ref 44),(.ref 31),(.type "ValueError"),(.type "Exception"),(.type "BaseException"),(.type "object")] 43 [] (some (.ref 35)) 214 222 "ValueError.__new__"
noncomputable abbrev x55 (P:Params):Obj:=iw (bY P "__module__" 237 'h'::bY P "__firstlineno__" 241 (.int 9 240)::aT P "__static_attributes__" 242 54::bY P "__doc__" 243 .none::[]) 2
noncomputable abbrev x56 (P:Params):Obj:=uK "NoStretch" [(.ref 31)] [(.ref 56),(.ref 31),(.type "ValueError"),(.type "Exception"),(.type "BaseException"),(.type "object")] 55 [] (some (.ref 47)) 230 238 "ValueError.__new__"
noncomputable abbrev x67 (P:Params):Obj:=iw (bY P "__module__" 253 'h'::bY P "__firstlineno__" 257 (.int 11 256)::aT P "__static_attributes__" 258 66::bY P "__doc__" 259 .none::[]) 2
noncomputable abbrev x68 (P:Params):Obj:=uK "NoRule" [(.ref 31)] [(.ref 68),(.ref 31),(.type "ValueError"),(.type "Exception"),(.type "BaseException"),(.type "object")] 67 [] (some (.ref 59)) 246 254 "ValueError.__new__"
noncomputable abbrev x79 (P:Params):Obj:=iw (bY P "__module__" 269 'h'::bY P "__firstlineno__" 273 (.int 13 272)::aT P "__static_attributes__" 274 78::bY P "__doc__" 275 .none::[]) 2
noncomputable abbrev x80 (P:Params):Obj:=uK "NoMark" [(.ref 31)] [(.ref 80),(.ref 31),(.type "ValueError"),(.type "Exception"),(.type "BaseException"),(.type "object")] 79 [] (some (.ref 71)) 262 270 "ValueError.__new__"
noncomputable abbrev x91 (P:Params):Obj:=iw (bY P "__module__" 285 'h'::bY P "__firstlineno__" 289 (.int 15 288)::aT P "__static_attributes__" 290 90::bY P "__doc__" 291 .none::[]) 2
noncomputable abbrev x92 (P:Params):Obj:=uK "NoMany" [(.ref 31)] [(.ref 92),(.ref 31),(.type "ValueError"),(.type "Exception"),(.type "BaseException"),(.type "object")] 91 [] (some (.ref 83)) 278 286 "ValueError.__new__"
noncomputable abbrev VR (P:Params):Obj:=iw (bY P "__module__" 301 'h'::bY P "__firstlineno__" 305 (.int 17 304)::aT P "__init__" 313 108::aT P "__static_attributes__" 315 109::bY P "__doc__" 316 .none::[]) 2
noncomputable abbrev VS (P:Params):Obj:=uK "NoImage" [(.ref 31)] [(.ref 111),(.ref 31),(.type "ValueError"),(.type "Exception"),(.type "BaseException"),(.type "object")] 110 [] (some (.ref 95)) 294 302 "ValueError.__new__"
noncomputable abbrev VT (P:Params):Obj:=oT #[(.str "fullest" 333),(.str "eldest" 334)]
noncomputable abbrev VU (P:Params):Obj:=iw (bY P "__module__" 615 (.str "notefall.rooms" 606)::bY P "__firstlineno__" 619 (.int 143 618)::aT P "__init__" 628 337::aT P "__static_attributes__" 631 338::aT P "__dict__" 633 341::aT P "__weakref__" 635 342::bY P "__doc__" 636 .none::[]) 4
noncomputable abbrev VW (P:Params):Obj:=uK "Leaf" [(.type "object")] [(.ref 340),(.type "object")] 339 [] none 608 616 "object.__new__"
noncomputable abbrev VX (P:Params):Obj:=vt "__dict__" 632 340 "function.__dict__" (.builtin "function.__dict__#set")
noncomputable abbrev VY (P:Params):Obj:=vt "__weakref__" 634 340 "ExceptionGroup.__weakref__" .none
noncomputable abbrev VZ (P:Params):Obj:=iw (bY P "__module__" 646 (.str "notefall.rooms" 606)::bY P "__firstlineno__" 650 (.int 148 649)::aT P "__init__" 661 358::aT P "__static_attributes__" 666 359::aT P "__dict__" 668 362::aT P "__weakref__" 670 363::bY P "__doc__" 671 .none::[]) 4
noncomputable abbrev V0 (P:Params):Obj:=uK "Inner" [(.type "object")] [(.ref 361),(.type "object")] 360 [] none 639 647 "object.__new__"
noncomputable abbrev V1 (P:Params):Obj:=vt "__dict__" 667 361 "function.__dict__" (.builtin "function.__dict__#set")
noncomputable abbrev V2 (P:Params):Obj:=vt "__weakref__" 669 361 "ExceptionGroup.__weakref__" .none
noncomputable abbrev V3 (P:Params):Obj:=iw (bY P "__module__" 697 (.str "notefall.rooms" 606)::bY P "__firstlineno__" 701 (.int 160 700)::aT P "__init__" 712 391::aT P "next_number" 719 398::aT P "lay" 727 405::aT P "take_in" 738 412::aT P "drain" 748 419::aT P "pour_into" 759 426::aT P "clear_out" 769 433::aT P "is_too_great" 777 440::aT P "mend" 788 447::aT P "part_child" 799 454::aT P "leaf_parts" 807 461::aT P "inner_parts" 817 468::aT P "part_numbers" 826 475::aT P "mend_top" 833 482::aT P "__static_attributes__" 839 483::aT P "__dict__" 841 486::aT P "__weakref__" 843 487::bY P "__doc__" 844 .none::[]) 4
noncomputable abbrev V4 (P:Params):Obj:=uK "House" [(.type "object")] [(.ref 485),(.type "object")] 484 [] none 690 698 "object.__new__"
noncomputable abbrev V5 (P:Params):Obj:=vt "__dict__" 840 485 "function.__dict__" (.builtin "function.__dict__#set")
noncomputable abbrev V6 (P:Params):Obj:=vt "__weakref__" 842 485 "ExceptionGroup.__weakref__" .none
noncomputable abbrev V7 (P:Params):Obj:=iw (bY P "at" 1005 .none::bY P "most" 1006 .none::bY P "back" 1007 (.bool false)::[]) 3
noncomputable abbrev V8 (P:Params):Obj:=iw (bY P "at" 1113 .none::bY P "most" 1114 .none::bY P "back" 1115 (.bool false)::[]) 3
noncomputable abbrev V9 (P:Params):Obj:=iw (bY P "__module__" 1059 (.str "notefall.store" 1050)::bY P "__firstlineno__" 1063 (.int 310 1062)::aT P "__init__" 1071 647::aT P "check_free" 1078 654::aT P "ready_deed" 1086 661::aT P "do" 1094 668::aT P "marks" 1101 675::aT P "read" 1111 683::aT P "stretch" 1127 692::aT P "__len__" 1134 699::aT P "above" 1144 707::aT P "below" 1154 715::aT P "many" 1165 723::aT P "total" 1176 731::aT P "unlike" 1185 738::aT P "way" 1195 746::aT P "pour" 1204 753::aT P "press" 1213 760::aT P "squeeze" 1220 767::aT P "each" 1234 775::aT P "steps" 1241 782::aT P "twin" 1248 789::aT P "image" 1255 796::aT P "__static_attributes__" 1260 797::aT P "__dict__" 1262 800::aT P "__weakref__" 1264 801::bY P "__doc__" 1265 .none::[]) 4
noncomputable abbrev Wa (P:Params):Obj:=uK "Store" [(.type "object")] [(.ref 799),(.type "object")] 798 [] none 1052 1060 "object.__new__"
noncomputable abbrev Wb (P:Params):Obj:=vt "__dict__" 1261 799 "function.__dict__" (.builtin "function.__dict__#set")
noncomputable abbrev Wc (P:Params):Obj:=vt "__weakref__" 1263 799 "ExceptionGroup.__weakref__" .none
noncomputable abbrev Wd (P:Params):Obj:=iw (bY P "__module__" 1320 (.str "notefall.images" 1281)::bY P "__firstlineno__" 1324 (.int 410 1323)::aT P "__init__" 1334 849::aT P "takes" 1340 854::aT P "may_have" 1349 861::aT P "is_leaf_sound" 1355 866::aT P "has_floors" 1363 873::aT P "is_inner_sound" 1383 880::aT P "await_children" 1389 885::aT P "__static_attributes__" 1396 886::aT P "__dict__" 1398 889::aT P "__weakref__" 1400 890::bY P "__doc__" 1401 .none::[]) 4
noncomputable abbrev We (P:Params):Obj:=uK "Survey" [(.type "object")] [(.ref 888),(.type "object")] 887 [] none 1313 1321 "object.__new__"
noncomputable abbrev Wf (P:Params):Obj:=vt "__dict__" 1397 888 "function.__dict__" (.builtin "function.__dict__#set")
noncomputable abbrev Wg (P:Params):Obj:=vt "__weakref__" 1399 888 "ExceptionGroup.__weakref__" .none
noncomputable def hK (P:Params):Frag:=(nat_lit 2,x2 P)::(nat_lit 3,x3 P)::(nat_lit 30,x30 P)::(nat_lit 31,x31 P)::(nat_lit 32,x32 P)::(nat_lit 43,x43 P)::(nat_lit 44,x44 P)::(nat_lit 55,x55 P)::(nat_lit 56,x56 P)::(nat_lit 67,x67 P)::(nat_lit 68,x68 P)::(nat_lit 79,x79 P)::(nat_lit 80,x80 P)::(nat_lit 91,x91 P)::(nat_lit 92,x92 P)::(nat_lit 110,VR P)::(nat_lit 111,VS P)::(nat_lit 114,VT P)::(nat_lit 120,eO 115 336 (top 16))::(nat_lit 121,bE "is_number" (top 16) mO 120)::(nat_lit 127,eO 122 343 (top 17))::(nat_lit 128,bE "is_whole" (top 17) mO 127)::(nat_lit 134,eO 129 352 (top 18))::(nat_lit 135,bE "is_whole_from" (top 18) mO 134)::(nat_lit 141,eO 136 360 (top 19))::(nat_lit 142,bE "is_key" (top 19) mO 141)::(nat_lit 148,eO 143 367 (top 20))::(nat_lit 149,bE "is_stretch" (top 20) mO 148)::(nat_lit 155,eO 150 375 (top 21))::(nat_lit 156,bE "check_key" (top 21) mO 155)::(nat_lit 169,eO 164 390 (top 23))::(nat_lit 170,bE "is_plan" (top 23) mO 169)::(nat_lit 176,eO 171 397 (top 24))::(nat_lit 177,bE "is_rule" (top 24) mO 176)::(nat_lit 178,oT #[(.str "gone" 410)])::(nat_lit 184,eO 179 412 (top 27))::(nat_lit 185,bE "is_half" (top 27) B5 184)::(nat_lit 191,eO 186 420 (top 28))::(nat_lit 192,bE "is_action" (top 28) B5 191)::(nat_lit 198,eO 193 429 (top 29))::(nat_lit 199,bE "half_acts" (top 29) B5 198)::(nat_lit 205,eO 200 439 (top 30))::(nat_lit 206,bE "does" (top 30) B5 205)::(nat_lit 212,eO 207 451 (top 32))::(nat_lit 213,bE "is_note" (top 32) Ei 212)::(nat_lit 219,eO 214 462 (top 33))::(nat_lit 220,bE "has_key" (top 33) Ei 219)::(nat_lit 226,eO 221 470 (top 34))::(nat_lit 227,bE "have_common" (top 34) Ei 226)::(nat_lit 236,eO 233 486 (top 37))::(nat_lit 237,bE "is_rising" (top 37) jy 236)::(nat_lit 241,eO 238 492 (top 38))::(nat_lit 242,bE "are_wholes" (top 38) jy 241)::(nat_lit 246,eO 243 498 (top 39))::(nat_lit 247,bE "are_rising_from" (top 39) jy 246)::(nat_lit 253,eO 248 504 (top 40))::(nat_lit 254,bE "is_version" (top 40) jy 253)::(nat_lit 258,eO 255 513 (top 41))::(nat_lit 259,bE "are_versions" (top 41) jy 258)::(nat_lit 265,eO 260 519 (top 42))::(nat_lit 266,bE "is_row" (top 42) jy 265)::(nat_lit 270,eO 267 526 (top 43))::(nat_lit 271,bE "are_rows" (top 43) jy 270)::(nat_lit 275,eO 272 532 (top 44))::(nat_lit 276,bE "are_notes" (top 44) jy 275)::(nat_lit 282,eO 277 538 (top 45))::(nat_lit 283,bE "has_word" (top 45) jy 282)::(nat_lit 289,eO 284 547 (top 46))::(nat_lit 290,bE "is_leaf_told" (top 46) jy 289)::(nat_lit 296,eO 291 554 (top 47))::(nat_lit 297,bE "is_inner_told" (top 47) jy 296)::(nat_lit 298,iw (bY P "at" 568 .none::[]) 1)::(nat_lit 304,eO 299 569 (top 49))::(nat_lit 305,Gi "value_of" (top 49) (.ref 298) VQ 304)::(nat_lit 309,eO 306 582 (top 51))::(nat_lit 310,bE "up_to" (top 51) IX 309)::(nat_lit 314,eO 311 588 (top 52))::(nat_lit 315,bE "touching" (top 52) IX 314)::(nat_lit 316,iw (bY P "at" 594 .none::[]) 1)::(nat_lit 322,eO 317 595 (top 53))::(nat_lit 323,Gi "seen" (top 53) (.ref 316) IX 322)::(nat_lit 336,mF 331 620 (inClass (top 55) 0) "Leaf.__init__")::(nat_lit 337,sN "__init__" (inClass (top 55) 0) "Leaf.__init__" iJ 336)::(nat_lit 339,VU P)::(nat_lit 340,VW P)::(nat_lit 341,VX P)::(nat_lit 342,VY P)::(nat_lit 357,mF 352 651 (inClass (top 56) 0) "Inner.__init__")::(nat_lit 358,sN "__init__" (inClass (top 56) 0) "Inner.__init__" iJ 357)::(nat_lit 360,VZ P)::(nat_lit 361,V0 P)::(nat_lit 362,V1 P)::(nat_lit 363,V2 P)::(nat_lit 371,eO 366 674 (top 57))::(nat_lit 372,bE "stretches" (top 57) iJ 371)::(nat_lit 376,eO 373 684 (top 58))::(nat_lit 377,bE "child_place" (top 58) iJ 376)::(nat_lit 390,mF 385 702 (inClass (top 59) 0) "House.__init__")::(nat_lit 391,sN "__init__" (inClass (top 59) 0) "House.__init__" iJ 390)::(nat_lit 484,V3 P)::(nat_lit 485,V4 P)::(nat_lit 486,V5 P)::(nat_lit 487,V6 P)::(nat_lit 495,eO 490 847 (top 60))::(nat_lit 496,bE "new_house" (top 60) iJ 495)::(nat_lit 500,eO 497 856 (top 62))::(nat_lit 501,bE "children_of" (top 62) qP 500)::(nat_lit 507,eO 502 862 (top 63))::(nat_lit 508,bE "all_rooms" (top 63) qP 507)::(nat_lit 512,eO 509 874 (top 64))::(nat_lit 513,bE "own_rows" (top 64) qP 512)::(nat_lit 517,eO 514 880 (top 65))::(nat_lit 518,bE "room_told" (top 65) qP 517)::(nat_lit 522,eO 519 886 (top 66))::(nat_lit 523,bE "roll_of" (top 66) qP 522)::(nat_lit 527,eO 524 892 (top 67))::(nat_lit 528,bE "room_made" (top 67) qP 527)::(nat_lit 534,eO 529 898 (top 68))::(nat_lit 535,bE "top_of" (top 68) qP 534)::(nat_lit 541,eO 536 909 (top 70))::(nat_lit 542,bE "check_mark" (top 70) fW 541)::(nat_lit 555,eO 550 924 (top 72))::(nat_lit 556,bE "rooms_to" (top 72) fW 555)::(nat_lit 562,eO 557 934 (top 73))::(nat_lit 563,bE "versions_in" (top 73) fW 562)::(nat_lit 569,eO 564 944 (top 74))::(nat_lit 570,bE "told_value" (top 74) fW 569)::(nat_lit 595,iw (bY P "at" 994 .none::[]) 1)::(nat_lit 601,eO 596 995 (top 79))::(nat_lit 602,Gi "read_key" (top 79) (.ref 595) fW 601)::(nat_lit 604,V7 P)::(nat_lit 612,iw (bY P "at" 1021 .none::[]) 1)::(nat_lit 620,iw (bY P "at" 1032 .none::[]) 1)::(nat_lit 628,iw (bY P "at" 1043 .none::[]) 1)::(nat_lit 632,eO 629 1044 (top 83))::(nat_lit 633,Gi "read_way" (top 83) (.ref 628) fW 632)::(nat_lit 646,mF 641 1064 (inClass (top 85) 0) "Store.__init__")::(nat_lit 647,sN "__init__" (inClass (top 85) 0) "Store.__init__" dj 646)::(nat_lit 674,mF 669 1095 (inClass (top 85) 4) "Store.marks")::(nat_lit 675,sN "marks" (inClass (top 85) 4) "Store.marks" dj 674)::(nat_lit 676,iw (bY P "at" 1102 .none::[]) 1)::(nat_lit 682,mF 677 1103 (inClass (top 85) 5) "Store.read")::(nat_lit 683,QT "read" (inClass (top 85) 5) "Store.read" (.ref 676) dj 682)::(nat_lit 685,V8 P)::(nat_lit 700,iw (bY P "at" 1135 .none::[]) 1)::(nat_lit 708,iw (bY P "at" 1145 .none::[]) 1)::(nat_lit 716,iw (bY P "at" 1155 .none::[]) 1)::(nat_lit 724,iw (bY P "at" 1166 .none::[]) 1)::(nat_lit 739,iw (bY P "at" 1186 .none::[]) 1)::(nat_lit 745,mF 740 1187 (inClass (top 85) 13) "Store.way")::(nat_lit 746,QT "way" (inClass (top 85) 13) "Store.way" (.ref 739) dj 745)::(nat_lit 795,mF 790 1249 (inClass (top 85) 20) "Store.image")::(nat_lit 796,sN "image" (inClass (top 85) 20) "Store.image" dj 795)::(nat_lit 798,V9 P)::(nat_lit 799,Wa P)::(nat_lit 800,Wb P)::(nat_lit 801,Wc P)::(nat_lit 809,eO 804 1268 (top 86))::(nat_lit 810,bE "store_from" (top 86) dj 809)::(nat_lit 814,eO 811 1283 (top 88))::(nat_lit 815,bE "is_frame" (top 88) dm 814)::(nat_lit 819,eO 816 1289 (top 89))::(nat_lit 820,bE "are_beneath" (top 89) dm 819)::(nat_lit 824,eO 821 1295 (top 90))::(nat_lit 825,bE "is_tray" (top 90) dm 824)::(nat_lit 829,eO 826 1301 (top 91))::(nat_lit 830,bE "are_within" (top 91) dm 829)::(nat_lit 834,eO 831 1307 (top 92))::(nat_lit 835,bE "is_row_beneath" (top 92) dm 834)::(nat_lit 848,mF 843 1325 (inClass (top 93) 0) "Survey.__init__")::(nat_lit 849,sN "__init__" (inClass (top 93) 0) "Survey.__init__" dm 848)::(nat_lit 853,mF 850 1335 (inClass (top 93) 1) "Survey.takes")::(nat_lit 854,sN "takes" (inClass (top 93) 1) "Survey.takes" dm 853)::(nat_lit 860,mF 855 1341 (inClass (top 93) 2) "Survey.may_have")::(nat_lit 861,sN "may_have" (inClass (top 93) 2) "Survey.may_have" dm 860)::(nat_lit 865,mF 862 1350 (inClass (top 93) 3) "Survey.is_leaf_sound")::(nat_lit 866,sN "is_leaf_sound" (inClass (top 93) 3) "Survey.is_leaf_sound" dm 865)::(nat_lit 872,mF 867 1356 (inClass (top 93) 4) "Survey.has_floors")::(nat_lit 873,sN "has_floors" (inClass (top 93) 4) "Survey.has_floors" dm 872)::(nat_lit 879,mF 874 1364 (inClass (top 93) 5) "Survey.is_inner_sound")::(nat_lit 880,sN "is_inner_sound" (inClass (top 93) 5) "Survey.is_inner_sound" dm 879)::(nat_lit 884,mF 881 1384 (inClass (top 93) 6) "Survey.await_children")::(nat_lit 885,sN "await_children" (inClass (top 93) 6) "Survey.await_children" dm 884)::(nat_lit 887,Wd P)::(nat_lit 888,We P)::(nat_lit 889,Wf P)::(nat_lit 890,Wg P)::(nat_lit 898,eO 893 1404 (top 94))::(nat_lit 899,bE "image_fault" (top 94) dm 898)::(nat_lit 905,eO 900 1419 (top 95))::(nat_lit 906,bE "store_of" (top 95) dm 905)::(nat_lit 912,eO 907 1429 (top 97))::(nat_lit 913,bE "_law_cell_at" (top 97) bO 912)::(nat_lit 919,eO 914 1437 (top 98))::(nat_lit 920,bE "_law_well" (top 98) bO 919)::(nat_lit 926,eO 921 1444 (top 99))::(nat_lit 927,bE "_law_draw" (top 99) bO 926)::(nat_lit 933,eO 928 1454 (top 100))::(nat_lit 934,bE "_law_value" (top 100) bO 933)::(nat_lit 940,eO 935 1462 (top 101))::(nat_lit 941,bE "_law_number" (top 101) bO 940)::(nat_lit 947,eO 942 1469 (top 102))::(nat_lit 948,bE "_law_action" (top 102) bO 947)::(nat_lit 954,eO 949 1479 (top 103))::(nat_lit 955,bE "_law_acts" (top 103) bO 954)::(nat_lit 961,eO 956 1488 (top 104))::(nat_lit 962,bE "_law_rule" (top 104) bO 961)::(nat_lit 968,eO 963 1499 (top 105))::(nat_lit 969,bE "_law_rows" (top 105) bO 968)::(nat_lit 975,eO 970 1514 (top 106))::(nat_lit 976,bE "_law_tray" (top 106) bO 975)::(nat_lit 980,eO 977 1531 (top 107))::(nat_lit 981,bE "_law_room" (top 107) bO 980)::(nat_lit 987,eO 982 1537 (top 108))::(nat_lit 988,bE "_law_all" (top 108) bO 987)::(nat_lit 992,eO 989 1546 (top 109))::(nat_lit 993,bE "_law_told" (top 109) bO 992)::(nat_lit 997,eO 994 1552 (top 110))::(nat_lit 998,bE "_law_world" (top 110) bO 997)::(nat_lit 1014,eO 1009 1570 (top 113))::(nat_lit 1015,bE "_law_ats" (top 113) bO 1014)::(nat_lit 1019,eO 1016 1577 (top 114))::(nat_lit 1020,bE "_law_found" (top 114) bO 1019)::(nat_lit 1026,eO 1021 1583 (top 115))::(nat_lit 1027,bE "_law_come" (top 115) bO 1026)::(nat_lit 1033,eO 1028 1596 (top 116))::(nat_lit 1034,bE "_law_key_right" (top 116) bO 1033)::(nat_lit 1040,eO 1035 1611 (top 117))::(nat_lit 1041,bE "_law_right" (top 117) bO 1040)::(nat_lit 1047,eO 1042 1623 (top 118))::(nat_lit 1048,bE "law" (top 118) bO 1047)::[]
noncomputable def aag (P:Params):List Obj:=VP (bh (boot_o_0 P)::bh (boot_o_1 P)::bh (x2 P)::bh (x3 P)::bh (boot_o_4 P)::bh (boot_o_5 P)::bh (boot_o_6 P)::bh (boot_o_7 P)::bh (boot_o_8 P)::bh (boot_o_9 P)::bh (boot_o_10 P)::bh (oT #[])::bh (Eh ((1,0,20)::(5,0,27)::(7,0,40)::(9,0,52)::(11,0,64)::(13,0,76)::(15,0,88)::(17,0,100)::(28,0,120)::(30,0,127)::(32,0,134)::(34,0,141)::(36,0,148)::(38,0,155)::(41,0,162)::(44,0,169)::(46,0,176)::(55,0,184)::(61,0,191)::(66,0,198)::(71,0,205)::(75,0,212)::(82,0,219)::(84,0,226)::(86,0,231)::(92,0,236)::(94,0,241)::(96,0,246)::(98,0,253)::(103,0,258)::(107,0,265)::(109,0,270)::(113,0,275)::(115,0,282)::(119,0,289)::(121,0,296)::(127,0,304)::(134,0,309)::(136,0,314)::(138,0,322)::(143,0,329)::(148,0,350)::(155,0,371)::(158,0,376)::(160,0,383)::(207,0,495)::(210,0,500)::(212,0,507)::(221,0,512)::(223,0,517)::(228,0,522)::(230,0,527)::(236,0,534)::(242,0,541)::(245,0,548)::(248,0,555)::(254,0,562)::(259,0,569)::(265,0,574)::(267,0,581)::(271,0,588)::(281,0,593)::(284,0,601)::(288,0,610)::(296,0,618)::(301,0,626)::(303,0,632)::(310,0,639)::(386,0,809)::(393,0,814)::(400,0,819)::(402,0,824)::(404,0,829)::(406,0,834)::(410,0,841)::(463,0,898)::(472,0,905)::(478,0,912)::(482,0,919)::(484,0,926)::(493,0,933)::(500,0,940)::(504,0,947)::(508,0,954)::(515,0,961)::(521,0,968)::(532,0,975)::(543,0,980)::(557,0,987)::(562,0,992)::(567,0,997)::(583,0,1002)::(596,0,1007)::(599,0,1014)::(601,0,1019)::(611,0,1026)::(620,0,1033)::(630,0,1040)::(638,0,1047)::[]))::bh (sL "<module>" 182 1 11)::bh (sM 13 3 (.str "__main__" 164))::fc 187::dP (top 0) aae::bh (oT #[(.type "ValueError")])::bh 'm'::bh (iw (bY P "__module__" 203 'h'::bY P "__qualname__" 205 (.str "FallError" 204)::bY P "__firstlineno__" 207 (.int 5 206)::aT P "__static_attributes__" 208 29::[]) 4)::bh (oT #[])::bh (oN)::bh (sL "FallError" 198 5 25)::bh (sM 27 24 'h')::bh (oT #[])::bh (x30 P)::bh (x31 P)::bh (x32 P)::bh (uJ 31)::bh (iT "object.__init_subclass__" (.ref 31))::bh (oT #[(.ref 31)])::bh 'm'::bh (iw (bY P "__module__" 221 'h'::bY P "__qualname__" 223 (.str "NoKey" 222)::bY P "__firstlineno__" 225 (.int 7 224)::aT P "__static_attributes__" 226 42::[]) 4)::bh (oT #[])::bh (oN)::bh (sL "NoKey" 216 7 38)::bh (sM 40 37 'h')::bh (oT #[])::bh (x43 P)::bh (x44 P)::bh (uJ 44)::bh (iT "object.__init_subclass__" (.ref 44))::bh (oT #[(.ref 31)])::bh 'm'::bh (iw (bY P "__module__" 237 'h'::bY P "__qualname__" 239 (.str "NoStretch" 238)::bY P "__firstlineno__" 241 (.int 9 240)::aT P "__static_attributes__" 242 54::[]) 4)::bh (oT #[])::bh (oN)::bh (sL "NoStretch" 232 9 50)::bh (sM 52 49 'h')::bh (oT #[])::bh (x55 P)::bh (x56 P)::bh (uJ 56)::bh (iT "object.__init_subclass__" (.ref 56))::bh (oT #[(.ref 31)])::bh 'm'::bh (iw (bY P "__module__" 253 'h'::bY P "__qualname__" 255 (.str "NoRule" 254)::bY P "__firstlineno__" 257 (.int 11 256)::aT P "__static_attributes__" 258 66::[]) 4)::bh (oT #[])::bh (oN)::bh (sL "NoRule" 248 11 62)::bh (sM 64 61 'h')::bh (oT #[])::bh (x67 P)::bh (x68 P)::bh (uJ 68)::bh (iT "object.__init_subclass__" (.ref 68))::bh (oT #[(.ref 31)])::bh 'm'::bh (iw (bY P "__module__" 269 'h'::bY P "__qualname__" 271 (.str "NoMark" 270)::bY P "__firstlineno__" 273 (.int 13 272)::aT P "__static_attributes__" 274 78::[]) 4)::bh (oT #[])::bh (oN)::bh (sL "NoMark" 264 13 74)::bh (sM 76 73 'h')::bh (oT #[])::bh (x79 P)::bh (x80 P)::bh (uJ 80)::bh (iT "object.__init_subclass__" (.ref 80))::bh (oT #[(.ref 31)])::bh 'm'::bh (iw (bY P "__module__" 285 'h'::bY P "__qualname__" 287 (.str "NoMany" 286)::bY P "__firstlineno__" 289 (.int 15 288)::aT P "__static_attributes__" 290 90::[]) 4)::bh (oT #[])::bh (oN)::bh (sL "NoMany" 280 15 86)::bh (sM 88 85 'h')::bh (oT #[])::bh (x91 P)::bh (x92 P)::bh (uJ 92)::bh (iT "object.__init_subclass__" (.ref 92))::bh (oT #[(.ref 31)])::bh 'm'::bh (iw (bY P "__module__" 301 'h'::bY P "__qualname__" 303 (.str "NoImage" 302)::bY P "__firstlineno__" 305 (.int 17 304)::aT P "__init__" 313 108::aT P "__static_attributes__" 315 109::[]) 5)::bh (oT #[])::bh (Eh ((19,4,107)::[]))::bh (sL "NoImage" 296 17 98)::bh (sM 100 97 'h')::fc 306::eN (inClass (top 8) 0) "NoImage.__init__" aaf::bh (oT #[(.str "room" 314)])::bh (VR P)::bh (VS P)::bh (uJ 111)::bh (iT "object.__init_subclass__" (.ref 111))::bh (VT P)::fc 336::dP (top 16) mO::dP (top 17) mO::dP (top 18) mO::dP (top 19) mO::dP (top 20) mO::dP (top 21) mO::dP (top 22) mO::dP (top 23) mO::dP (top 24) mO::bh (oT #[(.str "gone" 410)])::fc 412::dP (top 27) B5::dP (top 28) B5::dP (top 29) B5::dP (top 30) B5::fc 451::dP (top 32) Ei::dP (top 33) Ei::dP (top 34) Ei::dP (top 35) Ei::fc 486::dP (top 37) jy::dP (top 38) jy::dP (top 39) jy::dP (top 40) jy::dP (top 41) jy::dP (top 42) jy::dP (top 43) jy::dP (top 44) jy::dP (top 45) jy::dP (top 46) jy::dP (top 47) jy::bh (iw (bY P "at" 568 .none::[]) 1)::fc 569::IW (top 49) (.ref 298) VQ::fc 582::dP (top 51) IX::dP (top 52) IX::bh (iw (bY P "at" 594 .none::[]) 1)::fc 595::IW (top 53) (.ref 316) IX::bh (oT #[])::bh 'm'::bh (iw (bY P "__module__" 615 (.str "notefall.rooms" 606)::bY P "__qualname__" 617 (.str "Leaf" 616)::bY P "__firstlineno__" 619 (.int 143 618)::aT P "__init__" 628 337::aT P "__static_attributes__" 631 338::[]) 5)::bh (oT #[])::bh (Eh ((145,4,336)::[]))::bh (sL "Leaf" 610 143 327)::bh (sM 329 326 (.str "notefall.rooms" 606))::fc 620::eN (inClass (top 55) 0) "Leaf.__init__" iJ::bh (oT #[(.str "number" 629),(.str "rows" 630)])::bh (VU P)::bh (VW P)::bh (VX P)::bh (VY P)::bh (uJ 340)::bh (iT "object.__init_subclass__" (.ref 340))::bh (oT #[])::bh 'm'::bh (iw (bY P "__module__" 646 (.str "notefall.rooms" 606)::bY P "__qualname__" 648 (.str "Inner" 647)::bY P "__firstlineno__" 650 (.int 148 649)::aT P "__init__" 661 358::aT P "__static_attributes__" 666 359::[]) 5)::bh (oT #[])::bh (Eh ((150,4,357)::[]))::bh (sL "Inner" 641 148 348)::bh (sM 350 347 (.str "notefall.rooms" 606))::fc 651::eN (inClass (top 56) 0) "Inner.__init__" iJ::bh (oT #[(.str "children" 662),(.str "number" 663),(.str "pivots" 664),(.str "tray" 665)])::bh (VZ P)::bh (V0 P)::bh (V1 P)::bh (V2 P)::bh (uJ 361)::bh (iT "object.__init_subclass__" (.ref 361))::fc 674::dP (top 57) iJ::dP (top 58) iJ::bh (oT #[])::bh 'm'::bh (iw (bY P "__module__" 697 (.str "notefall.rooms" 606)::bY P "__qualname__" 699 (.str "House" 698)::bY P "__firstlineno__" 701 (.int 160 700)::aT P "__init__" 712 391::aT P "next_number" 719 398::aT P "lay" 727 405::aT P "take_in" 738 412::aT P "drain" 748 419::aT P "pour_into" 759 426::aT P "clear_out" 769 433::aT P "is_too_great" 777 440::aT P "mend" 788 447::aT P "part_child" 799 454::aT P "leaf_parts" 807 461::aT P "inner_parts" 817 468::aT P "part_numbers" 826 475::aT P "mend_top" 833 482::aT P "__static_attributes__" 839 483::[]) 18)::bh (oT #[])::bh (Eh ((162,4,390)::(169,4,397)::(172,4,404)::(175,4,411)::(178,4,418)::(181,4,425)::(184,4,432)::(187,4,439)::(190,4,446)::(193,4,453)::(196,4,460)::(199,4,467)::(202,4,474)::(205,4,481)::[]))::bh (sL "House" 692 160 381)::bh (sM 383 380 (.str "notefall.rooms" 606))::fc 702::eN (inClass (top 59) 0) "House.__init__" iJ::eN (inClass (top 59) 1) "House.next_number" iJ::eN (inClass (top 59) 2) "House.lay" iJ::eN (inClass (top 59) 3) "House.take_in" iJ::eN (inClass (top 59) 4) "House.drain" iJ::eN (inClass (top 59) 5) "House.pour_into" iJ::eN (inClass (top 59) 6) "House.clear_out" iJ::eN (inClass (top 59) 7) "House.is_too_great" iJ::eN (inClass (top 59) 8) "House.mend" iJ::eN (inClass (top 59) 9) "House.part_child" iJ::eN (inClass (top 59) 10) "House.leaf_parts" iJ::eN (inClass (top 59) 11) "House.inner_parts" iJ::eN (inClass (top 59) 12) "House.part_numbers" iJ::eN (inClass (top 59) 13) "House.mend_top" iJ::bh (oT #[(.str "fresh" 834),(.str "kept" 835),(.str "rule" 836),(.str "top" 837),(.str "trail" 838)])::bh (V3 P)::bh (V4 P)::bh (V5 P)::bh (V6 P)::bh (uJ 485)::bh (iT "object.__init_subclass__" (.ref 485))::fc 847::dP (top 60) iJ::fc 856::dP (top 62) qP::dP (top 63) qP::dP (top 64) qP::dP (top 65) qP::dP (top 66) qP::dP (top 67) qP::dP (top 68) qP::fc 909::dP (top 70) fW::dP (top 71) fW::dP (top 72) fW::dP (top 73) fW::dP (top 74) fW::dP (top 75) fW::dP (top 76) fW::dP (top 77) fW::dP (top 78) fW::bh (iw (bY P "at" 994 .none::[]) 1)::fc 995::IW (top 79) (.ref 595) fW::bh (oT #[(.int 0 1004),(.int 1000000000000 323)])::bh (V7 P)::fc 1008::aad (top 80) (.ref 603) (.ref 604) fW::bh (iw (bY P "at" 1021 .none::[]) 1)::fc 1022::IW (top 81) (.ref 612) fW::bh (iw (bY P "at" 1032 .none::[]) 1)::fc 1033::IW (top 82) (.ref 620) fW::bh (iw (bY P "at" 1043 .none::[]) 1)::fc 1044::IW (top 83) (.ref 628) fW::bh (oT #[])::bh 'm'::bh (iw (bY P "__module__" 1059 (.str "notefall.store" 1050)::bY P "__qualname__" 1061 (.str "Store" 1060)::bY P "__firstlineno__" 1063 (.int 310 1062)::aT P "__init__" 1071 647::aT P "check_free" 1078 654::aT P "ready_deed" 1086 661::aT P "do" 1094 668::aT P "marks" 1101 675::aT P "read" 1111 683::aT P "stretch" 1127 692::aT P "__len__" 1134 699::aT P "above" 1144 707::aT P "below" 1154 715::aT P "many" 1165 723::aT P "total" 1176 731::aT P "unlike" 1185 738::aT P "way" 1195 746::aT P "pour" 1204 753::aT P "press" 1213 760::aT P "squeeze" 1220 767::aT P "each" 1234 775::aT P "steps" 1241 782::aT P "twin" 1248 789::aT P "image" 1255 796::aT P "__static_attributes__" 1260 797::[]) 25)::bh (oT #[])::bh (Eh ((312,4,646)::(320,4,653)::(323,4,660)::(326,4,667)::(329,4,674)::(332,4,682)::(335,4,691)::(338,4,698)::(341,4,706)::(344,4,714)::(347,4,722)::(350,4,730)::(353,4,737)::(356,4,745)::(359,4,752)::(362,4,759)::(365,4,766)::(368,4,774)::(378,4,781)::(381,4,788)::(384,4,795)::[]))::bh (sL "Store" 1054 310 637)::bh (sM 639 636 (.str "notefall.store" 1050))::fc 1064::eN (inClass (top 85) 0) "Store.__init__" dj::eN (inClass (top 85) 1) "Store.check_free" dj::eN (inClass (top 85) 2) "Store.ready_deed" dj::eN (inClass (top 85) 3) "Store.do" dj::eN (inClass (top 85) 4) "Store.marks" dj::bh (iw (bY P "at" 1102 .none::[]) 1)::fc 1103::zb (inClass (top 85) 5) "Store.read" (.ref 676) dj::bh (oT #[(.int 0 1112),(.int 1000000000000 323)])::bh (V8 P)::fc 1116::vz (inClass (top 85) 6) "Store.stretch" (.ref 684) (.ref 685) dj::eN (inClass (top 85) 7) "Store.__len__" dj::bh (iw (bY P "at" 1135 .none::[]) 1)::fc 1136::zb (inClass (top 85) 8) "Store.above" (.ref 700) dj::bh (iw (bY P "at" 1145 .none::[]) 1)::fc 1146::zb (inClass (top 85) 9) "Store.below" (.ref 708) dj::bh (iw (bY P "at" 1155 .none::[]) 1)::fc 1156::zb (inClass (top 85) 10) "Store.many" (.ref 716) dj::bh (iw (bY P "at" 1166 .none::[]) 1)::fc 1167::zb (inClass (top 85) 11) "Store.total" (.ref 724) dj::eN (inClass (top 85) 12) "Store.unlike" dj::bh (iw (bY P "at" 1186 .none::[]) 1)::fc 1187::zb (inClass (top 85) 13) "Store.way" (.ref 739) dj::eN (inClass (top 85) 14) "Store.pour" dj::eN (inClass (top 85) 15) "Store.press" dj::eN (inClass (top 85) 16) "Store.squeeze" dj::bh (oT #[(.int 0 1221),(.int 1000000000000 323)])::fc 1222::vz (inClass (top 85) 17) "Store.each" (.ref 768) .none dj::eN (inClass (top 85) 18) "Store.steps" dj::eN (inClass (top 85) 19) "Store.twin" dj::eN (inClass (top 85) 20) "Store.image" dj::bh (oT #[(.str "house" 1256),(.str "last" 1257),(.str "rule" 1258),(.str "runs" 1259)])::bh (V9 P)::bh (Wa P)::bh (Wb P)::bh (Wc P)::bh (uJ 799)::bh (iT "object.__init_subclass__" (.ref 799))::fc 1268::dP (top 86) dj::fc 1283::dP (top 88) dm::dP (top 89) dm::dP (top 90) dm::dP (top 91) dm::dP (top 92) dm::bh (oT #[])::bh 'm'::bh (iw (bY P "__module__" 1320 (.str "notefall.images" 1281)::bY P "__qualname__" 1322 (.str "Survey" 1321)::bY P "__firstlineno__" 1324 (.int 410 1323)::aT P "__init__" 1334 849::aT P "takes" 1340 854::aT P "may_have" 1349 861::aT P "is_leaf_sound" 1355 866::aT P "has_floors" 1363 873::aT P "is_inner_sound" 1383 880::aT P "await_children" 1389 885::aT P "__static_attributes__" 1396 886::[]) 11)::bh (oT #[])::bh (Eh ((412,4,848)::(420,4,853)::(435,4,860)::(438,4,865)::(445,4,872)::(450,4,879)::(459,4,884)::[]))::bh (sL "Survey" 1315 410 839)::bh (sM 841 838 (.str "notefall.images" 1281))::fc 1325::eN (inClass (top 93) 0) "Survey.__init__" dm::eN (inClass (top 93) 1) "Survey.takes" dm::eN (inClass (top 93) 2) "Survey.may_have" dm::eN (inClass (top 93) 3) "Survey.is_leaf_sound" dm::eN (inClass (top 93) 4) "Survey.has_floors" dm::eN (inClass (top 93) 5) "Survey.is_inner_sound" dm::eN (inClass (top 93) 6) "Survey.await_children" dm::bh (oT #[(.str "due" 1390),(.str "floors" 1391),(.str "fresh" 1392),(.str "known" 1393),(.str "last" 1394),(.str "rule" 1395)])::bh (Wd P)::bh (We P)::bh (Wf P)::bh (Wg P)::bh (uJ 888)::bh (iT "object.__init_subclass__" (.ref 888))::fc 1404::dP (top 94) dm::dP (top 95) dm::fc 1429::dP (top 97) bO::dP (top 98) bO::dP (top 99) bO::dP (top 100) bO::dP (top 101) bO::dP (top 102) bO::dP (top 103) bO::dP (top 104) bO::dP (top 105) bO::dP (top 106) bO::dP (top 107) bO::dP (top 108) bO::dP (top 109) bO::dP (top 110) bO::dP (top 111) bO::dP (top 112) bO::dP (top 113) bO::dP (top 114) bO::dP (top 115) bO::dP (top 116) bO::dP (top 117) bO::dP (top 118) bO::[]) 0 0
noncomputable def Wh:List Addr:=2::3::30::31::32::43::44::55::56::67::68::79::80::91::92::110::111::114::120::121::127::128::134::135::141::142::148::149::155::156::169::170::176::177::178::184::185::191::192::198::199::205::206::212::213::219::220::226::227::236::237::241::242::246::247::253::254::258::259::265::266::270::271::275::276::282::283::289::290::296::297::298::304::305::309::310::314::315::316::322::323::336::337::339::340::341::342::357::358::360::361::362::363::371::372::376::377::390::391::484::485::486::487::495::496::500::501::507::508::512::513::517::518::522::523::527::528::534::535::541::542::555::556::562::563::569::570::595::601::602::604::612::620::628::632::633::646::647::674::675::676::682::683::685::700::708::716::724::739::745::746::795::796::798::799::800::801::809::810::814::815::819::820::824::825::829::830::834::835::848::849::853::854::860::861::865::866::872::873::879::880::884::885::887::888::889::890::898::899::905::906::912::913::919::920::926::927::933::934::940::941::947::948::954::955::961::962::968::969::975::976::980::981::987::988::992::993::997::998::1014::1015::1019::1020::1026::1027::1033::1034::1040::1041::1047::1048::[]
noncomputable def hQ:Program:={ PySem.Challenge.pw_notefall_k56_the_way_of_a_value with main:={ PySem.Challenge.pw_notefall_k56_the_way_of_a_value.main with body:=top 0::top 2::top 3::top 4::top 5::top 6::top 7::top 8::top 10::top 11::top 12::top 13::top 14::top 15::top 16::top 17::top 18::top 19::top 20::top 21::top 22::top 23::top 24::top 26::top 27::top 28::top 29::top 30::top 32::top 33::top 34::top 35::top 37::top 38::top 39::top 40::top 41::top 42::top 43::top 44::top 45::top 46::top 47::top 51::top 52::top 55::top 56::top 57::top 58::top 59::top 60::top 62::top 63::top 64::top 65::top 66::top 67::top 68::top 70::top 71::top 72::top 73::top 74::top 75::top 76::top 77::top 78::top 85::top 86::top 88::top 89::top 90::top 91::top 92::top 93::top 94::top 95::top 97::top 98::top 99::top 100::top 101::top 102::top 103::top 104::top 105::top 106::top 107::top 108::top 109::top 110::top 111::top 112::top 113::top 114::top 115::top 116::top 117::top 118::[] } }
noncomputable def Gj:List (Str×PySem.W.WData):=[((Str.ofString "END"),PySem.W.WData.int 1000000000000)]
noncomputable def B7:List Str:=[(Str.ofString "END"),(Str.ofString "value_of"),(Str.ofString "seen"),(Str.ofString "read_key"),(Str.ofString "read_stretch"),(Str.ofString "read_above"),(Str.ofString "read_many"),(Str.ofString "read_way"),(Str.ofString "Store")]
noncomputable def Y6 (s:Shared):List (Option Obj):=Wh.map s.heap.get?
def Y7 (K:Params->Frag)(w:World):List (Option Obj):=(K w.params).map λp=>some p.2
theorem hE (P:Params):Wh=(hK P).map (·.1):=by kernel_rfl
abbrev IY (q:Program)(lv:List (Str×PySem.W.WData))(s:Shared):Bool:=xlAt q lv s&&recOk (PySem.W.RowW.records (PySem.W.OpenRow.toRowW PySem.Challenge.rw_notefall_k56_the_way_of_a_value.row)) s
noncomputable def hAo (P:Params):List Obj:=
(boot_o_0 P)::
(boot_o_1 P)::
(boot_o_2 P)::
(boot_o_3 P)::
(boot_o_4 P)::
(boot_o_5 P)::
(boot_o_6 P)::
(boot_o_7 P)::
(boot_o_8 P)::
(boot_o_9 P)::
(boot_o_10 P)::
(⟨(.type "tuple"),none,(.seq #[] 0),#[]⟩)::
(⟨.none,none,(.fields #[]),#[]⟩)::
(⟨(.type "code"),none,(.fields #[(.str "<module>" 182),(.str "<module>" 183),(.str "/claim/cut.py" 184),(.int 1 0),(.int 0 0),(.int 0 0),(.int 0 0),(.int 0 0),(.ref 11),(.bool false),(.int 181 0),(.ref 12),.none,.none,.none,.none,(.int 185 0),(.int 1 0),(.str "/claim/cut.py" 186)]),#[]⟩)::
(⟨(.type "frame"),none,.plain,#[(some (.ref 13)),(some (.ref 3)),(some (.ref 3)),none,(some (.str "__main__" 164)),none,(some (.ref 0))]⟩)::[]
noncomputable def SH:List Obj->Nat->BT->BT
 | [],_,t=>t
 | o::r,n,t=>SH r (n + 1) (t.ins n o)
noncomputable def hTr (P:Params):BT:=SH (aag P) 0 .nil
noncomputable def OP:Env:={ scope:=PySem.Challenge.pw_notefall_k56_the_way_of_a_value.main.scope,locals:=mainNs,globals:=mainNs,cells:=[],code:=(.ref 13),frame:=some 14 }
noncomputable abbrev SI:Code:=Code.body (behindTheImports PySem.Challenge.pw_notefall_k56_the_way_of_a_value) OP
noncomputable abbrev K4 (P:Params)(os:OsState):SharedT:=⟨SH (hAo P) 0 .nil,15,{},Array.mk [],⟨0,0,0,0⟩,187,os⟩
noncomputable abbrev hSm (P:Params)(os:OsState):SharedT:=⟨hTr P,1049,{},Array.mk [],⟨0,0,0,0⟩,1632,os⟩
theorem aah (w:World)(os:OsState):topGo PySem.W.Fast.tw14364793385576792824 PySem.Challenge.pw_notefall_k56_the_way_of_a_value w 11 (some (.ref 6)) 12 ⟨boot_heap w.params,Array.mk [],boot_drawn,boot_toks,os⟩ (topStub PySem.Challenge.pw_notefall_k56_the_way_of_a_value)=some ((K4 w.params os).abs,⟨denote PySem.W.Fast.tw14364793385576792824 SI,SI,⟨0,0,0,0⟩,[topFrame ⟨0,0,0,0⟩]⟩):=by kernel_rfl
theorem aai (w:World)(os:OsState):segRun PySem.W.Fast.tw14364793385576792824 PySem.Challenge.pw_notefall_k56_the_way_of_a_value w 11 (some (.ref 6)) 1 1 (K4 w.params os).abs (blockOf (behindTheImports PySem.Challenge.pw_notefall_k56_the_way_of_a_value) OP SI ⟨0,0,0,0⟩ [topFrame ⟨0,0,0,0⟩])=some (.next,(K4 w.params os).abs,SI,⟨0,0,0,0⟩):=by kernel_rfl
noncomputable abbrev zc (P:Params):Heap:=absHeap (hTr P) 1049 {}
theorem Wi (w:World)(os:OsState):PySem.W.Fast.tw10110043849684766642 PySem.W.Fast.tw14364793385576792824 PySem.Challenge.pw_notefall_k56_the_way_of_a_value w 11 (some (.ref 6)) 1 6808 (K4 w.params os) ⟨(PySem.W.Fast.tw12563942051412417395 (behindTheImports PySem.Challenge.pw_notefall_k56_the_way_of_a_value) OP).wrap doneF deadEnd id id,SI,⟨0,0,0,0⟩,[topFrame ⟨0,0,0,0⟩]⟩=some (.next,hSm w.params os,SI,⟨638,0,642,15⟩):=by kernel_rfl
theorem aaj (w:World)(os:OsState):topRun PySem.W.Fast.tw14364793385576792824 PySem.Challenge.pw_notefall_k56_the_way_of_a_value w 11 (some (.ref 6)) 2 (hSm w.params os).abs (restOf [] OP SI ⟨638,0,642,15⟩ [topFrame ⟨0,0,0,0⟩])=some ⟨zc w.params,Array.mk [],⟨0,0,0,0⟩,1632,os⟩:=by kernel_rfl
theorem SJ {F F':(String->Option Builtin)->Program->World->Nat->Option Value->Nat->Nat->SharedT->Thread->Option (Flow×SharedT×Code×Pos)}{G G':List Stmt->Env->Sem Flow}{tb:String->Option Builtin}{m n:Nat}{S:SharedT}{l:List Stmt}{c:Code}{pos:Pos}{B:List Frame}{r:Option (Flow×SharedT×Code×Pos)}
   (h:F' tb p w m ann 1 n S ⟨(G' l env).wrap doneF deadEnd id id,c,pos,B⟩=r) (eF:F=F') (eG:G=G'):F tb p w m ann 1 n S ⟨(G l env).wrap doneF deadEnd id id,c,pos,B⟩=r:=by
 subst eF eG;exact h
theorem IZ {tb:String->Option Builtin}{m n0 n1 n2 n3:Nat}{q:Pos}{b:List Stmt}{S0 Sa R:Shared}{SA SM:SharedT}{Wj:Thread}{Wk Wn jz:Pos}(ea:SA.abs=Sa)
   (h1:topGo tb p w m ann n0 S0 Wj=some (Sa,⟨denote tb (Code.body b env),Code.body b env,Wk,[topFrame q]⟩))
   (h2:segRun tb p w m ann 1 n1 Sa (blockOf b env (Code.body b env) Wk [topFrame q])=some (.next,Sa,Code.body b env,Wn))
   (h3:segRunT tb p w m ann 1 n2 SA (piecesOf b env (Code.body b env) Wn [topFrame q])=some (.next,SM,Code.body b env,jz))
   (h4:topRun tb p w m ann n3 SM.abs (restOf [] env (Code.body b env) jz [topFrame q])=some R):topRun tb p w m ann (n0 + (n1 + (n2 + n3))) S0 Wj=some R:=by
 subst ea;refine PySem.W.go_top h1 (PySem.W.piece_block h2 ?_);have h:=PySem.W.piece_app (rest:=[]) (PySem.W.segRun_of h3) h4;rw[List.append_nil]at h;exact h
theorem aak (w:World)(os:OsState):topRun PySem.W.Fast.tw14364793385576792824 PySem.Challenge.pw_notefall_k56_the_way_of_a_value w 11 (some (.ref 6)) (12 + (1 + (6808 + 2))) ⟨boot_heap w.params,Array.mk [],boot_drawn,boot_toks,os⟩ (topStub PySem.Challenge.pw_notefall_k56_the_way_of_a_value)=some ⟨zc w.params,Array.mk [],⟨0,0,0,0⟩,1632,os⟩:=
 IZ rfl (aah w os) (aai w os) (SJ (Wi w os) PySem.W.Fast.te10110043849684766642 PySem.W.Fast.te12563942051412417395) (aaj w os)
noncomputable abbrev hGa (p:Program)(im:List Stmt->List Str)(w:World)(os:OsState):Bool:=staticsOk (im p.main.body) (boot_heap w.params) (zc w.params)&&namesBound p (zc w.params)&&gensDone ⟨zc w.params,Array.mk [],⟨0,0,0,0⟩,1632,os⟩&&laidKept (boot_heap w.params) (zc w.params)
abbrev hG {t:Type}(p q:Program)(lo:List Str)(lv:List (Str×PySem.W.WData))(K:Params->Frag)(sn:Program->List Str->List Str->(Shared->Bool)->Bool->Shared->t)(gd:Program->List Str->t)(im:List Stmt->List Str)(w:World):Prop:=
 (λos:OsState=>(hGa p im w os,sn q lo (im p.main.body) (IY q lv) true ⟨zc w.params,Array.mk [],⟨0,0,0,0⟩,1632,os⟩,Y6 ⟨zc w.params,Array.mk [],⟨0,0,0,0⟩,1632,os⟩))=λ_=>(true,gd q lo,Y7 K w)
theorem Wo {t:Type}{p' q q':Program}{lo jx:List Str}{lv lv':List (Str×PySem.W.WData)}{K K':Params->Frag}{sn sn':Program->List Str->List Str->(Shared->Bool)->Bool->Shared->t}{gd:Program->List Str->t}{im im':List Stmt->List Str}
   (h:hG p' q' jx lv' K' sn' gd im' w) (e2:p=p') (e3:q=q') (e4:lo=jx) (e5:lv=lv') (e6:K=K') (e7:sn=sn') (e8:im=im'):hG p q lo lv K sn gd im w:=by
 subst e2 e3 e4 e5 e6 e7 e8;exact h
theorem hLa (w:World)(os:OsState):hGa PySem.Challenge.pw_notefall_k56_the_way_of_a_value PySem.W.Fast.tw5923862056798008813 w os=true:=by kernel_rfl
theorem hB0 (w:World)(os:OsState):'a'.1=PyProof.Rows.expectedOf hQ:=by kernel_rfl
theorem hB1 (w:World)(os:OsState):'a'.2.1=PySem.bltViewBooted:=by kernel_rfl
theorem hB2 (w:World)(os:OsState):'a'.2.2.1=true:=by kernel_rfl
theorem hB3 (w:World)(os:OsState):'a'.2.2.2.1=true:=by kernel_rfl
theorem hB4 (w:World)(os:OsState):'a'.2.2.2.2.1=PySem.pinGoodD (PyProof.Rows.drecsOf hQ):=by kernel_rfl
theorem hB5 (w:World)(os:OsState):'a'.2.2.2.2.2.1=PyProof.Rows.plainGoodE hQ (looseW hQ B7):=by kernel_rfl
theorem hB6 (w:World)(os:OsState):'a'.2.2.2.2.2.2.1=PyProof.Rows.plainGoodD hQ B7:=by kernel_rfl
theorem hB7 (w:World)(os:OsState):'a'.2.2.2.2.2.2.2.1=wideGood hQ:=by kernel_rfl
theorem hB8 (w:World)(os:OsState):'a'.2.2.2.2.2.2.2.2=clsGoodW hQ B7:=by kernel_rfl
theorem aal {A B C D E F G H I:Type}{x:A×B×C×D×E×F×G×H×I}{a b c d e f g h i}(h0:x.1=a)(h1:x.2.1=b)(h2:x.2.2.1=c)(h3:x.2.2.2.1=d)(h4:x.2.2.2.2.1=e)(h5:x.2.2.2.2.2.1=f)(h6:x.2.2.2.2.2.2.1=g)(h7:x.2.2.2.2.2.2.2.1=h)(h8:x.2.2.2.2.2.2.2.2=i):x=(a,b,c,d,e,f,g,h,i):=by subst h0 h1 h2 h3 h4 h5 h6 h7 h8;rfl
theorem hLb (w:World)(os:OsState):'a'=openGood hQ B7:=aal (hB0 w os) (hB1 w os) (hB2 w os) (hB3 w os) (hB4 w os) (hB5 w os) (hB6 w os) (hB7 w os) (hB8 w os)
theorem hLc (w:World)(os:OsState):Y6 ⟨zc w.params,Array.mk [],⟨0,0,0,0⟩,1632,os⟩=Y7 hK w:=by kernel_rfl
theorem hLk (w:World):hG PySem.Challenge.pw_notefall_k56_the_way_of_a_value hQ B7 Gj hK PySem.W.Fast.tw4187177175401517315 openGood PySem.W.Fast.tw5923862056798008813 w:=funext λos=>congr (congrArg Prod.mk (hLa w os)) (congr (congrArg Prod.mk (hLb w os)) (hLc w os))
theorem Wq {tb tb':String->Option Builtin}{p':Program}{M:Nat}{S R:World->OsState->Shared}(h:∀w os,topRun tb' p' w 11 (some (.ref 6)) M (S w os) (topStub p')=some (R w os))(e1:tb=tb')(e2:p=p'):∀w os,topRun tb p w 11 (some (.ref 6)) M (S w os) (topStub p)=some (R w os):=by
 subst e1 e2;exact h
theorem hSz (w:World):((boot_heap w.params).isNs mainGlobals&&(Array.mk []:Array GenState).size==0,(boot_heap w.params).objs.size,(boot_heap w.params).nsMap mainGlobals "__annotations__")=(true,11,(some (.ref 6))):=by kernel_rfl
theorem hl:LeftO PySem.Challenge.pw_notefall_k56_the_way_of_a_value hQ B7 (IY hQ Gj) Y6 (Y7 hK) 13722:=
 PySem.W.LeftO.of_pieces (H₁:=zc) (gs₁:=Array.mk []) (d₁:=⟨0,0,0,0⟩) (k₁:=1632) (PySem.W.boot_open (by kernel_rfl) X9 (λs=>by kernel_rfl)) hSz (Wq (M:=(12 + (1 + (6808 + 2)))) aak PySem.W.Fast.te14364793385576792824 rfl) X9
   (λw=>Wo (hLk w) rfl rfl rfl rfl rfl PySem.W.Fast.te4187177175401517315 PySem.W.Fast.te5923862056798008813)
end eV
namespace L2
open PySem PySem.Spec PyProof.Rows
variable{C b dx it:Addr}{A:Around}{op:CmpOp}{e tg:Expr}{fd:FuncData}{base h h':Heap}{g:Int->Int->Int}{pins:List (Addr×Obj)}{kw:List (Str×Value)}{ch fp:List Addr}{outer:List Env}{es:List Expr}{body:List Stmt}{N ps:List Str}{us:List Value}{M:Model}{i n t':Nat}{o:Obj}{pos pos':Pos}{P prog:Program}{scope:Scope}{pl:Sem Bool}{s s':Shared}{m name qual x:Str}{mg:Str->Option Value}{α κ:Type}{u:Value}{E Q:Value->Shared->Prop}{f:Value->Value->Sem Value}{w:World}
abbrev Key:=Sum Int Str
def zd:Key->Value->Bool
 | .inl k,v=>Value.isInt k v
 | .inr x,v=>Value.isStrOf x v
def aam (w:World):Key->Int
 | .inl k=>hashInt k
 | .inr x=>hashStr w x
theorem cV:∀{k:Key}{v:Value},zd k v=true->(∃i t,k=Sum.inl i/\v=Value.int i t)∨(∃x t,k=Sum.inr x/\v=Value.str x t)
 | .inl i,v,h=>by
   obtain⟨t,e⟩:=Value.isInt_shape (k:=i) (v:=v) h;exact .inl ⟨i,t,rfl,e⟩
 | .inr x,v,h=>by
   obtain⟨t,e⟩:=Value.isStrOf_shape (x:=x) (v:=v) h;exact .inr ⟨x,t,rfl,e⟩
theorem Ja (i:Int)(t:Tok):zd (.inl i) (.int i t)=true:=by simp[zd,Value.isInt]
theorem Jb (x:Str)(t:Tok):zd (.inr x) (.str x t)=true:=by simp[zd,Value.isStrOf]
theorem SK (a b:Int):decide ((Sum.inl a:Key)=Sum.inl b)=(a==b):=by
 by_cases e:a=b
 . subst e;simp
 . have h:¬ (Sum.inl a:Key)=Sum.inl b:=λq=>e (Sum.inl.inj q);rw[Kk h];exact(beq_eq_false_iff_ne.mpr e).symm
theorem SN (a b:Str):decide ((Sum.inr a:Key)=Sum.inr b)=decide (a=b):=by
 by_cases e:a=b
 . subst e;simp
 . have h:¬ (Sum.inr a:Key)=Sum.inr b:=λq=>e (Sum.inr.inj q);rw[Kk h,Kk e]
theorem SO (a:Int)(b:Str):decide ((Sum.inl a:Key)=Sum.inr b)=false:=Kk (λq=>nomatch q)
theorem SQ (a:Str)(b:Int):decide ((Sum.inr a:Key)=Sum.inl b)=false:=Kk (λq=>nomatch q)
def cQ (prog:Program)(w:World):PySem.KeyKind prog w Key where
 is:=zd
 hash:=aam w
 inj:=λv a b ha hb=>by
   rcases cV ha with ⟨i,t,rfl,rfl⟩ | ⟨x,t,rfl,rfl⟩
   . rcases cV hb with ⟨j,u,rfl,e⟩ | ⟨y,u,rfl,e⟩
     . injection e with e1 _;rw[e1]
     . exact nomatch e
   . rcases cV hb with ⟨j,u,rfl,e⟩ | ⟨y,u,rfl,e⟩
     . exact nomatch e
     . injection e with e1 _;rw[e1]
 byValue:=λk v h=>by
   rcases cV h with ⟨i,t,rfl,rfl⟩ | ⟨x,t,rfl,rfl⟩ <;> rfl
 pyHash:=λhv h=>by
   rcases cV hv with ⟨i,t,rfl,rfl⟩ | ⟨x,t,rfl,rfl⟩
   . exact wpAny_pyHash_int h
   . exact wpAny_pyHash_str h
 eqBool:=λhu hv h=>by
   rcases cV hu with ⟨i,t,rfl,rfl⟩ | ⟨x,t,rfl,rfl⟩
   . rcases cV hv with ⟨j,u,rfl,rfl⟩ | ⟨y,u,rfl,rfl⟩
     . rw[SK]at h;exact wpAny_eqBool_int h
     . rw[SO]at h;exact SeqAt.EqAt.int_str i t y u _ _ _ _ h
   . rcases cV hv with ⟨j,u,rfl,rfl⟩ | ⟨y,u,rfl,rfl⟩
     . rw[SQ]at h;exact SeqAt.EqAt.str_int x t j u _ _ _ _ h
     . rw[SN]at h;exact wpAny_eqBool_str h
 «strs»:=λk x t v h=>by
   rcases cV h with ⟨i,u,rfl,e⟩ | ⟨y,u,rfl,e⟩
   . exact nomatch e
   . injection e with e1 _;subst e1;cases v <;> rfl
theorem B8 (prog:Program)(w:World)(i:Int)(t:Tok):(cQ prog w).is (.inl i) (.int i t)=true:=Ja i t
theorem B9 (prog:Program)(w:World)(x:Str)(t:Tok):(cQ prog w).is (.inr x) (.str x t)=true:=Jb x t
inductive V where
 | bS | bl (b:Bool) | int (i:Int) | str (x:Str) | Gk (b:Array UInt8) | SR (b:UInt64) | ref (a:Addr) | ty (n:String)
 deriving DecidableEq
def RelV:V->Value->Prop
 | .bS,u=>u=Value.none
 | .bl b,u=>u=Value.bool b
 | .int i,u=>∃t,u=Value.int i t
 | .str x,u=>∃t,u=Value.str x t
 | .Gk b,u=>∃t,u=Value.bytes b t
 | .SR b,u=>∃t,u=Value.float b t
 | .ref a,u=>u=Value.ref a
 | .ty n,u=>u=Value.type n
abbrev Vals:List V->List Value->Prop:=Paired RelV
theorem Vals.length {xs:List V}(r:Vals xs us):xs.length=us.length:=Ap r
theorem Vals.get:∀{xs:List V}{us:List Value}{i:Nat}{x:V},Vals xs us->xs[i]?=some x->∃u,us[i]?=some u/\RelV x u:=by
 intro xs us i x h;induction h generalizing i with
 | nil=>intro e;cases e
 | cons r t ih=>
   intro e;cases i with
   | zero=>cases e;exact⟨_,rfl,r⟩
   | succ i=>exact ih (i:=i) e
theorem Vals.set {x:V}(r:RelV x u):∀{xs:List V}{us:List Value}(i:Nat),Vals xs us->Vals (xs.set i x) (us.set i u):=by
 intro xs us i h;induction h generalizing i with
 | nil=>exact .nil
 | cons q t ih=>
   cases i with
   | zero=>exact .cons r t
   | succ i=>exact .cons q (ih i)
theorem Vals.append:∀{xs ys:List V}{us ws:List Value},Vals xs us->Vals ys ws->Vals (xs++ys) (us++ws):=by
 intro xs ys us ws h s;induction h with
 | nil=>exact s
 | cons r t ih=>exact .cons r ih
theorem Vals.take:∀{xs:List V}{us:List Value}(n:Nat),Vals xs us->Vals (xs.take n) (us.take n):=by
 intro xs us n h;induction h generalizing n with
 | nil=>cases n <;> exact .nil
 | cons r t ih=>
   cases n with
   | zero=>exact .nil
   | succ n=>exact .cons r (ih n)
theorem Vals.drop:∀{xs:List V}{us:List Value}(n:Nat),Vals xs us->Vals (xs.drop n) (us.drop n):=by
 intro xs us n h;induction h generalizing n with
 | nil=>cases n <;> exact .nil
 | cons r t ih=>
   cases n with
   | zero=>exact .cons r t
   | succ n=>exact ih n
def pB:Option V->Option Value->Prop
 | some v,some u=>RelV v u
 | none,none=>True
 | _,_=>False
def KV :List (κ×V)->List (κ×Value)->Prop:=Paired λ(p:κ×V) (q:κ×Value)=>p.1=q.1/\RelV p.2 q.2
def kV:Key->V
 | .inl i=>.int i
 | .inr x=>.str x
inductive HO where
 | lst (xs:List V)
 | tup (xs:List V)
 | dK (aB:List (Key×V)) | dT (aB:List (List Key×V))
 | set (S:Int->Bool) (n:Nat)
 | ins (C dx:Addr) (fs:List (Str×V))
 | own (x:Addr)
 | xd (fs:List (Str×V))
 | met (f x:Addr)
 | rng (lo hi:Int)
 | uf (o:Obj) (u:HO)
 | Lf (ps:Array Value)
 | ext (φ:Heap->Prop)
abbrev Hp:=Addr->Option HO
def upd (H:Hp)(a:Addr)(o:HO):Hp:=λb=>if b=a then some o else H b
theorem af {H:Hp}{a:Addr}{o:HO}:upd H a o a=some o:=by unfold upd;rw[Hk rfl]
theorem au {H:Hp}{a:Addr}{o:HO}(h:b≠a):upd H a o b=H b:=by unfold upd;rw[He h]
theorem iU {H:Hp}{a:Addr}{o u:HO}:upd (upd H a o) a u=upd H a u:=by
 funext b;unfold upd;split <;> rfl
theorem QU {H:Hp}{a:Addr}{o u:HO}(h:H a=some o)(h':H b=some u)(d:o≠u):a≠b:=by
 intro e;subst e;rw[h]at h';exact d (Option.some.inj h')
theorem ay {H:Hp}{a:Addr}{o:HO}(h:H a=some o)(h':H b=none):a≠b:=by
 intro e;subst e;rw[h]at h';cases h'
section
variable (P:Program)(w:World)
def cW (H:Hp)(h:Heap)(a:Addr):HO->Prop
 | .lst xs=>xs.length<=sizeLine/\∃(br:List Value) (n:Nat),Vals xs br/\h.get? a=some { cls:=.type "list",data:=.seq br.toArray n }
 | .tup xs=>xs.length<=sizeLine/\∃br:List Value,Vals xs br/\IsTup h a br.toArray
 | .dK aB=>aB.length<=sizeLine/\(a==sysModules)=false/\∃vs,KV aB vs/\h.DictOf (cQ P w) a vs
 | .dT aB=>aB.length<=sizeLine/\(a==sysModules)=false/\∃xs:List (List Key×Addr×Value),
     Paired (λ(p:List Key×V) (q:List Key×Addr×Value)=>p.1=q.1/\H q.2.1=some (.tup (p.1.map kV))/\RelV p.2 q.2.2) aB xs/\
     ∃o es ep,h.get? a=some o/\o.ExactDict/\o.data=.dict es ep/\es.toList=xs.map (entryOfKey (tupleKind (cQ P w)))/\(xs.map (·.1)).Nodup
 | .set S n=>h.SetOf (intKind P w) a S n
 | .ins C dx fs=>H dx=some (.own a)/\fs.length<=1000/\dx≠a/\h.get? a=some (instObj C dx)/\
     ∃mA,h.Ns1 dx mA/\(∀f,pB (fs.lookup f) (mA f))/\PySem.Within mA (fs.map (·.1))
 | .own _=>∃o,h.get? a=some o
 | .xd fs=>∃mA,h.Ns1 a mA/\∀f,pB (fs.lookup f) (mA f)
 | .rng lo hi=>∃t u v,h.get? a=some { cls:=.type "range",data:=.fields #[.int lo t,.int hi u,.int 1 v] }
 | .uf o u=>h.get? a=some o/\cW H h a u
 | .Lf ps=>h.get? a=some { cls:=.none,data:=.fields ps }
 | .met f x=>h.get? a=some (methodObj (.ref f) (.ref x))
 | .ext φ=>φ h/\(∃o,h.get? a=some o)/\∀h1 h2:Heap,φ h1->(∀o,h1.get? a=some o->h2.get? a=some o)->φ h2
def qg (H:Hp)(h:Heap):Prop:=∀a o,H a=some o->cW P w H h a o
end
section
variable {H H':Hp}{a:Addr}{o:HO}
theorem cW.lt (x:cW P w H h a o):a < h.objs.size:=by
 cases o with
 | lst xs=>obtain⟨_,_,_,_,e⟩:=x;exact ba e
 | tup xs=>obtain⟨_,_,_,p⟩:=x;exact p.lt
 | dK aB=>obtain⟨_,_,_,_,o,_,_,e,_⟩:=x;exact ba e
 | dT aB=>obtain⟨_,_,_,_,o,_,_,e,_⟩:=x;exact ba e
 | set S n=>obtain⟨o,_,_,_,e,_⟩:=x;exact ba e
 | ins C dx fs=>obtain⟨_,_,_,e,_⟩:=x;exact ba e
 | own y=>obtain⟨_,e⟩:=x;exact ba e
 | xd fs=>obtain⟨_,⟨_,_,_,e,_⟩,_⟩:=x;exact ba e
 | rng lo hi=>obtain⟨_,_,_,e⟩:=x;exact ba e
 | uf ob u=>obtain⟨e,_⟩:=x;exact ba e
 | Lf ps=>exact ba (show h.get? a=some _ from x)
 | met f y=>exact ba (show h.get? a=some _ from x)
 | ext φ=>obtain⟨_,⟨_,e⟩,_⟩:=x;exact ba e
theorem Paired.Wr {β:Type}{F G:α->β->Prop}:∀{l₁:List α}{l₂:List β},Paired F l₁ l₂->(∀a b,F a b->G a b)->Paired G l₁ l₂:=by
 intro l₁ l₂ h f;induction h with
 | nil=>exact .nil
 | cons r t ih=>exact .cons (f _ _ r) ih
theorem cW.qh (x:cW P w H h a o)(k:∀b u,(b=a∨H b=some (.own a))->h.get? b=some u->h'.get? b=some u)
   (ho:∀b,H b=some (.own a)->H' b=some (.own a)) (ht:∀b xs,H b=some (.tup xs)->H' b=some (.tup xs)):cW P w H' h' a o:=by
 induction o with
 | lst xs=>obtain⟨z,br,n,r,e⟩:=x;exact⟨z,br,n,r,k _ _ (.inl rfl) e⟩
 | tup xs=>obtain⟨z,br,r,ob,e,c⟩:=x;exact⟨z,br,r,ob,k _ _ (.inl rfl) e,c⟩
 | dK aB=>obtain⟨z,y,vs,r,ob,es,ep,e,c⟩:=x;exact⟨z,y,vs,r,ob,es,ep,k _ _ (.inl rfl) e,c⟩
 | dT aB=>
   obtain⟨z,y,xs,r,ob,es,ep,e,c⟩:=x;exact⟨z,y,xs,Paired.Wr r λp q z=>⟨z.1,ht _ _ z.2.1,z.2.2⟩,ob,es,ep,k _ _ (.inl rfl) e,c⟩
 | set S n=>obtain⟨ob,es,ep,t,e,c⟩:=x;exact⟨ob,es,ep,t,k _ _ (.inl rfl) e,c⟩
 | ins C dx fs=>
   obtain⟨d,z,ne,e,mA,⟨od,es,ep,e2,c⟩,r⟩:=x;exact⟨ho _ d,z,ne,k _ _ (.inl rfl) e,mA,⟨od,es,ep,k _ _ (.inr d) e2,c⟩,r⟩
 | own y=>obtain⟨ob,e⟩:=x;exact⟨ob,k _ _ (.inl rfl) e⟩
 | xd fs=>obtain⟨mA,⟨od,es,ep,e,c⟩,r⟩:=x;exact⟨mA,⟨od,es,ep,k _ _ (.inl rfl) e,c⟩,r⟩
 | rng lo hi=>obtain⟨t,u,v,e⟩:=x;exact⟨t,u,v,k _ _ (.inl rfl) e⟩
 | uf ob u ih=>obtain⟨e,q⟩:=x;exact⟨k _ _ (.inl rfl) e,ih q⟩
 | Lf ps=>
   have e:h.get? a=some { cls:=.none,data:=.fields ps }:=x;show h'.get? a=some { cls:=.none,data:=.fields ps };exact k a _ (.inl rfl) e
 | met f y=>
   have e:h.get? a=some (methodObj (.ref f) (.ref y)):=x;show h'.get? a=some (methodObj (.ref f) (.ref y));exact k a _ (.inl rfl) e
 | ext φ=>obtain⟨p,⟨o,e⟩,st⟩:=x;exact⟨st _ _ p λo q=>k _ _ (.inl rfl) q,⟨o,k _ _ (.inl rfl) e⟩,st⟩
theorem qg.lt (x:qg P w H h)(e:H a=some o):a < h.objs.size:=(x a o e).lt
theorem qg.fresh (x:qg P w H h)(e:h.objs.size<=a):H a=none:=by
 cases q:H a with
 | none=>rfl
 | some u=>exact absurd (cm (x.lt q) e) (hU _)
theorem qg.kept (x:qg P w H h)(k:∀b u,h.get? b=some u->h'.get? b=some u):qg P w H h':=λa o e=>
 (x a o e).qh (λb u _ q=>k b u q) (λ_ q=>q) λ_ _ q=>q
theorem qg.laid (x:qg P w H h)(k:∀b u,h.get? b=some u->h'.get? b=some u)(hp:h.objs.size<=a)(new:cW P w (upd H a o) h' a o):qg P w (upd H a o) h':=λb u e=>by
 have hn:=x.fresh hp
 by_cases hb:b=a
 . subst hb;rw[af]at e;cases e;exact new
 . rw[au hb]at e;exact(x b u e).qh (λc v _ q=>k c v q) (λc q=>by rw[au (ay q hn)];exact q) λc xs q=>by rw[au (ay q hn)];exact q
end
def Rd (H:Hp)(a:Addr)(u:HO):Prop:=H a=some u∨∃o,H a=some (.uf o u)
theorem Rd.of {H:Hp}{a:Addr}{u:HO}(h:H a=some u):Rd H a u:=.inl h
theorem Rd.ok {H:Hp}{a:Addr}{u:HO}(r:Rd H a u)(x:qg P w H h):cW P w H h a u:=by
 rcases r with r | ⟨o,r⟩
 . exact x a u r
 . obtain⟨_,q⟩:=x a _ r;exact q
def Ws:Option HO->Prop
 | some (.lst _)=>True
 | some (.dK _)=>True
 | some (.dT _)=>True
 | some (.set _ _)=>True
 | some (.ins _ _ _)=>True
 | some (.ext _)=>True
 | _=>False
section
variable {H:Hp}{x e:Addr}{o':HO}
theorem qg.write (ok:qg P w H h)(mu:Ws (H x))(he:e=x∨H e=some (.own x))(k:∀b u,b≠e->h.get? b=some u->h'.get? b=some u)(Vs:∃u,h'.get? e=some u)
   (new:cW P w (upd H x o') h' x o'):qg P w (upd H x o') h':=λb u q=>by
 have Wu:∀c y,H c=some (.own y)->c≠x:=λc y r z=>by subst z;rw[r]at mu;exact mu
 have aao:∀c xs,H c=some (.tup xs)->c≠x:=λc xs r z=>by subst z;rw[r]at mu;exact mu
 by_cases hb:b=x
 . subst hb;rw[af]at q;cases q;exact new
 . rw[au hb]at q
   by_cases hbe:b=e
   . have q':H b=some (.own x):=by
       rcases he with z | z
       . exact absurd (hbe.trans z) hb
       . rw[hbe];exact z
     rw[q]at q';cases q';obtain⟨v,hv⟩:=Vs;exact⟨v,by rw[hbe];exact hv⟩
   . refine(ok b u q).qh (λc v hc r=>k c v ?_ r) (λc r=>by rw[au (Wu c b r)];exact r) λc xs r=>by rw[au (aao c xs r)];exact r
     rcases hc with rfl | hc
     . exact hbe
     . rintro rfl;rcases he with z | z
       . exact Wu c b hc z
       . rw[hc]at z;cases z;exact hb rfl
end
structure Un (fs ex:List Addr)(H H':Hp)(h h':Heap):Prop where
 keep:∀b o,h.get? b=some o->H b=none->b∉fs->b∉ex->h'.get? b=some o
 slot:∀b o,h.get? b=some o->H b=none->b∈fs->b∉ex->∃sl,h'.get? b=some { o with slots:=sl }
 free:∀b o,h.get? b=some o->H b=none->b∉ex->H' b=none
 there:∀b o,h.get? b=some o->b∉ex->∃o',h'.get? b=some o'
 uL:∀b xs,H b=some (.tup xs)->H' b=some (.tup xs)
 sO:∀b o u,H b=some (.uf o u)->H' b=some (.uf o u)
 uM:∀b ps,H b=some (.Lf ps)->∃more,H' b=some (.Lf (ps++more))
section
variable {fs Wv ex ex':List Addr}{H H1 H2:Hp}{h1 h2:Heap}{a x e:Addr}{o:HO}
theorem Un.any (u:Un fs ex H H1 h h1){ob:Obj}(q:h.get? b=some ob)(n:H b=none)(hx:b∉ex):∃sl,h1.get? b=some { ob with slots:=sl }:=by
 by_cases hb:b∈fs
 . exact u.slot b ob q n hb hx
 . exact⟨ob.slots,u.keep b ob q n hb hx⟩
theorem Un.trans (a:Un fs ex H H1 h h1)(b:Un fs ex H1 H2 h1 h2):Un fs ex H H2 h h2 where
 keep:=λc ob q n hc hx=>b.keep c ob (a.keep c ob q n hc hx) (a.free c ob q n hx) hc hx
 slot:=λc ob q n hc hx=>by
   obtain⟨sl,e1⟩:=a.slot c ob q n hc hx;obtain⟨sl',e2⟩:=b.slot c _ e1 (a.free c ob q n hx) hc hx;exact⟨sl',e2⟩
 free:=λc ob q n hx=>by
   obtain⟨o',e1⟩:=a.there c ob q hx;exact b.free c o' e1 (a.free c ob q n hx) hx
 there:=λc ob q hx=>by
   obtain⟨o',e1⟩:=a.there c ob q hx;exact b.there c o' e1 hx
 uL:=λc xs q=>b.uL c xs (a.uL c xs q)
 sO:=λc ob xs q=>b.sO c ob xs (a.sO c ob xs q)
 uM:=λc ps q=>by
   obtain⟨m1,e1⟩:=a.uM c ps q;obtain⟨m2,e2⟩:=b.uM c _ e1;exact⟨m1++m2,by rw[e2,Array.append_assoc]⟩
theorem Un.kept (k:∀b u,h.get? b=some u->h'.get? b=some u):Un fs ex H H h h':=
 ⟨λb ob q _ _ _=>k b ob q,λb ob q _ _ _=>⟨ob.slots,k b ob q⟩,λ_ _ _ n _=>n,λb ob q _=>⟨ob,k b ob q⟩,λ_ _ q=>q,λ_ _ _ q=>q,λ_ ps q=>⟨#[],by rw[q];simp⟩⟩
theorem Un.refl:Un fs ex H H h h:=Un.kept λ_ _ q=>q
theorem Un.laid (k:∀b u,h.get? b=some u->h'.get? b=some u)(hp:h.objs.size<=a)(hn:H a=none):Un fs ex H (upd H a o) h h' where
 keep:=λb u q _ _ _=>k b u q
 slot:=λb u q _ _ _=>⟨u.slots,k b u q⟩
 free:=λb u q n _=>by rw[au (cv (cm (ba q) hp))];exact n
 there:=λb u q _=>⟨u,k b u q⟩
 uL:=λb xs q=>by rw[au (ay q hn)];exact q
 sO:=λb u xs q=>by rw[au (ay q hn)];exact q
 uM:=λb ps q=>⟨#[],by rw[au (ay q hn),q];simp⟩
theorem Un.write (mu:Ws (H x))(he:e=x∨H e=some (.own x))(k:∀b u,b≠e->h.get? b=some u->h'.get? b=some u)(Vs:∃u,h'.get? e=some u):Un fs ex H (upd H x o) h h':=by
 have hx:∀b,H b=none->b≠x:=λb n z=>by subst z;rw[n]at mu;exact mu
 have hb:∀b,H b=none->b≠e:=λb n z=>by
   subst z;rcases he with r | r
   . exact hx b n r
   . rw[n]at r;cases r
 have hm:∀b u,H b=some u->¬ Ws (some u)->b≠x:=λb u q nm z=>by subst z;rw[q]at mu;exact nm mu
 refine⟨λb u q n _ _=>k b u (hb b n) q,λb u q n _ _=>⟨u.slots,k b u (hb b n) q⟩,λb u q n _=>by rw[au (hx b n)];exact n,λb u q _=>?_,
   λb xs q=>by rw[au (hm b _ q λz=>z)];exact q,λb u xs q=>by rw[au (hm b _ q λz=>z)];exact q,λb ps q=>⟨#[],by rw[au (hm b _ q λz=>z),q];simp⟩⟩
 by_cases hbe:b=e
 . subst hbe;exact Vs
 . exact⟨u,k b u hbe q⟩
end
def Y8 (h:Heap)(H:Hp):List Addr:=(List.range h.objs.size).filter λa=>(H a).isSome
def Aw (h:Heap)(H:Hp):Heap:=hideAll h (Y8 h H)
theorem Jc (h:Heap)(H:Hp):(Aw h H).objs.size=h.objs.size:=PySem.W.hideAll_size _ _
theorem Lg {H:Hp}(e:h.get? b=some o)(n:H b=none):(Aw h H).get? b=some o:=
 PySem.W.hideAll_get _ e λhm=>by
   have q:(H b).isSome=true:=(ib.mp hm).2;rw[n]at q;simp at q
theorem OQ {H:Hp}(e:(Aw h H).get? b=some o):h.get? b=some o/\H b=none:=by
 have e':h.get? b=some o:=PySem.W.of_hideAll (Y8 h H) e;refine⟨e',?_⟩;cases q:H b with
 | none=>rfl
 | some x=>
   have hm:b∈Y8 h H:=ib.mpr ⟨List.mem_range.mpr (ba e'),by simp[q]⟩;have z:(Aw h H).get? b=none:=PySem.W.hideAll_none (Y8 h H) hm;rw[z]at e;cases e
def OR (g h:Heap)(L:Addr):List (Addr×Obj):=(List.range h.objs.size).filterMap λa=>if a=L∨(g.get? a).isSome=true then none else (h.get? a).map λo=>(a,o)
def rest (g h:Heap)(L d:Addr):List (Addr×Obj):=(OR g h L).filter λp=>decide (p.1≠d)
variable{H:Hp}{vs xs:List V}
structure Mod (K:Frag)(mg:Str->Option Value)(base:Heap):Prop where
 OS:K.In base
 glob:base.Ns mainGlobals mg
 blt:∃mb,base.Ns builtinsNs mb/\∀x:Str,x≠"__name__"->mb x=bootBuiltins x
 nolimit:base.NoLimit
structure Cx where
 prog:Program
 w:World
 K:Frag
 mg:Str->Option Value
 base:Heap
 A:Around
 N:List Str
 s₀:Shared
 H₀:Hp
 env:Env
 outer:List Env
 stack:List Env
 ex:List Addr
 fn:Str->Bool
 calm:Bool
 pn:List (Addr×Obj)
 xe:Value->Shared->Prop
def D6 (l:List Env):List Addr:=l.filterMap (·.frame)
abbrev Cx.fs (X:Cx):List Addr:=D6 X.outer
def Vt (sc:Scope)(x:Str):Prop:=sc.names.lookup x=some .local∨sc.names.lookup x=some .cell∨sc.names.lookup x=some .free
def Loc (sc:Scope)(x:Str):Prop:=sc.names.lookup x=some .local∨sc.names.lookup x=some .cell
def Look (env:Env)(h:Heap)(m:Str->Option Value)(x:Str)(u:Value):Prop:=
 (env.kindOf x=some .local/\m x=some u)∨((env.kindOf x=some .cell∨env.kindOf x=some .free)/\∃c,env.cells.lookup x=some c/\h.IsCell c (some u))
structure Cx.Ok (X:Cx):Prop where
 mod:Mod X.K X.mg X.base
 kind:X.env.scope.kind=.function
 glob:X.env.globals=mainGlobals
 blt:X.env.builtins=builtinsNs
 above:X.s₀.heap.objs.size<=X.env.locals
 inj:∀x y c,X.env.cells.lookup x=some c->X.env.cells.lookup y=some c->x=y
 has:∀x,(X.env.kindOf x=some .cell∨X.env.kindOf x=some .free)->∃c,X.env.cells.lookup x=some c
 Vu:∀x c,X.fn x=true->X.env.cells.lookup x=some c->X.s₀.heap.objs.size<=c
 hd:X.calm=true->X.A.handled=none
 frames:X.A.frames=some X.stack
 Ww:X.stack=X.outer∨(X.stack=X.env::X.outer/\X.env.frame=some X.env.locals)
 exf:∀b∈X.ex,b≠X.env.locals/\∀x c,X.env.cells.lookup x=some c->c≠b
 bs:∀b o,X.base.get? b=some o->X.s₀.heap.get? b=some o/\X.H₀ b=none
 Oz:X.base.objs.size<=X.s₀.heap.objs.size
 Jd:∀b o,X.base.get? b=some o->b∉X.ex
 Lh:∀b∈X.ex,b∉X.fs
 sP:X.s₀.heap.FunFrames X.base X.outer
 QV:∀b∈X.fs,X.H₀ b=none
structure Inv (X:Cx)(pins:List (Addr×Obj))(σ:List (Option V))(H:Hp)(s:Shared):Prop where
 ok:X.Ok
 os:s.os=X.s₀.os
 bare:AllBare s.gens
 base:Un X.fs X.ex X.H₀ H X.s₀.heap s.heap
 loc:∃m,s.heap.Ns X.env.locals m/\∀(i:Nat) (x:Str) (v:V),X.N[i]?=some x->σ[i]?=some (some v)->Vt X.env.scope x->∃u,RelV v u/\Look X.env s.heap m x u
 cell:∀x c,X.env.cells.lookup x=some c->∃v,s.heap.IsCell c v
 free:H X.env.locals=none
 l7:∀x c,X.env.cells.lookup x=some c->H c=none
 pin:∀p∈X.pn++pins,s.heap.get? p.1=some p.2/\H p.1=none/\p.1≠X.env.locals/\p.1∉X.fs/\∀v,p.2.data≠.cell v
 dB:qg X.prog X.w H s.heap
 len:σ.length=X.N.length
section
variable {X:Cx}{σ:List (Option V)}{H':Hp}
theorem Cx.Ok.aaq (ok:X.Ok)(e:X.base.get? b=some o):b∉X.fs:=λhb=>by
 have:=(ok.sP.mem hb).1;rw[e]at this;cases this
theorem Inv.bs (I:Inv X pins σ H s):∀b o,X.base.get? b=some o->s.heap.get? b=some o/\H b=none:=λb o e=>
 ⟨I.base.keep b o (I.ok.bs b o e).1 (I.ok.bs b o e).2 (I.ok.aaq e) (I.ok.Jd b o e),I.base.free b o (I.ok.bs b o e).1 (I.ok.bs b o e).2 (I.ok.Jd b o e)⟩
theorem Inv.bk (I:Inv X pins σ H s):∀b o,X.base.get? b=some o->s.heap.get? b=some o:=λb o e=>(I.bs b o e).1
theorem Inv.mod (I:Inv X pins σ H s):Mod X.K X.mg X.base:=I.ok.mod
theorem Inv.qK (I:Inv X pins σ H s):X.K.In s.heap:=I.ok.mod.OS.keeps I.bk
theorem Inv.nolimit (I:Inv X pins σ H s):s.heap.NoLimit:=I.ok.mod.nolimit.keeps I.bk
theorem Inv.lt (I:Inv X pins σ H s):X.env.locals < s.heap.objs.size:=let ⟨_,hn,_⟩:=I.loc;hn.lt
theorem Inv.sz (I:Inv X pins σ H s):X.s₀.heap.objs.size<=s.heap.objs.size:=cw I.ok.above (fv I.lt)
theorem Inv.SS (I:Inv X pins σ H s){a:Addr}(h:s.heap.objs.size<=a):a∉X.fs:=λhb=>by
 obtain⟨_,o,ho,_⟩:=I.ok.sP.mem hb;exact absurd (cm (ba ho) (cw I.sz h)) (hU _)
theorem Inv.SW (I:Inv X pins σ H s):∀x c,X.env.cells.lookup x=some c->c≠X.env.locals:=λx c e z=>by
 obtain⟨v,o,ho,hd⟩:=I.cell x c e;obtain⟨m,⟨o',es,ep,Ej,hd',_⟩,_⟩:=I.loc;rw[z,Ej]at ho;cases ho;rw[hd']at hd;cases hd
theorem Inv.sP (I:Inv X pins σ H s):s.heap.FunFrames X.base X.outer:=by
 have all:∀(l:List Env),(∀b∈D6 l,b∈X.fs)->X.s₀.heap.FunFrames X.base l->s.heap.FunFrames X.base l:=by
   intro l;induction l with
   | nil=>intro _ _;trivial
   | cons env r ih=>
     intro hs hl;obtain⟨hk,⟨L,o,hf,hn,ho,hd⟩,hr⟩:=hl;have hL:L∈X.fs:=hs L (by unfold D6;rw[List.filterMap_cons,hf];exact cb);obtain⟨sl,e⟩:=I.base.slot L o ho (I.ok.QV L hL) hL λz=>I.ok.Lh L z hL;exact⟨hk,⟨L,_,hf,hn,e,hd⟩,ih (λb hb=>hs b (by unfold D6;rw[List.filterMap_cons,hf];exact bc _ hb)) hr⟩
 exact all X.outer (λ_ hb=>hb) I.ok.sP
theorem Inv.stack (I:Inv X pins σ H s):s.heap.FunFrames X.base X.stack:=by
 rcases I.ok.Ww with e | ⟨e,hf⟩
 . rw[e];exact I.sP
 . rw[e];obtain⟨m,hn,_⟩:=I.loc;refine .cons (by rw[I.ok.kind];decide) hf hn ?_ I.sP;exact Heap.get?_none_of_le (cw I.ok.Oz I.ok.above)
theorem Inv.vA (I:Inv X pins σ H s):∀b∈D6 X.stack,b∈X.env.locals::X.fs:=λb hb=>by
 rcases I.ok.Ww with e | ⟨e,hf⟩
 . rw[e]at hb;exact bc _ hb
 . rw[e]at hb;unfold D6 at hb;rw[List.filterMap_cons,hf]at hb;exact hb
theorem Inv.Gn (I:Inv X pins σ H s):∀b∈D6 X.stack,H b=none:=λb hb=>by
 rcases List.mem_cons.mp (I.vA b hb)with e | hb
 . rw[e];exact I.free
 . obtain⟨_,o,ho,_⟩:=I.ok.sP.mem hb;exact I.base.free b o ho (I.ok.QV b hb) λz=>I.ok.Lh b z hb
theorem Inv.step {g':Array GenState}{d':Drawn}(I:Inv X pins σ H s)
   (OA:∀b∈ch,(b∈X.ex∨X.s₀.heap.objs.size<=b)/\b≠X.env.locals/\(∀x c,X.env.cells.lookup x=some c->c≠b)/\∀p∈X.pn++pins,p.1≠b)
   (keep:∀b o,b≠X.env.locals->b∉X.fs->b∉ch->s.heap.get? b=some o->H b=none->h'.get? b=some o)
   (slot:∀b o,b≠X.env.locals->b∈X.fs->b∉ch->s.heap.get? b=some o->H b=none->∃sl,h'.get? b=some { o with slots:=sl }) (free:∀b o,b∉ch->s.heap.get? b=some o->H b=none->H' b=none)
   (there:∀b o,b∉ch->s.heap.get? b=some o->∃o',h'.get? b=some o')
   (uL:∀b xs,H b=some (.tup xs)->H' b=some (.tup xs)) (sO:∀b o u,H b=some (.uf o u)->H' b=some (.uf o u)) (uM:∀b ps,H b=some (.Lf ps)->∃more,H' b=some (.Lf (ps++more)))
   (ns:∀m,s.heap.Ns X.env.locals m->h'.Ns X.env.locals m) (dB:qg X.prog X.w H' h') (hg:AllBare g'):
   Inv X pins σ H' { s with heap:=h',gens:=g',drawn:=d',toks:=t' }:=by
 have Wx:∀b o,X.s₀.heap.get? b=some o->b≠X.env.locals:=λb o e=>cv (cm (ba e) I.ok.above);have Y9:∀b o,X.s₀.heap.get? b=some o->b∉X.ex->b∉ch:=λb o e hx hb=>by
   rcases(OA b hb).1 with z | z
   . exact hx z
   . exact absurd (cm (ba e) z) (hU _)
 have cellK:∀x c,X.env.cells.lookup x=some c->∀v,s.heap.IsCell c v->h'.IsCell c v:=λx c e v ⟨o,ho,hd⟩=>by
   have Wy:c∉ch:=λz=>(OA c z).2.2.1 x c e rfl
   by_cases hc:c∈X.fs
   . obtain⟨sl,q⟩:=slot c o (I.SW x c e) hc Wy ho (I.l7 x c e);exact⟨_,q,hd⟩
   . exact⟨o,keep c o (I.SW x c e) hc Wy ho (I.l7 x c e),hd⟩
 refine⟨I.ok,I.os,hg,⟨λb o e n hb hx=>?_,λb o e n hb hx=>?_,λb o e n hx=>?_,λb o e hx=>?_,λb xs e=>uL b xs (I.base.uL b xs e),λb o xs e=>sO b o xs (I.base.sO b o xs e),λb ps e=>?_⟩,?_,λx c e=>?_,?_,λx c e=>?_,λp hp=>?_,dB,I.len⟩
 . exact keep b o (Wx b o e) hb (Y9 b o e hx) (I.base.keep b o e n hb hx) (I.base.free b o e n hx)
 . obtain⟨sl,e1⟩:=I.base.slot b o e n hb hx;obtain⟨sl',e2⟩:=slot b _ (Wx b o e) hb (Y9 b o e hx) e1 (I.base.free b o e n hx);exact⟨sl',e2⟩
 . obtain⟨o',e1⟩:=I.base.there b o e hx;exact free b o' (Y9 b o e hx) e1 (I.base.free b o e n hx)
 . obtain⟨o',e1⟩:=I.base.there b o e hx;exact there b o' (Y9 b o e hx) e1
 . obtain⟨m1,e1⟩:=I.base.uM b ps e;obtain⟨m2,e2⟩:=uM b _ e1;exact⟨m1++m2,by rw[e2,Array.append_assoc]⟩
 . obtain⟨m,hn,hl⟩:=I.loc;refine⟨m,ns m hn,λi x v e1 e2 e3=>?_⟩;obtain⟨u,r,l⟩:=hl i x v e1 e2 e3;refine⟨u,r,?_⟩;rcases l with l | ⟨k,c,e,z⟩
   . exact .inl l
   . exact .inr ⟨k,c,e,cellK x c e _ z⟩
 . obtain⟨v,z⟩:=I.cell x c e;exact⟨v,cellK x c e v z⟩
 . obtain⟨m,⟨o,_,_,ho,_⟩,_⟩:=I.loc;exact free _ o (λz=>(OA _ z).2.1 rfl) ho I.free
 . obtain⟨v,o,ho,hd⟩:=I.cell x c e;exact free c o (λz=>(OA c z).2.2.1 x c e rfl) ho (I.l7 x c e)
 . obtain⟨e,n,ne,nf,d⟩:=I.pin p hp;have Wy:p.1∉ch:=λz=>(OA p.1 z).2.2.2 p hp rfl;exact⟨keep p.1 p.2 ne nf Wy e n,free p.1 p.2 Wy e n,ne,nf,d⟩
theorem Inv.un (I:Inv X pins σ H s)(u:Un X.fs [] H H' s.heap h')(dB:qg X.prog X.w H' h'):Inv X pins σ H' { s with heap:=h',toks:=t' }:=by
 obtain⟨m,⟨o,es,ep,ho,r⟩,_⟩:=id I.loc;obtain⟨sl,hL⟩:=u.any ho I.free Y2;exact I.step (g':=s.gens) (d':=s.drawn) (ch:=[]) (λ_ z=>nomatch z) (λb o _ hb _ e n=>u.keep b o e n hb Y2) (λb o _ hb _ e n=>u.slot b o e n hb Y2) (λb o _ e n=>u.free b o e n Y2) (λb o _ e=>u.there b o e Y2) u.uL u.sO u.uM (λm' hm=>by
   obtain⟨o',es',ep',Ej,r'⟩:=hm;rw[ho]at Ej;cases Ej;exact⟨_,es',ep',hL,r'⟩) dB I.bare
theorem Inv.call {g':Array GenState}{d':Drawn}(I:Inv X pins σ H s)(u:Un (D6 X.stack) ch H H' s.heap h')(dB:qg X.prog X.w H' h')(hg:AllBare g')
   (OA:∀b∈ch,(b∈X.ex∨X.s₀.heap.objs.size<=b)/\b≠X.env.locals/\(∀x c,X.env.cells.lookup x=some c->c≠b)/\∀p∈X.pn++pins,p.1≠b):
   Inv X pins σ H' { s with heap:=h',gens:=g',drawn:=d',toks:=t' }:=by
 obtain⟨m,⟨o,es,ep,ho,r⟩,_⟩:=id I.loc;obtain⟨sl,hL⟩:=u.any ho I.free λz=>(OA _ z).2.1 rfl;exact I.step (ch:=ch) OA (λb o hL hb hc e n=>u.keep b o e n (λz=>(List.mem_cons.mp (I.vA b z)).elim hL hb) hc) (λb o _ _ hc e n=>u.any e n hc) (λb o hc e n=>u.free b o e n hc) (λb o hc e=>u.there b o e hc) u.uL u.sO u.uM (λm' hm=>by
   obtain⟨o',es',ep',Ej,r'⟩:=hm;rw[ho]at Ej;cases Ej;exact⟨_,es',ep',hL,r'⟩) dB hg
theorem Inv.turned (I:Inv X pins σ H s)(k:∀b o,b≠it->s.heap.get? b=some o->h'.get? b=some o)(hn:H it=none)(hL:it≠X.env.locals)
   (h1:it∈X.ex∨X.s₀.heap.objs.size<=it) (h2:∀x c,X.env.cells.lookup x=some c->c≠it) (h3:∀p∈X.pn++pins,p.1≠it):Inv X pins σ H { s with heap:=h',toks:=t' }:=by
 have nit:∀b u,H b=some u->b≠it:=λb u e z=>by rw[z,hn]at e;cases e
 refine I.step (g':=s.gens) (d':=s.drawn) (ch:=[it]) (λb hb=>?_) (λb o _ _ hc e _=>k b o (λz=>hc (by simp[z])) e) (λb o _ _ hc e _=>⟨o.slots,k b o (λz=>hc (by simp[z])) e⟩) (λ_ _ _ _ n=>n)
   (λb o hc e=>⟨o,k b o (λz=>hc (by simp[z])) e⟩) (λ_ _ e=>e) (λ_ _ _ e=>e) (λb ps e=>⟨#[],by rw[e];simp⟩) (λm hm=>?_) (λb u e=>?_) I.bare
 . have e:b=it:=by simpa using hb
   subst e;exact⟨h1,hL,h2,h3⟩
 . obtain⟨o,es,ep,ho,r⟩:=hm;exact⟨o,es,ep,k _ o (Ne.symm hL) ho,r⟩
 . refine(I.dB b u e).qh (λc v hc q=>k c v ?_ q) (λ_ q=>q) λ_ _ q=>q;rcases hc with z | z
   . rw[z];exact nit b u e
   . exact nit c _ z
theorem Inv.tok (I:Inv X pins σ H s)(t:Nat):Inv X pins σ H { s with toks:=t }:=I.un (h':=s.heap) (t':=t) Un.refl I.dB
theorem Inv.kept (I:Inv X pins σ H s)(k:∀b u,s.heap.get? b=some u->h'.get? b=some u):Inv X pins σ H { s with heap:=h',toks:=t' }:=I.un (Un.kept k) (I.dB.kept k)
theorem Inv.laid {a:Addr}{o:HO}(I:Inv X pins σ H s)(k:∀b u,s.heap.get? b=some u->h'.get? b=some u)(hp:s.heap.objs.size<=a)(new:cW X.prog X.w (upd H a o) h' a o):
   Inv X pins σ (upd H a o) { s with heap:=h',toks:=t' }:=I.un (Un.laid k hp (I.dB.fresh hp)) (I.dB.laid k hp new)
theorem Inv.write {x e:Addr}{o:HO}(I:Inv X pins σ H s)(mu:Ws (H x))(he:e=x∨H e=some (.own x))(k:∀b u,b≠e->s.heap.get? b=some u->h'.get? b=some u)(Vs:∃u,h'.get? e=some u)
   (new:cW X.prog X.w (upd H x o) h' x o):Inv X pins σ (upd H x o) { s with heap:=h',toks:=t' }:=I.un (Un.write mu he k Vs) (I.dB.write mu he k Vs new)
theorem Inv.uX {QW:List (Addr×Obj)}(I:Inv X pins σ H s)(h:∀p∈QW,s.heap.get? p.1=some p.2/\H p.1=none/\p.1≠X.env.locals/\p.1∉X.fs/\∀v,p.2.data≠.cell v):Inv X QW σ H s:=
 ⟨I.ok,I.os,I.bare,I.base,I.loc,I.cell,I.free,I.l7,λp hp=>(de.mp hp).elim (λz=>I.pin p (js _ z)) (h p),I.dB,I.len⟩
theorem Ca (hN:N.Nodup){j:Nat}(a:N[i]?=some x)(b:N[j]?=some x):i=j:=by
 obtain⟨h1,e1⟩:=bo.mp a;obtain⟨h2,e2⟩:=bo.mp b;exact(List.getElem_inj hN).mp (e1.trans e2.symm)
theorem Je {v:V}{Q:Unit->Shared->Prop}(I:Inv X pins σ H s)(hN:X.N.Nodup)(hi:X.N[i]?=some x)(hx:Loc X.env.scope x)(r:RelV v u)
   (h:∀s',Inv X pins (σ.set i (some v)) H s'->(∃a,Heap.SameBut a s.heap s'.heap/\(a=X.env.locals∨X.env.cells.lookup x=some a))->Q () s') (hf:X.fn x=true∨X.env.scope.names.lookup x=some .local:=by first | exact .inl rfl | exact .inr rfl | assumption):wpAny M A (storeName X.env x u) Q E s:=by
 obtain⟨m,hn,hl⟩:=id I.loc;have aar:(X.env.scope.kind==.class||(X.env.scope.kind==.module&&X.env.locals !=X.env.globals))=false:=by rw[I.ok.kind];rfl
 have hiσ:i < σ.length:=by rw[I.len];exact(bo.mp hi).1
 have SW:=I.SW;have tracked:∀{a:Addr}{h':Heap},(∃o,s.heap.get? a=some o/\H a=none)->Heap.SameBut a s.heap h'->qg X.prog X.w H h':=λ{a h'} ha hs b ob e=>by
   obtain⟨_,_,hfree⟩:=ha;refine(I.dB b ob e).qh (λc w' hc q=>(hs.2 c ?_).trans q) (λ_ q=>q) λ_ _ q=>q;rintro rfl;rcases hc with rfl | hc
   . rw[hfree]at e;cases e
   . rw[hfree]at hc;cases hc
 rcases hx with hk | hk
 . refine wpAny_storeName_local hk hn (λh' hn' hs=>?_) aar;obtain⟨oL,_,_,hoL,_⟩:=id hn;refine h _ ⟨I.ok,I.os,I.bare,⟨λb o e n hb hx=>?_,λb o e n hb hx=>?_,I.base.free,λb o e hx=>?_,I.base.uL,I.base.sO,I.base.uM⟩,⟨_,hn',λj y v' e1 e2 e3=>?_⟩,λy c e=>?_,I.free,I.l7,λp hp=>?_,tracked ⟨oL,hoL,I.free⟩ hs,by simpa using I.len⟩ ⟨_,hs,.inl rfl⟩
   . exact(hs.2 b (cv (cm (ba e) I.ok.above))).trans (I.base.keep b o e n hb hx)
   . obtain⟨sl,e1⟩:=I.base.slot b o e n hb hx;exact⟨sl,(hs.2 b (cv (cm (ba e) I.ok.above))).trans e1⟩
   . obtain⟨o',e1⟩:=I.base.there b o e hx;exact⟨o',(hs.2 b (cv (cm (ba e) I.ok.above))).trans e1⟩
   . by_cases hj:j=i
     . subst hj;rw[hi]at e1;cases e1;rw[List.getElem?_set_self hiσ]at e2;cases e2;exact⟨u,r,.inl ⟨hk,by simp⟩⟩
     . rw[List.getElem?_set_ne (Ne.symm hj)]at e2;obtain⟨u',r',q⟩:=hl j y v' e1 e2 e3;refine⟨u',r',?_⟩;rcases q with ⟨k,e⟩ | ⟨k,c,e,z⟩
       . refine .inl ⟨k,?_⟩;have:y≠x:=λe=>hj (Ca hN e1 (e ▸ hi));simp[this,e]
       . exact .inr ⟨k,c,e,z.sameBut hs (SW y c e)⟩
   . obtain⟨w',z⟩:=I.cell y c e;exact⟨w',z.sameBut hs (SW y c e)⟩
   . obtain⟨e,n,ne,nf,d⟩:=I.pin p hp;exact⟨(hs.2 p.1 ne).trans e,n,ne,nf,d⟩
 . have hfn:X.fn x=true:=by
     rcases hf with z | z
     . exact z
     . rw[z]at hk;cases hk
   obtain⟨c,hc⟩:=I.ok.has x (.inl hk);obtain⟨w',z⟩:=I.cell x c hc;refine wpAny_storeName_cell I.ok.kind hk hc z (λh' hc' hs=>?_);obtain⟨oc,hoc,hocd⟩:=id z;refine h { s with heap:=h' } ⟨I.ok,I.os,I.bare,⟨λb o e n hb hx=>?_,λb o e n hb hx=>?_,I.base.free,λb o e hx=>?_,I.base.uL,I.base.sO,I.base.uM⟩,⟨m,hn.sameBut hs (Ne.symm (SW x c hc)),λj y v' e1 e2 e3=>?_⟩,λy c' e=>?_,I.free,I.l7,λp hp=>?_,tracked ⟨oc,hoc,I.l7 x c hc⟩ hs,by simpa using I.len⟩ ⟨c,hs,.inr hc⟩
   . exact(hs.2 b (cv (cm (ba e) (I.ok.Vu x c hfn hc)))).trans (I.base.keep b o e n hb hx)
   . obtain⟨sl,e1⟩:=I.base.slot b o e n hb hx;exact⟨sl,(hs.2 b (cv (cm (ba e) (I.ok.Vu x c hfn hc)))).trans e1⟩
   . obtain⟨o',e1⟩:=I.base.there b o e hx;exact⟨o',(hs.2 b (cv (cm (ba e) (I.ok.Vu x c hfn hc)))).trans e1⟩
   . by_cases hj:j=i
     . subst hj;rw[hi]at e1;cases e1;rw[List.getElem?_set_self hiσ]at e2;cases e2;exact⟨u,r,.inr ⟨.inl hk,c,hc,hc'⟩⟩
     . rw[List.getElem?_set_ne (Ne.symm hj)]at e2;obtain⟨u',r',q⟩:=hl j y v' e1 e2 e3;refine⟨u',r',?_⟩;rcases q with q | ⟨k,c',e,z'⟩
       . exact .inl q
       . refine .inr ⟨k,c',e,z'.sameBut hs ?_⟩;rintro rfl;exact hj (Ca hN e1 (I.ok.inj _ _ _ e hc ▸ hi))
   . by_cases hcc:c'=c
     . subst hcc;exact⟨_,hc'⟩
     . obtain⟨w2,z2⟩:=I.cell y c' e;exact⟨w2,z2.sameBut hs hcc⟩
   . obtain⟨e,n,ne,nf,d⟩:=I.pin p hp;refine⟨(hs.2 p.1 ?_).trans e,n,ne,nf,d⟩;intro q;rw[q,hoc]at e;have q':oc=p.2:=Option.some.inj e;exact d w' (by rw[<- q'];exact hocd)
theorem Cb {v:V}{Q:Unit->Shared->Prop}(I:Inv X pins σ H s)(hN:X.N.Nodup)(hi:X.N[i]?=some x)(hx:Loc X.env.scope x)(r:RelV v u)
   (h:∀s',Inv X pins (σ.set i (some v)) H s'->Q () s') (hf:X.fn x=true∨X.env.scope.names.lookup x=some .local:=by first | exact .inl rfl | exact .inr rfl | assumption):wpAny M A (storeName X.env x u) Q E s:=
 Je I hN hi hx r (λs' I' _=>h s' I') hf
theorem Inv.Wz (I:Inv X pins σ H s)(ho:s'.os=s.os)(u:Un (D6 X.stack) ch H H' s.heap s'.heap)(dB:qg X.prog X.w H' s'.heap)(hg:AllBare s'.gens)
   (OA:∀b∈ch,(b∈X.ex∨X.s₀.heap.objs.size<=b)/\b≠X.env.locals/\(∀x c,X.env.cells.lookup x=some c->c≠b)/\∀p∈X.pn++pins,p.1≠b):Inv X pins σ H' s':=by
 obtain⟨h',g',d',t',o'⟩:=s';have e:o'=s.os:=ho;subst e;exact I.call (g':=g') (t':=t') (d':=d') u dB hg OA
end
abbrev XK:=Value->Option Addr->Hp->Prop
abbrev St:=List (Option V)
abbrev VK:=V->Hp->Prop
abbrev TE:=St->Hp->VK->Prop
abbrev TT:=St->Hp->(Bool->Hp->Prop)->Prop
abbrev TA:=St->Hp->(List V->Hp->Prop)->Prop
structure Ends where
 nx:St->Hp->Prop
 rt:VK
 bk:St->Hp->Prop:=λ_ _=>False
 ct:St->Hp->Prop:=λ_ _=>False
abbrev TS:=Ends->St->Hp->Prop
def EP (X:Cx)(pins:List (Addr×Obj))(σ:St)(Q:VK)(u:Value)(s':Shared):Prop:=∃v H',Inv X pins σ H' s'/\RelV v u/\Q v H'
def TP (X:Cx)(pins:List (Addr×Obj))(σ:St)(Q:Bool->Hp->Prop)(b:Bool)(s':Shared):Prop:=∃H',Inv X pins σ H' s'/\Q b H'
def AP (X:Cx)(pins:List (Addr×Obj))(σ:St)(Q:List V->Hp->Prop)(us:List Value)(s':Shared):Prop:=∃vs H',Inv X pins σ H' s'/\Vals vs us/\Q vs H'
def SP (X:Cx)(pins:List (Addr×Obj))(D:Ends)(f:Flow)(s':Shared):Prop:=
 match f with
 | .next=>∃σ' H',Inv X pins σ' H' s'/\D.nx σ' H'
 | .brk=>∃σ' H',Inv X pins σ' H' s'/\D.bk σ' H'
 | .cont=>∃σ' H',Inv X pins σ' H' s'/\D.ct σ' H'
 | .ret u=>∃v σ' H',Inv X pins σ' H' s'/\RelV v u/\D.rt v H'
def PE (X:Cx)(e:Expr)(t:TE):Prop:=
 ∀(pins:List (Addr×Obj)) (s:Shared) (σ:St) (H:Hp) (Q:VK),Inv X pins σ H s->t σ H Q->wpAny 'c' X.A (eval e X.env) (EP X pins σ Q) X.xe s
def PT (X:Cx)(e:Expr)(t:TT):Prop:=
 ∀(pins:List (Addr×Obj)) (s:Shared) (σ:St) (H:Hp) (Q:Bool->Hp->Prop),Inv X pins σ H s->t σ H Q->wpAny 'c' X.A (isTrue e X.env (eval e X.env)) (TP X pins σ Q) X.xe s
def PW (X:Cx)(e:Expr)(t:TT):Prop:=
 ∀(whole:Sem Value) (pins:List (Addr×Obj)) (s:Shared) (σ:St) (H:Hp) (Q:Bool->Hp->Prop),Inv X pins σ H s->t σ H Q->wpAny 'c' X.A (isTrue e X.env whole) (TP X pins σ Q) X.xe s
theorem PW.pt {X:Cx}{t:TT}(h:PW X e t):PT X e t:=h _
def PA (X:Cx)(es:List Expr)(t:TA):Prop:=
 ∀(pos:Pos) (pins:List (Addr×Obj)) (s:Shared) (σ:St) (H:Hp) (Q:List V->Hp->Prop),Inv X pins σ H s->t σ H Q->wpAny 'c' X.A (spliced 'x') (AP X pins σ Q) X.xe s
def PS (X:Cx)(st:Stmt)(t:TS):Prop:=
 ∀(pins:List (Addr×Obj)) (s:Shared) (σ:St) (H:Hp) (D:Ends),Inv X pins σ H s->t D σ H->wpAny 'c' X.A (exec st X.env) (SP X pins D) X.xe s
def D8 (X:Cx)(st:List Stmt)(t:TS):Prop:=
 ∀(pins:List (Addr×Obj)) (s:Shared) (σ:St) (H:Hp) (D:Ends),Inv X pins σ H s->t D σ H->wpAny 'c' X.A (execs st X.env) (SP X pins D) X.xe s
theorem bH {t:Sem α}{Q Q':α->Shared->Prop}(h:wpAny M A t Q E s)(hQ:∀a s,Q a s->Q' a s):wpAny M A t Q' E s:=HI h hQ λ_ _ x=>x
variable{X:Cx}{D:Ends}{σ:St}{ta te:TE}{tb:TS}{tc:TT}
section
def El (i:Nat):TE:=λσ H Q=>∃v,σ[i]?=some (some v)/\Q v H
def tC (v:V):TE:=λ_ H Q=>Q v H
theorem SX (hN:X.N[i]?=some x)(hv:Vt X.env.scope x)(hd:'p'=false:=by decide)(Em:(x==("__classdict__":Str))=false:=by decide):PE X (.Name x pos) (El i):=by
 exists 1,Q,I,h;obtain⟨v,e,h⟩:=h;obtain⟨m,hn,hl⟩:=I.loc;obtain⟨u,r,l⟩:=hl i x v hN e hv;have fin:EP X pins σ Q u s:=⟨v,H,I,r,h⟩
 rcases l with ⟨hk,hm⟩ | ⟨hk,c,hc,hcell⟩
 . exact wpAny_Name (wpAny_loadName_local I.ok.kind hk hn hm fin) hd
 . rcases hk with hk | hk
   . exact wpAny_Name (wpAny_loadName_cell I.ok.kind hk hc hcell fin) hd
   . exact wpAny_Name (wpAny_loadName_free I.ok.kind hk hc hcell fin Em) hd
theorem En {i j pos}:PE X (.Constant (.int i) j pos) (tC (.int i)):=λ_ _ _ H _ I h=>wpAny_Constant_int ⟨.int i,H,I.tok _,⟨_,rfl⟩,h⟩
theorem WA {b j pos}:PE X (.Constant (.bool b) j pos) (tC (.bl b)):=λ_ _ _ H _ I h=>Constant_bool ⟨.bl b,H,I,rfl,h⟩
theorem SY {j pos}:PE X (.Constant .none j pos) (tC .bS):=λ_ _ _ H _ I h=>Constant_none ⟨.bS,H,I,rfl,h⟩
theorem S6 {x j pos}:PE X (.Constant (.str x) j pos) (tC (.str x)):=λ_ _ _ H _ I h=>Calls.Constant_str ⟨.str x,H,I.tok _,⟨_,rfl⟩,h⟩
def Gl (X:Cx)(x:Str):Prop:=X.env.kindOf x=some .globalImplicit
theorem uY (I:Inv X pins σ H s)(hg:Gl X x)(hm:X.mg x=some u)(h:Q u s)
   (hd:'p'=false:=by decide):wpAny 'c' X.A (eval (.Name x pos) X.env) Q E s:=
 Calls.Name_function_global I.ok.kind hg (Calls.loadGlobal_global (by rw[I.ok.glob];exact I.mod.glob.keeps I.bk) hm h) hd
theorem gw (I:Inv X pins σ H s)(hg:Gl X x)(hm:X.mg x=none)(hv:bootBuiltins x=some u)(h:Q u s)
   (hn:x≠"__name__":=by decide) (hd:'p'=false:=by decide):wpAny 'c' X.A (eval (.Name x pos) X.env) Q E s:=by
 obtain⟨mb,h1,h2⟩:=I.mod.blt;exact Calls.Name_function_global I.ok.kind hg (Calls.loadGlobal_builtin (by rw[I.ok.glob];exact I.mod.glob.keeps I.bk) hm (by rw[I.ok.blt];exact h1.keeps I.bk) ((h2 x hn).trans hv) h) hd
theorem OT {v:V}(hg:Gl X x)(hm:X.mg x=some u)(r:RelV v u)(hd:'p'=false:=by decide):PE X (.Name x pos) (tC v):=
 λ_ _ _ H _ I h=>uY I hg hm ⟨v,H,I,r,h⟩ hd
theorem OU {v:V}(hg:Gl X x)(hm:X.mg x=none)(hv:bootBuiltins x=some u)(r:RelV v u)(hn:x≠"__name__":=by decide)(hd:'p'=false:=by decide):PE X (.Name x pos) (tC v):=
 λ_ _ _ H _ I h=>gw I hg hm hv ⟨v,H,I,r,h⟩ hn hd
variable {a b:Expr}{tb:TE}
def tB (t:TE):TT:=λσ H Q=>t σ H λx H1=>∃c,x=.bl c/\Q c H1
theorem S7 {t:TE}(h:PE X e t)(he:∀whole,isTrue e X.env whole=(do let v <- whole;standAt e.pos;holding [v] (truthy v)):=by intro _;rfl):PT X e (tB t):=by
 exists 1,Q,I,hw;refine isTrue_plain (bH (h pins s σ H _ I hw) λv s1=>?_) (he _);rintro⟨x,H1,I1,r1,q1⟩;obtain⟨d,rfl,q⟩:=q1;cases r1;exact Kj ⟨H1,I1,q⟩
variable {tA OV:TT}{rest:List Expr}
def OW (t u:TT):TT:=λσ H Q=>t σ H λc H1=>if c=true then u σ H1 Q else Q false H1
def Za (t u:TT):TT:=λσ H Q=>t σ H λc H1=>if c=true then Q true H1 else u σ H1 Q
def OX (t:TT):TT:=λσ H Q=>t σ H λc H1=>Q (!c) H1
theorem pw_and1 (ha:PT X a tA):PW X (.BoolOp .And [a] pos) tA:=by
 intro wh pins s σ H Q I h;refine isTrue_and (bH (ha pins s σ H Q I h) λc s1 e=>?_);cases c with
 | true=>exact isTrue_and_nil e
 | false=>exact e
theorem pw_or1 (ha:PT X a tA):PW X (.BoolOp .Or [a] pos) tA:=by
 intro wh pins s σ H Q I h;refine isTrue_or (bH (ha pins s σ H Q I h) λc s1 e=>?_);cases c with
 | false=>exact isTrue_or_nil e
 | true=>exact e
theorem pw_and (ha:PT X a tA)(hb:PW X (.BoolOp .And (b::rest) pos) OV):PW X (.BoolOp .And (a::b::rest) pos) (OW tA OV):=by
 intro wh pins s σ H Q I h;refine isTrue_and (bH (ha pins s σ H _ I h) λc s1=>?_);rintro⟨H1,I1,q1⟩;cases c with
 | true=>exact hb wh pins s1 σ H1 Q I1 q1
 | false=>exact⟨H1,I1,q1⟩
theorem pw_or (ha:PT X a tA)(hb:PW X (.BoolOp .Or (b::rest) pos) OV):PW X (.BoolOp .Or (a::b::rest) pos) (Za tA OV):=by
 intro wh pins s σ H Q I h;refine isTrue_or (bH (ha pins s σ H _ I h) λc s1=>?_);rintro⟨H1,I1,q1⟩;cases c with
 | true=>exact⟨H1,I1,q1⟩
 | false=>exact hb wh pins s1 σ H1 Q I1 q1
theorem S8 (ha:PT X a tA):PT X (.UnaryOp .Not a pos) (OX tA):=by
 exists 1,Q,I,h;exact isTrue_not (ha pins s σ H (λc H1=>Q (!c) H1) I h)
def Cc (ta tb:TE):TE:=λσ H Q=>ta σ H λx H1=>∃c,x=.bl c/\if c=true then tb σ H1 Q else Q (.bl false) H1
def Li (ta tb:TE):TE:=λσ H Q=>ta σ H λx H1=>∃c,x=.bl c/\if c=true then Q (.bl true) H1 else tb σ H1 Q
def Cd (ta:TE):TE:=λσ H Q=>ta σ H λx H1=>∃c,x=.bl c/\Q (.bl (!c)) H1
theorem S9 {op}{t:TE}(h:PE X a t):PE X (.BoolOp op [a] pos) t:=λpins s σ H Q I hw=>BoolOp_one (h pins s σ H Q I hw)
theorem Tc (ha:PE X a ta)(hb:PE X (.BoolOp .And (b::rest) pos) tb):PE X (.BoolOp .And (a::b::rest) pos) (Cc ta tb):=by
 exists 1,Q,I,h;refine BoolOp_and (bH (ha pins s σ H _ I h) λv s1=>?_);rintro⟨x,H1,I1,r1,q1⟩;obtain⟨c,rfl,q1⟩:=q1;cases r1;refine Kj ?_;cases c with
 | true=>exact hb pins s1 σ H1 Q I1 q1
 | false=>exact⟨.bl false,H1,I1,rfl,q1⟩
theorem WB (ha:PE X a ta)(hb:PE X (.BoolOp .Or (b::rest) pos) tb):PE X (.BoolOp .Or (a::b::rest) pos) (Li ta tb):=by
 exists 1,Q,I,h;refine BoolOp_or (bH (ha pins s σ H _ I h) λv s1=>?_);rintro⟨x,H1,I1,r1,q1⟩;obtain⟨c,rfl,q1⟩:=q1;cases r1;refine Kj ?_;cases c with
 | false=>exact hb pins s1 σ H1 Q I1 q1
 | true=>exact⟨.bl true,H1,I1,rfl,q1⟩
theorem Td (ha:PE X a ta):PE X (.UnaryOp .Not a pos) (Cd ta):=by
 exists 1,Q,I,h;refine UnaryOp_ (bH (ha pins s σ H _ I h) λv s1=>?_);rintro⟨x,H1,I1,r1,q1⟩;obtain⟨c,rfl,q1⟩:=q1;cases r1;exact not_of (Kj ⟨.bl (!c),H1,I1,rfl,q1⟩)
def Zb (t:TT)(ta tb:TE):TE:=λσ H Q=>t σ H λc H1=>if c=true then ta σ H1 Q else tb σ H1 Q
theorem Lj {c:Expr}(hc:PT X c tA)(ha:PE X a ta)(hb:PE X b tb):PE X (.IfExp c a b pos) (Zb tA ta tb):=by
 exists 1,Q,I,h;refine wpAny_IfExp (bH (hc pins s σ H _ I h) λd s1=>?_);rintro⟨H1,I1,q1⟩;cases d with
 | true=>exact ha pins s1 σ H1 Q I1 q1
 | false=>exact hb pins s1 σ H1 Q I1 q1
end
def aQ (K:Frag)(H:Hp)(a:Addr)(xs:List V):Prop:=
 Rd H a (.lst xs)∨
   ∃(o:Obj) (br:Array Value) (n:Nat),K.lookup a=some o/\o.cls=.type "list"/\o.dict=none/\o.data=.seq br n/\br.size<=sizeLine/\Vals xs br.toList
def yq (K:Frag)(H:Hp)(a:Addr)(xs:List V):Prop:=
 Rd H a (.tup xs)∨
   ∃(o:Obj) (br:Array Value) (n:Nat),K.lookup a=some o/\o.cls=.type "tuple"/\o.data=.seq br n/\br.size<=sizeLine/\Vals xs br.toList
def Eo:Value->Option V
 | .none=>some .bS
 | .bool b=>some (.bl b)
 | .int i _=>some (.int i)
 | .str x _=>some (.str x)
 | .bytes b _=>some (.Gk b)
 | .float b _=>some (.SR b)
 | .ref a=>some (.ref a)
 | .type n=>some (.ty n)
 | _=>none
theorem RelV.abs {x:V}(r:RelV x u):Eo u=some x:=by
 cases x with
 | bS=>cases r;rfl
 | bl _=>cases r;rfl
 | int _=>obtain⟨t,rfl⟩:=r;rfl
 | str _=>obtain⟨t,rfl⟩:=r;rfl
 | Gk _=>obtain⟨t,rfl⟩:=r;rfl
 | SR _=>obtain⟨t,rfl⟩:=r;rfl
 | ref _=>cases r;rfl
 | ty _=>cases r;rfl
theorem RelV.inj {x y:V}(r:RelV x u)(q:RelV y u):x=y:=Option.some.inj (r.abs.symm.trans q.abs)
theorem Vals.inj:∀{xs ys:List V}{us:List Value},Vals xs us->Vals ys us->xs=ys:=by
 intro xs ys us h;induction h generalizing ys with
 | nil=>intro q;cases q;rfl
 | cons r t ih=>
   intro q;cases q with
   | cons r' t'=>rw[r.inj r',ih t']
section
variable {a:Addr}{ys:List V}
theorem aQ.of {K:Frag}(h:H a=some (.lst xs)):aQ K H a xs:=.inl (.inl h)
theorem yq.of {K:Frag}(h:H a=some (.tup xs)):yq K H a xs:=.inl (.inl h)
theorem Inv.list (I:Inv X pins σ H s)(h:aQ X.K H a xs):∃br:List Value,Vals xs br/\PlainL s.heap a br.toArray/\xs.length<=sizeLine:=by
 rcases h with h | ⟨o,br,n,hk,hc,hd,hs,hz,r⟩
 . obtain⟨z,br,n,r,e⟩:=h.ok I.dB;exact⟨br,r,⟨_,n,e,rfl,rfl,rfl⟩,z⟩
 . refine⟨br.toList,r,⟨o,n,I.qK a o hk,hc,hd,by simpa using hs⟩,?_⟩;have e:=r.length;simp only[dy]at e;omega
theorem Inv.tuple (I:Inv X pins σ H s)(h:yq X.K H a xs):∃br:List Value,Vals xs br/\IsTup s.heap a br.toArray/\xs.length<=sizeLine:=by
 rcases h with h | ⟨o,br,n,hk,hc,hs,hz,r⟩
 . obtain⟨z,br,r,p⟩:=h.ok I.dB;exact⟨br,r,p,z⟩
 . refine⟨br.toList,r,⟨o,I.qK a o hk,hc,n,by simpa using hs⟩,?_⟩;have e:=r.length;simp only[dy]at e;omega
theorem Inv.mP (I:Inv X pins σ H s)(h:aQ X.K H a xs)(h':aQ X.K H a ys):xs=ys:=by
 obtain⟨br,r,⟨o,n,e,_,_,d⟩,_⟩:=I.list h;obtain⟨its',r',⟨o',n',e',_,_,d'⟩,_⟩:=I.list h';rw[e]at e';cases e';rw[d]at d';injection d' with d1 _;have:br=its':=by simpa using congrArg Array.toList d1
 subst this;exact r.inj r'
end
abbrev Cx.yr (X:Cx)(E:Value->Shared->Prop):Cx:={ X with xe:=E }
abbrev Cx.OB (X:Cx):Cx:=X.yr λ_ _=>False
theorem Cx.Ok.yr (ok:X.Ok)(E:Value->Shared->Prop):(X.yr E).Ok:=
 ⟨ok.mod,ok.kind,ok.glob,ok.blt,ok.above,ok.inj,ok.has,ok.Vu,ok.hd,ok.frames,ok.Ww,ok.exf,ok.bs,ok.Oz,ok.Jd,ok.Lh,ok.sP,ok.QV⟩
theorem Cx.Ok.mQ (ok:(X.yr E).Ok):X.Ok:=
 ⟨ok.mod,ok.kind,ok.glob,ok.blt,ok.above,ok.inj,ok.has,ok.Vu,ok.hd,ok.frames,ok.Ww,ok.exf,ok.bs,ok.Oz,ok.Jd,ok.Lh,ok.sP,ok.QV⟩
theorem Inv.yr (I:Inv X pins σ H s)(E:Value->Shared->Prop):Inv (X.yr E) pins σ H s:=⟨I.ok.yr E,I.os,I.bare,I.base,I.loc,I.cell,I.free,I.l7,I.pin,I.dB,I.len⟩
theorem Inv.mQ (I:Inv (X.yr E) pins σ H s):Inv X pins σ H s:=⟨I.ok.mQ,I.os,I.bare,I.base,I.loc,I.cell,I.free,I.l7,I.pin,I.dB,I.len⟩
theorem SP.mQ {f:Flow}(h:SP (X.yr E) pins D f s'):SP X pins D f s':=by
 cases f with
 | next=>obtain⟨σ',H',I,q⟩:=h;exact⟨σ',H',I.mQ,q⟩
 | brk=>obtain⟨σ',H',I,q⟩:=h;exact⟨σ',H',I.mQ,q⟩
 | cont=>obtain⟨σ',H',I,q⟩:=h;exact⟨σ',H',I.mQ,q⟩
 | ret u=>obtain⟨v,σ',H',I,r,q⟩:=h;exact⟨v,σ',H',I.mQ,r,q⟩
theorem D8.OB {st:List Stmt}{t:TS}(h:D8 X.OB st t):D8 X st t:=λpins s σ H D I hw=>
 HI (h pins s σ H D (I.yr _) hw) (λ_ _ q=>q.mQ) λ_ _ z=>False.elim z
section
variable {st:Stmt}{rest:List Stmt}{t u:TS}
def Gp:TS:=λD σ H=>D.nx σ H
def OY (t u:TS):TS:=λD σ H=>t { D with nx:=u D } σ H
theorem OZ:D8 X [] Gp:=λ_ _ σ H _ I h=>wpAny_execs_nil ⟨σ,H,I,h⟩
theorem Lk (h1:PS X st t)(h2:D8 X rest u):D8 X (st::rest) (OY t u):=by
 exists 1,D,I,h;refine wpAny_execs_cons (bH (h1 pins s σ H { D with nx:=u D } I h) λf s1 q=>?_);cases f with
 | next=>
   obtain⟨σ',H',I',q⟩:=q;exact h2 pins s1 σ' H' D I' q
 | ret v=>exact q
 | brk=>exact q
 | cont=>exact q
theorem O0 (h1:PS X st t):D8 X [st] t:=by
 exists 1,D,I,h;refine wpAny_execs_cons (bH (h1 pins s σ H D I h) λf s1 q=>?_);cases f with
 | next=>exact wpAny_execs_nil q
 | ret v=>exact q
 | brk=>exact q
 | cont=>exact q
theorem Inv.quiet (I:Inv X pins σ H s):interactive X.env=false:=by simp[interactive,I.ok.kind]
def Gq (te:TE):TS:=λD σ H=>te σ H λ_ H1=>D.nx σ H1
theorem O1 (he:PE X e te)(hs:swapsWith e none pos.line X.env=pure false:=by rfl):PS X (.Expr e pos) (Gq te):=by
 exists 1,D,I,h;refine wpAny_Expr_any (bH (he pins s σ H _ I h) λv s1=>?_) I.quiet hs;rintro⟨x,H1,I1,r1,q1⟩;exact ⟨σ,H1,I1,q1⟩
def O2 (te:TE):TS:=λD σ H=>te σ H D.rt
theorem Te (he:PE X e te):PS X (.Return (some e) pos) (O2 te):=by
 exists 1,D,I,h;refine wpAny_Return_some (bH (he pins s σ H _ I h) λv s1=>?_);rintro⟨x,H1,I1,r1,q1⟩;exact ⟨x,σ,H1,I1,r1,q1⟩
def QX:TS:=λD _ H=>D.rt .bS H
def O3 (c:TT)(t u:TS):TS:=λD σ H=>c σ H λb H1=>if b=true then t D σ H1 else u D σ H1
theorem WC {c:Expr}{a b:List Stmt}(hc:PT X c tc)(ha:D8 X a t)(hb:D8 X b u):PS X (.If c a b pos) (O3 tc t u):=by
 exists 1,D,I,h;refine wpAny_If (bH (hc pins s σ H _ I h) λd s1=>?_);rintro⟨H1,I1,q1⟩;cases d with
 | true=>exact ha pins s1 σ H1 D I1 q1
 | false=>exact hb pins s1 σ H1 D I1 q1
def Ax:TS:=λ_ _ _=>False
theorem Ll:PS X st Ax:=λ_ _ _ _ _ _ h=>h.elim
end
abbrev TG:=V->St->Hp->(St->Hp->Prop)->Prop
abbrev BY:=List V->St->Hp->(St->Hp->Prop)->Prop
def PG (X:Cx)(target:Expr)(t:TG):Prop:=
 ∀(pins:List (Addr×Obj)) (s:Shared) (σ:St) (H:Hp) (v:V) (u:Value) (Q:St->Hp->Prop),Inv X pins σ H s->RelV v u->t v σ H Q->
   wpAny 'c' X.A (assign target X.env u) (λ_ s'=>∃σ' H',Inv X pins σ' H' s'/\Q σ' H') X.xe s
def WD (X:Cx)(ts:List Expr)(t:BY):Prop:=
 ∀(pins:List (Addr×Obj)) (s:Shared) (σ:St) (H:Hp) (vs:List V) (us:List Value) (Q:St->Hp->Prop),Inv X pins σ H s->Vals vs us->t vs σ H Q->
   wpAny 'c' X.A (assignInOrder ((assignEach ts X.env).map (·.2)) us) (λ_ s'=>∃σ' H',Inv X pins σ' H' s'/\Q σ' H') X.xe s
abbrev O4:=V->V->V->Hp->(Hp->Prop)->Prop
def Tf (X:Cx)(t:O4):Prop:=
 ∀(pins:List (Addr×Obj)) (s:Shared) (σ:St) (H:Hp) (o i v:V) (ov iv u:Value) (Q:Hp->Prop),Inv X pins σ H s->RelV o ov->RelV i iv->RelV v u->t o i v H Q->
   wpAny 'c' X.A (setItem ov iv u) (λ_ s'=>∃H',Inv X pins σ H' s'/\Q H') X.xe s
def bI (i:Nat):TG:=λv σ H Q=>Q (σ.set i (some v)) H
theorem Ay (hN:X.N.Nodup)(hi:X.N[i]?=some x)(hx:Loc X.env.scope x)(hf:X.fn x=true∨X.env.scope.names.lookup x=some .local:=by first | exact .inl rfl | exact .inr rfl | assumption):PG X (.Name x pos) (bI i):=by
 exists 1,v,u,Q,I,r,h;exact wpAny_assign_Name (Cb I hN hi hx r (λs' I'=>⟨_,H,I',h⟩) hf)
def vB:BY:=λvs σ H Q=>vs=[]/\Q σ H
def iy (t:TG)(u:BY):BY:=λvs σ H Q=>∃v r,vs=v::r/\t v σ H λσ' H'=>u r σ' H' Q
theorem O5:WD X [] vB:=by
 exists 1,vs,us,Q,I,r,h;obtain⟨e,h⟩:=h;subst e;cases r;exact assignInOrder_nil ⟨σ,H,I,h⟩
theorem Lm {t:TG}{u:BY}(h1:PG X e t)(h2:WD X es u)
   (hs:(assignEach (e::es) X.env).map (·.2)=assign e X.env::(assignEach es X.env).map (·.2):=by rfl):WD X (e::es) (iy t u):=by
 exists 1,vs,us,Q,I,r,h;obtain⟨v,vr,e1,h⟩:=h;subst e1;cases r with
 | cons r rr=>
   rw[hs];refine assignInOrder_cons (bH (h1 pins s σ H _ _ _ I r h) λ_ s1=>?_);rintro⟨σ1,H1,I1,q1⟩;exact h2 pins s1 σ1 H1 _ _ Q I1 rr q1
def aat (K:Frag)(n:Nat)(t:BY):TG:=λv σ H Q=>∃a xs,v=.ref a/\yq K H a xs/\xs.length=n/\t xs σ H Q
theorem Tg {k:Nat}{t:BY}(hc:X.calm=true)(h:WD X es t)
   (hn:(assignEach es X.env).length=n:=by rfl) (Az:(assignEach es X.env).findIdx? (·.1)=none:=by rfl):PG X (.Tuple es k pos) (aat X.K n t):=by
 exists 1,v,u,Q,I,r,hw;obtain⟨a,xs,e1,hq,hl,hw⟩:=hw;subst e1;cases r;obtain⟨br,rv,ht,hz⟩:=I.tuple hq;refine assign_Tuple_tuple (I.ok.hd hc) ht (by simp[hn,<- hl,rv.length]) Az λh' hx=>?_;have I1:Inv X pins σ H { s with heap:=h' }:=I.kept (t':=s.toks) λb o e=>hx b o (cv (ba e)) e;exact h pins _ σ H xs _ Q I1 (by simpa using rv) hw
def O6 (to ti:TE)(t:O4):TG:=λv σ H Q=>to σ H λo H1=>ti σ H1 λi H2=>t o i v H2 λH3=>Q σ H3
theorem Th {o i:Expr}{to ti:TE}{t:O4}(ho:PE X o to)(hi:PE X i ti)(hs:Tf X t)
   (ha:∀v,assign (.Subscript o i pos) X.env v=(do
     let ov <- holding [v] (eval o X.env)
     let iv <- holding [v,ov] (eval i X.env)
     standAt pos
     holding [v,ov,iv] (setItem ov iv v)
     release [v,ov,iv] []):=by intro _;rfl):PG X (.Subscript o i pos) (O6 to ti t):=by
 exists 1,v,u,Q,I,r,h;rw[ha];refine Hc (IH (bH (ho pins s σ H _ I h) λov s1=>?_));rintro⟨x,H1,I1,r1,q1⟩;refine Hc (IH (bH (hi pins s1 σ H1 _ I1 q1) λiv s2=>?_));rintro⟨y,H2,I2,r2,q2⟩;refine Hc (Md (Hc (IH (bH (hs pins s2 σ H2 x y v ov iv u _ I2 r1 r2 r q2) λ_ s3=>?_))));rintro⟨H3,I3,q3⟩;exact wpAny_release ⟨σ,H3,I3,q3⟩
def AA (te:TE)(g:TG):TS:=λD σ H=>te σ H λx H1=>g x σ H1 D.nx
theorem Tj {g:TG}(he:PE X e te)(hg:PG X tg g)(hs:swapsWithSole [tg] e pos.line X.env=pure false:=by rfl)(hw:swappedStores [tg] e X.env=pure none:=by rfl)
   (h1:(assignEach [tg] X.env).map (·.2)=[assign tg X.env]:=by rfl):PS X (.Assign [tg] e pos) (AA te g):=by
 exists 1,D,I,h;refine wpAny_Assign_stores (bH (he pins s σ H _ I h) λv s1=>?_) hs hw;rintro⟨x,H1,I1,r1,q1⟩;rw[h1];exact bH (hg pins s1 σ H1 x v _ I1 r1 q1) λ_ s2 q=>q
theorem Tn (hN:X.N.Nodup)(hi:X.N[i]?=some x)(hx:Loc X.env.scope x)(he:PE X e te)(hs:swapsWith e (some (.Name x pos')) pos.line X.env=pure false:=by rfl)(hf:X.fn x=true∨X.env.scope.names.lookup x=some .local:=by first | exact .inl rfl | exact .inr rfl | assumption):
   PS X (.Assign [.Name x pos'] e pos) (AA te (bI i)):=by
 exists 1,D,I,h;refine wpAny_Assign_Name (bH (he pins s σ H _ I h) λv s1=>?_) hs;rintro⟨y,H1,I1,r1,q1⟩;exact Cb I1 hN hi hx r1 (λs2 I2=>⟨_,H1,I2,q1⟩) hf
def AB (c:TT)(tb:TS):TS:=λD σ H=>∃W:Nat->St->Hp->Prop,(∃m,W m σ H)/\∀m σ H,W m σ H->
 c σ H λb H1=>if b=true then ∃N:St->Hp->Prop,(∀σ' H',N σ' H'->∃m',m' < m/\W m' σ' H')/\tb { D with nx:=N,ct:=N,bk:=D.nx } σ H1 else D.nx σ H1
theorem Ln {c:Expr}(hp:PassesOwn 'c' X.A X.env X.xe)(hc:PT X c tc)(hb:D8 X body tb):PS X (.While c body [] pos) (AB tc tb):=by
 exists 1,D,I,h;obtain⟨W,⟨m0,w0⟩,turn⟩:=h;refine wpAny_While (codeAny_whileLoop (λn s'=>∃σ' H',Inv X pins σ' H' s'/\W n σ' H') ?_ m0 ⟨σ,H,I,w0⟩);rintro n s1 ⟨σ1,H1,I1,w1⟩;refine Pm hp (bH (hc pins s1 σ1 H1 _ I1 (turn n σ1 H1 w1)) λb s2=>?_);rintro⟨H2,I2,q2⟩;cases b with
 | true=>
   obtain⟨N,hN,q2⟩:=q2;rw[Hk rfl];refine Pm hp (bH (hb pins s2 σ1 H2 _ I2 q2) λf s3 q3=>?_);cases f with
   | next=>
     obtain⟨σ3,H3,I3,n3⟩:=q3;obtain⟨m',hm,w3⟩:=hN σ3 H3 n3;exact⟨m',hm,σ3,H3,I3,w3⟩
   | cont=>
     obtain⟨σ3,H3,I3,n3⟩:=q3;obtain⟨m',hm,w3⟩:=hN σ3 H3 n3;exact⟨m',hm,σ3,H3,I3,w3⟩
   | brk=>exact q3
   | ret v=>exact q3
 | false=>
   rw[He dt];exact wpAny_execs_nil ⟨σ1,H2,I2,q2⟩
structure It where
 go:Nat->Hp->Prop
 OC:Nat->Hp->V->Hp->Prop
 stop:Nat->Hp->Prop
def mR (X:Cx)(pins:List (Addr×Obj))(H:Hp)(b:Addr):Prop:=
 H b=none/\b≠X.env.locals/\b∉X.fs/\(b∈X.ex∨X.s₀.heap.objs.size<=b)/\(∀x c,X.env.cells.lookup x=some c->c≠b)/\∀p∈X.pn++pins,p.1≠b
theorem Inv.Lo {H':Hp}(I:Inv X pins σ H s)(hb:s.heap.objs.size<=b)(hn:H' b=none):mR X pins H' b:=by
 refine⟨hn,fI (cm I.lt hb),I.SS hb,.inr (cw I.sz hb),λx c e z=>?_,λp hp z=>?_⟩
 . obtain⟨v,q⟩:=I.cell x c e;exact absurd (cm q.lt (by rw[z];exact hb)) (hU _)
 . exact absurd (cm (ba (I.pin p hp).1) (by rw[z];exact hb)) (hU _)
structure Turn (P:Program)(w:World)(K:Frag)(tg:Expr)(J:It)(fp:List Addr)(it:Addr)(tn:Nat->Heap->Prop):Prop where
 mem:it∈fp
 obj:∀i h,tn i h->∀b∈fp,∃o,h.get? b=some o/\∀v,o.data≠.cell v
 keep:∀i h h',tn i h->(∀b∈fp,∀o,h.get? b=some o->h'.get? b=some o)->tn i h'
 item:∀(X:Cx),X.prog=P->X.w=w->X.K=K->X.calm=true->∀(i:Nat) (pins:List (Addr×Obj)) (s:Shared) (σ:St) (H:Hp) (E:Value->Shared->Prop),Inv X pins σ H s->(∀b∈fp,mR X pins H b)->tn i s.heap->J.go i H->
   wpAny (model P w) X.A (pyNext (.ref it)) (λr s1=>∃u,r=some u/\
     wpAny (model P w) X.A (letOwnedTupleGo tg (.ref it) u) (λ_ s2=>∃x H',Inv X pins σ H' s2/\RelV x u/\J.OC i H x H'/\tn (i + 1) s2.heap/\∀b∈fp,H' b=none) E s1) E s
 done:∀(X:Cx),X.prog=P->X.w=w->X.K=K->X.calm=true->∀(i:Nat) (pins:List (Addr×Obj)) (s:Shared) (σ:St) (H:Hp) (E:Value->Shared->Prop),Inv X pins σ H s->(∀b∈fp,mR X pins H b)->tn i s.heap->J.stop i H->
   wpAny (model P w) X.A (pyNext (.ref it)) (λr s1=>r=none/\Inv X pins σ H s1) E s
 self:∀(A:Around) (i:Nat) (s:Shared) (Q:Value->Shared->Prop) (E:Value->Shared->Prop),tn i s.heap->Q (.ref it) s->wpAny (model P w) A (pyIter (.ref it)) Q E s
abbrev TI:=St->Hp->(It->Hp->Prop)->Prop
def PIE (X:Cx)(pins:List (Addr×Obj))(σ:St)(tg:Expr)(R:It->Hp->Prop)(To:Value)(s2:Shared):Prop:=
 ∃(it:Addr) (fp:List Addr) (tn:Nat->Heap->Prop) (J:It) (H':Hp),To=.ref it/\Inv X pins σ H' s2/\Turn X.prog X.w X.K tg J fp it tn/\tn 0 s2.heap/\(∀b∈fp,mR X pins H' b)/\R J H'
def PI (X:Cx)(tg iter:Expr)(wi:TI):Prop:=
 ∀(pins:List (Addr×Obj)) (s:Shared) (σ:St) (H:Hp) (R:It->Hp->Prop),Inv X pins σ H s->wi σ H R->
   wpAny 'c' X.A (eval iter X.env) (λv s1=>wpAny 'c' X.A (pyIter v) (PIE X pins σ tg R) X.xe s1) X.xe s
theorem Lp {n:String}{vs:Array Value}{Q:Unit->Shared->Prop}(ho:s.heap.get? it=some o)(hc:o.cls=.type n)(hd:o.data=.fields vs)
   (hn:["enumerate","zip","dict_itemiterator","dict_reverseitemiterator","odict_iterator","itertools.zip_longest","itertools.pairwise"].contains n=false) (hQ:Q () s):wpAny M A (letOwnedTupleGo tg (.ref it) u) Q E s:=by
 unfold letOwnedTupleGo;cases tg <;> first
   | exact Hd hQ
   | (cases u <;> first
       | exact Hd hQ
       | (refine Hc (wpAny_load ho ?_)
          rw[hc,hd];show wpAny M A (if (["enumerate","zip","dict_itemiterator","dict_reverseitemiterator","odict_iterator","itertools.zip_longest","itertools.pairwise"].contains n&&vs[0]?==some (rawInt _))=true then _ else _) Q E s;rw[He (by intro h;rw[hn,FV]at h;cases h)];exact Hd hQ))
def ug (K:Frag)(a:Addr):It:=
 ⟨λi H=>∃xs x,aQ K H a xs/\xs[i]?=some x,λi H x H'=>H'=H/\∀xs,aQ K H a xs->xs[i]?=some x,λi H=>∃xs,aQ K H a xs/\xs.length<=i⟩
def Zc (K:Frag)(a:Addr):It:=
 ⟨λi H=>∃xs x,yq K H a xs/\xs[i]?=some x,λi H x H'=>H'=H/\∀xs,yq K H a xs->xs[i]?=some x,λi H=>∃xs,yq K H a xs/\xs.length<=i⟩
def AD (lo:Int)(n:Nat):It:=⟨λi _=>i < n,λi H x H'=>H'=H/\x=.int (lo + i),λi _=>n<=i⟩
theorem Jf {K:Frag}(a it:Addr):Turn P w K tg (ug K a) [it] it (λi h=>h.IsListIter it a i) where
 mem:=Y2
 obj:=λi h st b hb=>by
   have e:b=it:=by simpa using hb
   subst e;obtain⟨o,e,c,d⟩:=st;exact⟨o,e,λv z=>by rw[d]at z;cases z⟩
 keep:=λi h h' st k=>st.at λo e=>k it Y2 o e
 item:=by
   intro X hP hw hK hc i pins s σ H E I hf st hg;subst hP hw hK;obtain⟨xs,x,hq,hx⟩:=hg;obtain⟨br,rv,p,hz⟩:=I.list hq;obtain⟨u,hu,ru⟩:=rv.get hx;obtain⟨f0,f1,f2,f3,f4,f5⟩:=hf it Y2;refine wpAny_pyNext_list_item st p.isList (x:=u) (by simpa using hu) λh' st' sb=>?_;have I1:Inv X pins σ H { s with heap:=h' }:=I.turned (t':=s.toks) (λb o hb e=>(sb.2 b hb).trans e) f0 f1 f3 f4 f5;obtain⟨o,e,c,d⟩:=id st';exact⟨u,rfl,Lp (s:={ s with heap:=h' }) e c d Y1 ⟨x,H,I1,ru,⟨rfl,λys hy=>by rw[I.mP hy hq];exact hx⟩,st',λb hb=>(hf b hb).1⟩⟩
 done:=by
   intro X hP hw hK hc i pins s σ H E I hf st hg;subst hP hw hK;obtain⟨xs,hq,hx⟩:=hg;obtain⟨br,rv,p,hz⟩:=I.list hq;obtain⟨f0,f1,f2,f3,f4,f5⟩:=hf it Y2;have hl:=rv.length;exact wpAny_pyNext_list_end (I.ok.hd hc) st p.isList aaa λh' eb=>⟨rfl,I.turned (t':=s.toks) (λb o hb e=>eb b o hb e) f0 f1 f3 f4 f5⟩
 self:=λ_ _ _ _ _ st h=>wpAny_pyIter_listiter st h
theorem Er {K:Frag}(it:Addr)(lo:Int)(n:Nat):Turn P w K tg (AD lo n) [it] it (λi h=>IsRangeIter h it (lo + (i:Nat) * 1) ((n:Int) - (i:Nat)) 1) where
 mem:=Y2
 obj:=λi h st b hb=>by
   have e:b=it:=by simpa using hb
   subst e;exact⟨_,st,λv z=>by
     have z':Data.fields _=Data.cell v:=z;cases z'⟩
 keep:=λi h h' st k=>k it Y2 _ st
 item:=by
   intro X hP hw hK hc i pins s σ H E I hf st hg;subst hP hw hK;obtain⟨f0,f1,f2,f3,f4,f5⟩:=hf it Y2;have W:=Walks.range (prog:=X.prog) (w:=X.w) (I.ok.hd hc) it lo 1 n;refine W.item i s _ _ hg st λv h' tk hv st' kk=>?_;obtain⟨t,rfl⟩:=hv;have I1:Inv X pins σ H { s with heap:=h',toks:=tk }:=I.turned (λb o hb e=>kk b o (by simpa using hb) e) f0 f1 f3 f4 f5;refine⟨_,rfl,Lp (s:={ s with heap:=h',toks:=tk }) (n:="range_iterator") st' rfl rfl Y1 ⟨.int (lo + i),H,I1,⟨t,?_⟩,⟨rfl,rfl⟩,st',λb hb=>(hf b hb).1⟩⟩;rw[Int.mul_one]
 done:=by
   intro X hP hw hK hc i pins s σ H E I hf st hg;subst hP hw hK;obtain⟨f0,f1,f2,f3,f4,f5⟩:=hf it Y2;exact wpAny_pyNext_range_end (I.ok.hd hc) st (by have:n<=i:=hg;omega) λh' eb=>⟨rfl,I.turned (t':=s.toks) (λb o hb e=>eb b o hb e) f0 f1 f3 f4 f5⟩
 self:=λ_ _ _ _ _ st h=>wpAny_pyIter_rangeiter st h
def qQ (K:Frag)(tl:TE):TI:=λσ H R=>tl σ H λx H1=>∃a,x=.ref a/\(∃xs,aQ K H1 a xs)/\R (ug K a) H1
def Tp (K:Frag)(tl:TE):TI:=λσ H R=>tl σ H λx H1=>∃a,x=.ref a/\(∃xs,yq K H1 a xs)/\R (Zc K a) H1
theorem O7 {l:Expr}{tl:TE}(hl:PE X l tl):PI X tg l (qQ X.K tl):=by
 exists 1,R,I,h;refine bH (hl pins s σ H _ I h) λv s1=>?_;rintro⟨x,H1,I1,r1,q1⟩;obtain⟨a,e,⟨xs,hq⟩,q⟩:=q1;subst e;cases r1;obtain⟨br,rv,p,hz⟩:=I1.list hq;refine Nw p.isList ?_;refine⟨s1.heap.objs.size,[s1.heap.objs.size],_,_,H1,rfl,I1.kept (t':=s1.toks) λb o e=>ae _ e,Jf a _,⟨_,cn _ rfl,rfl,rfl⟩,λb hb=>?_,q⟩;have e:b=s1.heap.objs.size:=by simpa using hb
 subst e;exact I1.Lo (ag _) (I1.dB.fresh (ag _))
theorem Ce {R:It->Hp->Prop}{lo hi:Int}{t u v:Tok}{tk:Nat}(I:Inv X pins σ H s)(h1:-(2 ^ 62)<=lo)(h2:lo < 2 ^ 62)(h3:-(2 ^ 62)<=hi)(h4:hi < 2 ^ 62)
   (q:R (AD lo (hi - lo).toNat) H):wpAny 'c' X.A (pyIter 'i') (PIE X pins σ tg R) E { s with heap:=s.heap.push { cls:=.type "range",data:=.fields #[.int lo t,.int hi u,.int 1 v] },toks:=tk }:=by
 refine wpAny_pyIter_range (IsRange.new ..) (small_one h1 h2 h3 h4) ?_;have I1:Inv X pins σ H { s with heap:=s.heap.push { cls:=.type "range",data:=.fields #[.int lo t,.int hi u,.int 1 v] },toks:=tk }:=I.kept λb o e=>ae _ e;refine⟨(s.heap.push { cls:=.type "range",data:=.fields #[.int lo t,.int hi u,.int 1 v] }).objs.size,[(s.heap.push { cls:=.type "range",data:=.fields #[.int lo t,.int hi u,.int 1 v] }).objs.size],_,_,H,rfl,
   I1.kept (t':=tk) λb o e=>ae _ e,Er _ lo (hi - lo).toNat,?_,λb hb=>?_,q⟩
 . have e1:lo + ((0:Nat):Int) * 1=lo:=Y2
   have e2:(((hi - lo).toNat:Nat):Int) - ((0:Nat):Int)=Builtin.Range.rangeSize lo hi 1:=by rw[rangeSize_one];split <;> omega
   show IsRangeIter _ _ (lo + ((0:Nat):Int) * 1) ((((hi - lo).toNat:Nat):Int) - ((0:Nat):Int)) 1;rw[e1,e2];exact cn _ rfl
 . have e:b=(s.heap.push { cls:=.type "range",data:=.fields #[.int lo t,.int hi u,.int 1 v] }).objs.size:=by simpa using hb
   subst e;exact I1.Lo (ag _) (I1.dB.fresh (ag _))
def Cf (ta:TA):TI:=λσ H R=>ta σ H λvs H1=>∃j:Int,vs=[.int j]/\-(2 ^ 62)<=j/\j < 2 ^ 62/\R (AD 0 j.toNat) H1
def Cg (ta:TA):TI:=λσ H R=>ta σ H λvs H1=>∃i j:Int,vs=[.int i,.int j]/\(-(2 ^ 62)<=i/\i < 2 ^ 62/\-(2 ^ 62)<=j/\j < 2 ^ 62)/\R (AD i (j - i).toNat) H1
theorem Jg {a:Expr}{ta:TA}{p:Pos}(hg:Gl X "range")(hm:X.mg "range"=none)(ha:PA X [a] ta)(hs:starEach [a] X.env=[(false,eval a X.env)]:=by rfl):PI X tg (.Call (.Name "range" p) [a] [] pos) (Cf ta):=by
 exists 1,R,I,h;refine Call_ (gw I hg hm boot_range (dC (bH (ha pos pins s σ H _ I h) λus s1=>?_) hs rfl));rintro⟨vs,H1,I1,r1,q1⟩;obtain⟨j,e,q1,q2,q⟩:=q1;subst e;cases r1 with
 | cons r rr=>
   cases rr;obtain⟨t,rfl⟩:=r;exact call_range_1 (Ce I1 X2 X2 q1 q2 (by simpa using q))
theorem Jh {a b:Expr}{ta:TA}{p:Pos}(hg:Gl X "range")(hm:X.mg "range"=none)(ha:PA X [a,b] ta)(hs:starEach [a,b] X.env=[(false,eval a X.env),(false,eval b X.env)]:=by rfl)(Lq:starEach [b] X.env=[(false,eval b X.env)]:=by rfl):
   PI X tg (.Call (.Name "range" p) [a,b] [] pos) (Cg ta):=by
 exists 1,R,I,h;refine Call_ (gw I hg hm boot_range (dC (bH (ha pos pins s σ H _ I h) λus s1=>?_) (by rw[hs,Lq]) (by rw[Lq];rfl)));rintro⟨vs,H1,I1,r1,q1⟩;obtain⟨i,j,e,⟨q1,q2,q3,q4⟩,q⟩:=q1;subst e;cases r1 with
 | cons r rr=>
   cases rr with
   | cons r' rr=>
     cases rr;obtain⟨t,rfl⟩:=r;obtain⟨t',rfl⟩:=r';exact call_range_2 (Ce I1 q1 q2 q3 q4 q)
def pD (wi:TI)(g:TG)(tb:TS):TS:=λD σ H=>wi σ H λJ H1=>∃W:Nat->Nat->St->Hp->Prop,(∃m,W 0 m σ H1)/\∀i m σ H,W i m σ H->
 (J.stop i H/\D.nx σ H)∨(J.go i H/\∃N:St->Hp->Prop,(∀σ' H',N σ' H'->∃m',m' < m/\W (i + 1) m' σ' H')/\∀x H',J.OC i H x H'->g x σ H' λσ2 H2=>tb { D with nx:=N,ct:=N,bk:=D.nx } σ2 H2)
def mS (fp:List Addr)(h:Heap):List (Addr×Obj):=fp.filterMap λb=>(h.get? b).map λo=>(b,o)
theorem fh (hb:b∈fp)(e:h.get? b=some o):(b,o)∈mS fp h:=List.mem_filterMap.mpr ⟨b,hb,by rw[e];rfl⟩
theorem Ji {p:Addr×Obj}(hp:p∈mS fp h):p.1∈fp/\h.get? p.1=some p.2:=by
 obtain⟨b,hb,e⟩:=List.mem_filterMap.mp hp;cases q:h.get? b with
 | none=>rw[q]at e;cases e
 | some o=>
   rw[q]at e;have e':(b,o)=p:=Option.some.inj e;subst e';exact⟨hb,q⟩
theorem Inv.pinned (I:Inv X pins σ H s)(hf:∀b∈fp,mR X pins H b)(ho:∀b∈fp,∃o,s.heap.get? b=some o/\∀v,o.data≠.cell v):Inv X (pins++mS fp s.heap) σ H s:=
 I.uX λp hp=>(de.mp hp).elim (λz=>I.pin p (cf _ z)) λz=>by
   obtain⟨hb,e⟩:=Ji z;obtain⟨f0,f1,f2,_⟩:=hf p.1 hb;obtain⟨o,e',d⟩:=ho p.1 hb;rw[e]at e';cases e';exact⟨e,f0,f1,f2,d⟩
theorem Inv.iA {pl:List (Addr×Obj)}(I:Inv X (pins++pl) σ H s):Inv X pins σ H s:=I.uX λp hp=>I.pin p (cf _ (js _ hp))
theorem Tq {iter:Expr}{wi:TI}{g:TG}(hp:PassesOwn 'c' X.A X.env X.xe)(hc:X.calm=true)(hi:PI X tg iter wi)(hg:PG X tg g)(hb:D8 X body tb)
   (hs:∀x,foldedSetIterable iter X.env x=pure x:=by intro _;rfl):PS X (.For tg iter body [] pos) (pD wi g tb):=by
 exists 1,D,I,h;refine wpAny_For (bH (hi pins s σ H _ I h) λv s1 h1=>bH h1 λTo s2 h2=>?_) hs;obtain⟨it,fp,tn,J,H2,e,I2,T,st2,f2,W,⟨m0,w0⟩,turn⟩:=h2;subst e;have qi:∀{H':Hp},(∀b∈fp,H' b=none)->∀b∈fp,mR X pins H' b:=λhn b hb=>⟨hn b hb,(f2 b hb).2⟩
 refine codeAny_forLoop_any (λn s'=>∃i σ' H',Inv X pins σ' H' s'/\tn i s'.heap/\(∀b∈fp,H' b=none)/\W i n σ' H') ?_ m0 ⟨0,σ,H2,I2,st2,λb hb=>(f2 b hb).1,w0⟩;rintro n s3 ⟨i,σ3,H3,I3,st3,fr3,w3⟩;rcases turn i n σ3 H3 w3 with ⟨stop,qn⟩ | ⟨go,N,hN,step⟩
 . refine Pm hp (bH (T.done X rfl rfl rfl hc i pins s3 σ3 H3 X.xe I3 (qi fr3) st3 stop) λr s4=>?_);rintro⟨hr,I4⟩;subst hr;exact wpAny_execs_nil ⟨σ3,H3,I4,qn⟩
 . refine Pm hp (bH (T.item X rfl rfl rfl hc i pins s3 σ3 H3 X.xe I3 (qi fr3) st3 go) λr s4=>?_);rintro⟨u,hr,h4⟩;subst hr;refine Pm hp (bH h4 λ_ s5=>?_);rintro⟨x,H5,I5,r5,y5,st5,fr5⟩;have Tt:=I5.pinned (qi fr5) (T.obj _ _ st5);refine Pm hp (bH (hg _ s5 σ3 H5 x u _ Tt r5 (step x H5 y5)) λ_ s6=>?_);rintro⟨σ6,H6,I6,q6⟩;refine Pm hp (bH (hb _ s6 σ6 H6 _ I6 q6) λf s7 q7=>?_);have again:∀{σ7:St}{H7:Hp},Inv X (pins++mS fp s5.heap) σ7 H7 s7->N σ7 H7->∃m,m < n/\∃i σ' H',Inv X pins σ' H' s7/\tn i s7.heap/\(∀b∈fp,H' b=none)/\W i m σ' H':=λ{σ7 H7} I7 n7=>by
     obtain⟨m',hm,w7⟩:=hN σ7 H7 n7;refine⟨m',hm,i + 1,σ7,H7,I7.iA,T.keep _ _ _ st5 λb hb o e=>(I7.pin (b,o) (cf _ (cf _ (fh hb e)))).1,λb hb=>?_,w7⟩;obtain⟨o,e,d⟩:=T.obj _ _ st5 b hb;exact(I7.pin (b,o) (cf _ (cf _ (fh hb e)))).2.1
   cases f with
   | next=>obtain⟨σ7,H7,I7,n7⟩:=q7;exact again I7 n7
   | cont=>obtain⟨σ7,H7,I7,n7⟩:=q7;exact again I7 n7
   | brk=>obtain⟨σ7,H7,I7,q7⟩:=q7;exact⟨σ7,H7,I7.iA,q7⟩
   | ret v=>obtain⟨x7,σ7,H7,I7,r7,q7⟩:=q7;exact⟨x7,σ7,H7,I7.iA,r7,q7⟩
theorem Lr {K:Frag}{a:Addr}{g:TG}(Pv:Nat->St->Hp->Prop)(h0:Pv 0 σ H)(hl:∀i σ H,i<=xs.length->Pv i σ H->aQ K H a xs)
   (hs:∀i x σ H,xs[i]?=some x->Pv i σ H->g x σ H λσ2 H2=>tb { D with nx:=Pv (i + 1),ct:=Pv (i + 1),bk:=D.nx } σ2 H2) (hd:∀σ H,Pv xs.length σ H->D.nx σ H):
   ∃W:Nat->Nat->St->Hp->Prop,(∃m,W 0 m σ H)/\∀i m σ H,W i m σ H->
     ((ug K a).stop i H/\D.nx σ H)∨((ug K a).go i H/\∃N:St->Hp->Prop,(∀σ' H',N σ' H'->∃m',m' < m/\W (i + 1) m' σ' H')/\∀x H',(ug K a).OC i H x H'->g x σ H' λσ2 H2=>tb { D with nx:=N,ct:=N,bk:=D.nx } σ2 H2):=by
 refine⟨λi m σ H=>m=xs.length - i/\i<=xs.length/\Pv i σ H,⟨xs.length,by simp,gs _,h0⟩,?_⟩;rintro i m σ H ⟨rfl,hi,p⟩;have q:=hl i σ H hi p
 by_cases iI:i < xs.length
 . refine .inr ⟨⟨xs,xs[i],q,by simp[iI]⟩,Pv (i + 1),λσ' H' p'=>⟨xs.length - (i + 1),by omega,rfl,iI,p'⟩,λx H' y=>?_⟩;obtain⟨e,y⟩:=y;subst e;exact hs i x σ _ (y xs q) p
 . have e:i=xs.length:=X2
   subst e;exact .inl ⟨⟨xs,q,ag _⟩,hd σ H p⟩
theorem Jj {lo:Int}{g:TG}(Pv:Nat->St->Hp->Prop)(h0:Pv 0 σ H)
   (hs:∀i σ H,i < n->Pv i σ H->g (.int (lo + i)) σ H λσ2 H2=>tb { D with nx:=Pv (i + 1),ct:=Pv (i + 1),bk:=D.nx } σ2 H2) (hd:∀σ H,Pv n σ H->D.nx σ H):
   ∃W:Nat->Nat->St->Hp->Prop,(∃m,W 0 m σ H)/\∀i m σ H,W i m σ H->
     ((AD lo n).stop i H/\D.nx σ H)∨((AD lo n).go i H/\∃N:St->Hp->Prop,(∀σ' H',N σ' H'->∃m',m' < m/\W (i + 1) m' σ' H')/\∀x H',(AD lo n).OC i H x H'->g x σ H' λσ2 H2=>tb { D with nx:=N,ct:=N,bk:=D.nx } σ2 H2):=by
 refine⟨λi m σ H=>m=n - i/\i<=n/\Pv i σ H,⟨n,by simp,gs _,h0⟩,?_⟩;rintro i m σ H ⟨rfl,hi,p⟩
 by_cases iI:i < n
 . refine .inr ⟨iI,Pv (i + 1),λσ' H' p'=>⟨n - (i + 1),by omega,rfl,iI,p'⟩,λx H' y=>?_⟩;obtain⟨e,y⟩:=y;subst e y;exact hs i σ _ iI p
 . have e:i=n:=X2
   subst e;exact .inl ⟨ag _,hd σ H p⟩
abbrev R2:=V->V->Hp->VK->Prop
def i8 (X:Cx)(f:Value->Value->Sem Value)(r:R2):Prop:=
 ∀(pins:List (Addr×Obj)) (s:Shared) (σ:St) (H:Hp) (x y:V) (v u:Value) (Q:VK),Inv X pins σ H s->RelV x v->RelV y u->r x y H Q->
   wpAny 'c' X.A (f v u) (EP X pins σ Q) X.xe s
def Zd (X:Cx)(f:Value->Sem Value)(r:V->Hp->VK->Prop):Prop:=
 ∀(pins:List (Addr×Obj)) (s:Shared) (σ:St) (H:Hp) (x:V) (v:Value) (Q:VK),Inv X pins σ H s->RelV x v->r x H Q->
   wpAny 'c' X.A (f v) (EP X pins σ Q) X.xe s
def dQ (X:Cx)(f:Value)(r:List V->Hp->VK->Prop):Prop:=
 ∀(pins:List (Addr×Obj)) (s:Shared) (σ:St) (H:Hp) (xs:List V) (us:List Value) (Q:VK),Inv X pins σ H s->Vals xs us->r xs H Q->
   wpAny 'c' X.A (call f us) (EP X pins σ Q) X.xe s
def aau (X:Cx)(r:V->Hp->(Bool->Hp->Prop)->Prop):Prop:=
 ∀(pins:List (Addr×Obj)) (s:Shared) (σ:St) (H:Hp) (x:V) (v:Value) (Q:Bool->Hp->Prop),Inv X pins σ H s->RelV x v->r x H Q->
   wpAny 'c' X.A (truthy v) (TP X pins σ Q) X.xe s
def Gr (r:R2)(ta tb:TE):TE:=λσ H Q=>ta σ H λx H1=>tb σ H1 λy H2=>r x y H2 Q
def Ze (r:V->Hp->VK->Prop)(ta:TE):TE:=λσ H Q=>ta σ H λx H1=>r x H1 Q
def rI (C:Int->Int->Prop)(g:Int->Int->V):R2:=λx y H Q=>∃i j,x=.int i/\y=.int j/\C i j/\Q (g i j) H
def Ls (g:Int->Int->V):R2:=λx y H Q=>∃i j,x=.int i/\y=.int j/\Q (g i j) H
def rU (g:Int->V):V->Hp->VK->Prop:=λx H Q=>∃i,x=.int i/\Q (g i) H
section
variable {a b c:Expr}{tb tc:TE}
theorem Tu (ha:PE X a ta)(hb:PE X b tb){R:V->V->Hp->Prop}(I:Inv X pins σ H s)
   (h:ta σ H λx H1=>tb σ H1 λy H2=>R x y H2) 
   (hf:∀v u s2 x y H2,Inv X pins σ H2 s2->RelV x v->RelV y u->R x y H2->wpAny 'c' X.A (f v u) Q X.xe s2):
   wpAny 'c' X.A (eval a X.env) (λv s₁=>wpAny 'c' X.A (eval b X.env) (λu s₂=>wpAny 'c' X.A (f v u) Q X.xe s₂) X.xe s₁) X.xe s:=by
 refine bH (ha pins s σ H _ I h) λv s1=>?_;rintro⟨x,H1,I1,r1,q1⟩;refine bH (hb pins s1 σ H1 _ I1 q1) λu s2=>?_;rintro⟨y,H2,I2,r2,q2⟩;exact hf v u s2 x y H2 I2 r1 r2 q2
theorem QY {op:Operator}{r:R2}(ho:i8 X (binaryOp op) r)(ha:PE X a ta)(hb:PE X b tb):PE X (.BinOp a op b pos) (Gr r ta tb):=by
 exists 1,Q,I,h;exact wpAny_BinOp (Tu ha hb I h λv u s2 x y H2 I2 rx ry q=>ho pins s2 σ H2 x y v u Q I2 rx ry q)
theorem WE {op:UnaryOp}{r:V->Hp->VK->Prop}(ho:Zd X (unaryOp op) r)(ha:PE X a ta):PE X (.UnaryOp op a pos) (Ze r ta):=by
 exists 1,Q,I,h;refine UnaryOp_ (bH (ha pins s σ H _ I h) λv s1=>?_);rintro⟨x,H1,I1,r1,q1⟩;exact ho pins s1 σ H1 x v Q I1 r1 q1
theorem Zf {C:Int->Int->Prop}
   (rule:∀(i j:Int) (t u:Tok) (s:Shared) (Q:Value->Shared->Prop) (E:Value->Shared->Prop),C i j->Q (.int (g i j) s.toks) { s with toks:=s.toks + 1 }->wpAny 'c' X.A (f (.int i t) (.int j u)) Q E s):
   i8 X f (rI C λi j=>.int (g i j)):=by
 exists 1,x,y,v,u,Q,I,rx,ry,h;obtain⟨i,j,rfl,rfl,hc,q⟩:=h;obtain⟨t,rfl⟩:=rx;obtain⟨t',rfl⟩:=ry;exact rule i j t t' s _ _ hc ⟨.int (g i j),H,I.tok _,⟨_,rfl⟩,q⟩
theorem WG 
   (rule:∀(i j:Int) (t u:Tok) (s:Shared) (Q:Value->Shared->Prop) (E:Value->Shared->Prop),Q (.int (g i j) s.toks) { s with toks:=s.toks + 1 }->wpAny 'c' X.A (f (.int i t) (.int j u)) Q E s):
   i8 X f (Ls λi j=>.int (g i j)):=by
 exists 1,x,y,v,u,Q,I,rx,ry,h;obtain⟨i,j,rfl,rfl,q⟩:=h;obtain⟨t,rfl⟩:=rx;obtain⟨t',rfl⟩:=ry;exact rule i j t t' s _ _ ⟨.int (g i j),H,I.tok _,⟨_,rfl⟩,q⟩
theorem O8 {g:Int->Int->Bool}
   (rule:∀(i j:Int) (t u:Tok) (s:Shared) (Q:Value->Shared->Prop) (E:Value->Shared->Prop),Q (.bool (g i j)) s->wpAny 'c' X.A (f (.int i t) (.int j u)) Q E s):
   i8 X f (Ls λi j=>.bl (g i j)):=by
 exists 1,x,y,v,u,Q,I,rx,ry,h;obtain⟨i,j,rfl,rfl,q⟩:=h;obtain⟨t,rfl⟩:=rx;obtain⟨t',rfl⟩:=ry;exact rule i j t t' s _ _ ⟨.bl (g i j),H,I,rfl,q⟩
def Tv (i j:Int):Prop:=0<=j/\j<=1000000/\i.natAbs < 2 ^ 64
def Lu (i j:Int):Prop:=(-(2 ^ 64) < i/\i < 2 ^ 64)∨(-(2 ^ 64) < j/\j < 2 ^ 64)
theorem Lu.ok {i j:Int}(h:Lu i j):IntMulOk i j:=by
 rcases h with ⟨h1,h2⟩ | ⟨h1,h2⟩
 . exact .of_left (intBits_le_64 h1 h2)
 . exact .of_right (intBits_le_64 h1 h2)
theorem bu:i8 X (binaryOp .Add) (Ls λi j=>.int (i + j)):=WG λ_ _ _ _ _ _ _ q=>add_int q
theorem gK:i8 X (binaryOp .Sub) (Ls λi j=>.int (i - j)):=WG λ_ _ _ _ _ _ _ q=>sub_int q
theorem gx:i8 X (binaryOp .Mult) (rI Lu λi j=>.int (i * j)):=Zf λ_ _ _ _ _ _ _ hc q=>mul_int q hc.ok
theorem mU:i8 X (binaryOp .Mod) (rI (λ_ j=>0 < j) λi j=>.int (i % j)):=Zf λi j _ _ _ _ _ hc q=>by
 have h1:(0:Int) < j:=hc;exact mod_int' X2 (by rw[Int.fmod_eq_emod_of_nonneg i X2];exact q)
theorem Tw:i8 X (binaryOp .Pow) (rI Tv λi j=>.int (i ^ j.toNat)):=Zf λ_ _ _ _ _ _ _ hc q=>pow_int_small hc.1 hc.2.1 hc.2.2 q
theorem unI {f:Value->Sem Value}{g:Int->Int}
   (rule:∀(i:Int) (t:Tok) (s:Shared) (Q:Value->Shared->Prop) (E:Value->Shared->Prop),Q (.int (g i) s.toks) { s with toks:=s.toks + 1 }->wpAny 'c' X.A (f (.int i t)) Q E s):
   Zd X f (rU λi=>.int (g i)):=by
 exists 1,x,v,Q,I,rx,h;obtain⟨i,rfl,q⟩:=h;obtain⟨t,rfl⟩:=rx;exact rule i t s _ _ ⟨.int (g i),H,I.tok _,⟨_,rfl⟩,q⟩
theorem qj:Zd X (unaryOp .USub) (rU λi=>.int (-i)):=unI λ_ _ _ _ _ q=>neg_int q
end
def pF:V->V->Bool
 | .bS,.bS=>true | .bS,.int _=>true | .int _,.bS=>true | .bS,.bl _=>true | .bl _,.bS=>true | .bS,.str _=>true | .str _,.bS=>true
 | .int _,.int _=>true | .bl _,.bl _=>true | .str _,.str _=>true | .Gk _,.Gk _=>true
 | .int _,.str _=>true | .str _,.int _=>true | .bl _,.str _=>true | .str _,.bl _=>true
 | _,_=>false
def rEq:R2:=λx y H Q=>pF x y=true/\Q (.bl (decide (x=y))) H
def rNe:R2:=λx y H Q=>pF x y=true/\Q (.bl (!decide (x=y))) H
theorem Gs {i j:Int}:decide (V.int i=V.int j)=(i==j):=by
 rw[pz];simp
theorem Lv {i j:Bool}:decide (V.bl i=V.bl j)=(i==j):=by
 rw[pz];simp
theorem Gu {i j:Str}:decide (V.str i=V.str j)=(i==j):=by
 rw[pz];simp
theorem Gv {i j:Array UInt8}:decide (V.Gk i=V.Gk j)=(i.toList==j.toList):=by
 rw[pz];cases i;cases j;simp
section
variable {a b c:Expr}{tb tc:TE}
theorem bJ {Q:VK}{k k':Bool}(I:Inv X pins σ H s)(q:Q (.bl k) H)(e:k=k'):EP X pins σ Q (.bool k') s:=by
 subst e;exact⟨.bl k,H,I,rfl,q⟩
theorem fL:i8 X (compareOp .Eq) rEq:=by
 exists 1,x,y,v,u,Q,I,rx,ry,h;obtain⟨hs,q⟩:=h;cases x with
 | bS=>
   cases rx;cases y with
   | bS=>cases ry;exact PySem.EqNone.eq_none_none (bJ I q Y2)
   | bl j=>cases ry;exact PySem.EqNone.eq_none_bool (bJ I q Y2)
   | int j=>obtain⟨t',rfl⟩:=ry;exact PySem.EqNone.eq_none_int (bJ I q Y2)
   | str j=>obtain⟨t',rfl⟩:=ry;exact PySem.EqNone.eq_none_str (bJ I q Y2)
   | _=>exact absurd (show false=true from hs) dt
 | bl i=>
   cases rx;cases y with
   | bS=>cases ry;exact PySem.EqNone.eq_bool_none (bJ I q Y2)
   | bl j=>cases ry;exact eq_bool (bJ I q Lv)
   | str j=>obtain⟨t',rfl⟩:=ry;exact PySem.EqMixed.eq_bool_str (bJ I q Y2)
   | _=>exact absurd (show false=true from hs) dt
 | int i=>
   obtain⟨t,rfl⟩:=rx;cases y with
   | bS=>cases ry;exact PySem.EqNone.eq_int_none (bJ I q Y2)
   | int j=>obtain⟨t',rfl⟩:=ry;exact eq_int (bJ I q Gs)
   | str j=>obtain⟨t',rfl⟩:=ry;exact PySem.EqMixed.eq_int_str (bJ I q Y2)
   | _=>exact absurd (show false=true from hs) dt
 | str i=>
   obtain⟨t,rfl⟩:=rx;cases y with
   | bS=>cases ry;exact PySem.EqNone.eq_str_none (bJ I q Y2)
   | bl j=>cases ry;exact PySem.EqMixed.eq_str_bool (bJ I q Y2)
   | int j=>obtain⟨t',rfl⟩:=ry;exact PySem.EqMixed.eq_str_int (bJ I q Y2)
   | str j=>obtain⟨t',rfl⟩:=ry;exact eq_str (bJ I q Gu)
   | _=>exact absurd (show false=true from hs) dt
 | Gk i=>
   obtain⟨t,rfl⟩:=rx;cases y with
   | Gk j=>obtain⟨t',rfl⟩:=ry;exact PySem.W.eq_bytes (bJ I q Gv)
   | _=>exact absurd (show false=true from hs) dt
 | _=>cases y <;> exact absurd (show false=true from hs) dt
theorem qR:i8 X (compareOp .NotEq) rNe:=by
 exists 1,x,y,v,u,Q,I,rx,ry,h;obtain⟨hs,q⟩:=h;cases x with
 | bS=>
   cases rx;cases y with
   | bS=>cases ry;exact PySem.EqNone.ne_none_none (bJ I q Y2)
   | bl j=>cases ry;exact PySem.EqNone.ne_none_bool (bJ I q Y2)
   | int j=>obtain⟨t',rfl⟩:=ry;exact PySem.EqNone.ne_none_int (bJ I q Y2)
   | str j=>obtain⟨t',rfl⟩:=ry;exact PySem.EqNone.ne_none_str (bJ I q Y2)
   | _=>exact absurd (show false=true from hs) dt
 | bl i=>
   cases rx;cases y with
   | bS=>cases ry;exact PySem.EqNone.ne_bool_none (bJ I q Y2)
   | bl j=>cases ry;exact ne_bool (bJ I q (congrArg not Lv))
   | str j=>obtain⟨t',rfl⟩:=ry;exact PySem.EqMixed.ne_bool_str (bJ I q Y2)
   | _=>exact absurd (show false=true from hs) dt
 | int i=>
   obtain⟨t,rfl⟩:=rx;cases y with
   | bS=>cases ry;exact PySem.EqNone.ne_int_none (bJ I q Y2)
   | int j=>obtain⟨t',rfl⟩:=ry;exact ne_int (bJ I q (congrArg not Gs))
   | str j=>obtain⟨t',rfl⟩:=ry;exact PySem.EqMixed.ne_int_str (bJ I q Y2)
   | _=>exact absurd (show false=true from hs) dt
 | str i=>
   obtain⟨t,rfl⟩:=rx;cases y with
   | bS=>cases ry;exact PySem.EqNone.ne_str_none (bJ I q Y2)
   | bl j=>cases ry;exact PySem.EqMixed.ne_str_bool (bJ I q Y2)
   | int j=>obtain⟨t',rfl⟩:=ry;exact PySem.EqMixed.ne_str_int (bJ I q Y2)
   | str j=>obtain⟨t',rfl⟩:=ry;exact ne_str (bJ I q (congrArg not Gu))
   | _=>exact absurd (show false=true from hs) dt
 | Gk i=>
   obtain⟨t,rfl⟩:=rx;cases y with
   | Gk j=>obtain⟨t',rfl⟩:=ry;exact PySem.W.ne_bytes (bJ I q (congrArg not Gv))
   | _=>exact absurd (show false=true from hs) dt
 | _=>cases y <;> exact absurd (show false=true from hs) dt
theorem i9:i8 X (compareOp .Lt) (Ls λi j=>.bl (decide (i < j))):=O8 λ_ _ _ _ _ _ _ q=>lt_int q
theorem gy:i8 X (compareOp .LtE) (Ls λi j=>.bl (decide (i<=j))):=O8 λ_ _ _ _ _ _ _ q=>le_int q
theorem Ci:i8 X (compareOp .Gt) (Ls λi j=>.bl (decide (j < i))):=O8 λ_ _ _ _ _ _ _ q=>gt_int q
theorem QZ:i8 X (compareOp .GtE) (Ls λi j=>.bl (decide (j<=i))):=O8 λ_ _ _ _ _ _ _ q=>ge_int q
theorem mV:i8 X (compareOp .Is) (λx y H Q=>y=.bS/\Q (.bl (decide (x=.bS))) H):=by
 exists 1,x,y,v,u,Q,I,rx,ry,h;obtain⟨rfl,q⟩:=h;cases ry;refine is_none_gen (bJ I q ?_);cases x <;> first
   | (cases rx;rfl)
   | (obtain⟨t,rfl⟩:=rx;rfl)
theorem AE:i8 X (compareOp .IsNot) (λx y H Q=>y=.bS/\Q (.bl (!decide (x=.bS))) H):=by
 exists 1,x,y,v,u,Q,I,rx,ry,h;obtain⟨rfl,q⟩:=h;cases ry;refine isnot_none_gen (bJ I q ?_);cases x <;> first
   | (cases rx;rfl)
   | (obtain⟨t,rfl⟩:=rx;rfl)
theorem aH (b:Expr)(h:op≠.In:=by decide)(h2:op≠.NotIn:=by decide):behindInMarks op b=false:=by
 have e1:(op==CmpOp.In)=false:=by cases op <;> first | rfl | exact absurd rfl h
 have e2:(op==CmpOp.NotIn)=false:=by cases op <;> first | rfl | exact absurd rfl h2
 cases b <;> simp[behindInMarks,e1,e2]
theorem O9 {r:R2}(ho:i8 X (compareOp op) r)(ha:PE X a ta)(hb:PE X b tb)(hm:behindInMarks op b=false):PE X (.Compare a [op] [b] pos) (Gr r ta tb):=by
 exists 1,Q,I,h;exact wpAny_Compare1 (Tu ha hb I h λv u s2 x y H2 I2 rx ry q=>ho pins s2 σ H2 x y v u Q I2 rx ry q) hm
def uh (t:TE):TT:=λσ H Q=>t σ H λx H'=>∃k,x=.bl k/\Q k H'
theorem Pa {r:R2}(ho:i8 X (compareOp op) r)(ha:PE X a ta)(hb:PE X b tb)(hm:behindInMarks op b=false):PT X (.Compare a [op] [b] pos) (uh (Gr r ta tb)):=by
 exists 1,Q,I,h;refine wpAny_isTrue_Compare1 (bH (ha pins s σ H _ I h) λv s1 ⟨x,H1,I1,r1,q1⟩=>bH (hb pins s1 σ H1 _ I1 q1) λu s2 ⟨y,H2,I2,r2,q2⟩=>
   bH (ho pins s2 σ H2 x y v u _ I2 r1 r2 q2) λc s3 ⟨z,H3,I3,r3,k,e,q3⟩=>?_) hm
 subst e;cases r3;exact Kj ⟨H3,I3,q3⟩
def mW (r r':R2)(ta tb tc:TE):TE:=λσ H Q=>ta σ H λx H1=>tb σ H1 λy H2=>r x y H2 λz H3=>∃k,z=.bl k/\
 (if k=true then tc σ H3 λw' H4=>r' y w' H4 Q else Q (.bl false) H3)
theorem Lx {Et:CmpOp}{r r':R2}(ho:i8 X (compareOp op) r)(Ej:i8 X (compareOp Et) r')(ha:PE X a ta)(hb:PE X b tb)(hc:PE X c tc)
   (hm:lastMarks [op,Et] [b,c]=false:=by with_unfolding_all rfl):PE X (.Compare a [op,Et] [b,c] pos) (mW r r' ta tb tc):=by
 exists 1,Q,I,h;refine Compare_chain (bH (ha pins s σ H _ I h) λv s1 ⟨x,H1,I1,r1,q1⟩=>chain_link (bH (hb pins s1 σ H1 _ I1 q1) λu s2 ⟨y,H2,I2,r2,q2⟩=>
   bH (ho pins s2 σ H2 x y v u _ I2 r1 r2 q2) λd s3 ⟨z,H3,I3,r3,k,e,q3⟩=>?_)) hm
 subst e;cases r3;refine Kj ?_;cases k with
 | false=>exact ite_ff ⟨.bl false,H3,I3,rfl,q3⟩
 | true=>refine ite_tt (chain_last (bH (hc pins s3 σ H3 _ I3 q3) λw' s4=>?_));rintro⟨z',H4,I4,r4,q4⟩;exact Ej pins s4 σ H4 y z' u w' Q I4 r2 r4 q4
theorem Ly {Et:CmpOp}{r r':R2}(ho:i8 X (compareOp op) r)(Ej:i8 X (compareOp Et) r')(ha:PE X a ta)(hb:PE X b tb)(hc:PE X c tc)
   (hm:lastMarks [op,Et] [b,c]=false:=by with_unfolding_all rfl):PT X (.Compare a [op,Et] [b,c] pos) (uh (mW r r' ta tb tc)):=by
 exists 1,Q,I,h;refine isTrue_chain (bH (ha pins s σ H _ I h) λv s1 ⟨x,H1,I1,r1,q1⟩=>test_link (bH (hb pins s1 σ H1 _ I1 q1) λu s2 ⟨y,H2,I2,r2,q2⟩=>
   bH (ho pins s2 σ H2 x y v u _ I2 r1 r2 q2) λd s3 ⟨z,H3,I3,r3,k,e,q3⟩=>?_)) hm
 subst e;cases r3;refine Kj ?_;cases k with
 | false=>
   obtain⟨k',e',q'⟩:=q3;cases e';exact ite_ff ⟨H3,I3,q'⟩
 | true=>
   refine ite_tt (test_last (bH (hc pins s3 σ H3 _ I3 q3) λw' s4=>?_));rintro⟨z',H4,I4,r4,q4⟩;refine bH (Ej pins s4 σ H4 y z' u w' _ I4 r2 r4 q4) λd' s5=>?_;rintro⟨z2,H5,I5,r5,k2,e2,q5⟩;subst e2;cases r5;exact Kj ⟨H5,I5,q5⟩
def Tz (K:Frag)(x:V)(H:Hp)(k:Bool):Prop:=
 match x with
 | .bS=>k=false
 | .bl b=>k=b
 | .int i=>k=(i !=0)
 | .str y=>y.length<=sizeLine/\k=((y.length:Int) !=0)
 | .Gk y=>y.size<=sizeLine/\k=((y.size:Int) !=0)
 | .ref p=>(∃xs,aQ K H p xs/\k=!xs.isEmpty)∨(∃xs,yq K H p xs/\k=!xs.isEmpty)∨∃aB,H p=some (.dK aB)/\k=!aB.isEmpty
 | _=>False
theorem Eu {aB:List (κ×V)}{vs:List (κ×Value)}(r:KV aB vs):(!vs.isEmpty)=!aB.isEmpty:=by
 cases r <;> rfl
theorem vC {br:List Value}(r:Vals xs br):(!br.toArray.isEmpty)=!xs.isEmpty:=by
 cases r <;> simp
theorem vD:(sizeLine:Nat) < 2 ^ 63:=by rw[NA];decide
theorem TF:aau X (λx H Q=>∃k,Tz X.K x H k/\Q k H):=by
 exists 1,x,v,Q,I,rx,h;obtain⟨k,e,q⟩:=h;have hl:=vD;have hs:sizeLine=16777216:=NA;cases x with
 | bS=>
   cases rx;have e':k=false:=e;subst e';exact truthy_none ⟨H,I,q⟩
 | bl b=>
   cases rx;have e':k=b:=e;subst e';exact Kj ⟨H,I,q⟩
 | int i=>
   obtain⟨t,rfl⟩:=rx;have e':k=(i !=0):=e;subst e';exact PySem.P.truthy_int ⟨H,I,q⟩
 | str y=>
   obtain⟨t,rfl⟩:=rx;obtain⟨hy,e'⟩:y.length<=sizeLine/\k=((y.length:Int) !=0):=e;subst e';exact PySem.P.truthy_str X2 ⟨H,I.tok _,q⟩
 | Gk y=>
   obtain⟨t,rfl⟩:=rx;obtain⟨hy,e'⟩:y.size<=sizeLine/\k=((y.size:Int) !=0):=e;subst e';exact PySem.W.truthy_bytes X2 ⟨H,I.tok _,q⟩
 | ref p=>
   cases rx;have e':(∃xs,aQ X.K H p xs/\k=!xs.isEmpty)∨(∃xs,yq X.K H p xs/\k=!xs.isEmpty)∨∃aB,H p=some (.dK aB)/\k=!aB.isEmpty:=e;rcases e' with ⟨xs,hx,e'⟩ | ⟨xs,hx,e'⟩ | ⟨aB,hx,e'⟩
   . subst e';obtain⟨br,r,pl,hz⟩:=I.list hx;have hlen:=r.length;exact wpAny_truthy_list pl.isList (by simp only[da];omega) ⟨H,I.tok _,by rw[vC r];exact q⟩
   . subst e';obtain⟨br,r,pl,hz⟩:=I.tuple hx;have hlen:=r.length;exact truthy_tuple pl (by simp only[da];omega) ⟨H,I.tok _,by rw[vC r];exact q⟩
   . subst e';obtain⟨hz,hS,vs,r,m⟩:aB.length<=sizeLine/\(p==sysModules)=false/\∃vs,KV aB vs/\s.heap.DictOf (cQ X.prog X.w) p vs:=I.dB p _ hx;have hlen:aB.length=vs.length:=Ap r;exact wpAny_truthy_dict hS m X2 ⟨H,I.tok _,by rw[Eu r];exact q⟩
 | _=>exact(show False from e).elim
theorem Lz (ha:PE X a ta)(he:∀whole,isTrue a X.env whole=(do let v <- whole;standAt a.pos;holding [v] (truthy v))):
   PT X a (λσ H Q=>ta σ H λx H'=>∃k,Tz X.K x H' k/\Q k H'):=by
 exists 1,Q,I,h;refine isTrue_plain (bH (ha pins s σ H _ I h) λv s1=>?_) (he _);rintro⟨x,H1,I1,r1,q1⟩;exact TF pins s1 σ H1 x v Q I1 r1 q1
theorem vals1 {x:V}(r:Vals [x] us):∃u,us=[u]/\RelV x u:=by
 cases r with
 | cons r1 r2=>cases r2;exact⟨_,rfl,r1⟩
theorem vals2 {x y:V}(r:Vals [x,y] us):∃u w',us=[u,w']/\RelV x u/\RelV y w':=by
 cases r with
 | cons r1 r2=>
   cases r2 with
   | cons r3 r4=>cases r4;exact⟨_,_,rfl,r1,r3⟩
theorem Jk (hc:X.calm=true):dQ X (.builtin "max") (λxs H Q=>∃i j,xs=[.int i,.int j]/\Q (.int (if j > i then j else i)) H):=by
 exists 1,xs,us,Q,I,r,h;obtain⟨i,j,rfl,q⟩:=h;obtain⟨u,w',rfl,⟨t,rfl⟩,⟨t',rfl⟩⟩:=vals2 r;refine max_two_ints (I.ok.hd hc) λh' tk k=>⟨_,H,I.kept k,?_,q⟩
 by_cases hj:j > i
 . rw[Hk hj,Hk hj];exact⟨_,rfl⟩
 . rw[He hj,He hj];exact⟨_,rfl⟩
theorem sQ (hc:X.calm=true):dQ X (.builtin "min") (λxs H Q=>∃i j,xs=[.int i,.int j]/\Q (.int (if j < i then j else i)) H):=by
 exists 1,xs,us,Q,I,r,h;obtain⟨i,j,rfl,q⟩:=h;obtain⟨u,w',rfl,⟨t,rfl⟩,⟨t',rfl⟩⟩:=vals2 r;refine min_two_ints (I.ok.hd hc) λh' tk k=>⟨_,H,I.kept k,?_,q⟩
 by_cases hj:j < i
 . rw[Hk hj,Hk hj];exact⟨_,rfl⟩
 . rw[He hj,He hj];exact⟨_,rfl⟩
theorem ze:dQ X (.type "int") (λxs H Q=>(∃i,xs=[.int i]/\Q (.int i) H)∨∃k,xs=[.bl k]/\Q (.int (if k then 1 else 0)) H):=by
 exists 1,xs,us,Q,I,r,h;rcases h with ⟨i,rfl,q⟩ | ⟨k,rfl,q⟩
 . obtain⟨u,rfl,t,rfl⟩:=vals1 r;exact call_int_int ⟨.int i,H,I,⟨_,rfl⟩,q⟩
 . obtain⟨u,rfl,r1⟩:=vals1 r;cases r1;exact call_int_bool ⟨.int (if k then 1 else 0),H,I.tok _,⟨_,rfl⟩,q⟩
end
structure Ew (h:Heap)(x dx C:Addr)(mA:Str->Option Value):Prop where
 obj:h.get? x=some (instObj C dx)
 ns:h.Ns1 dx mA
 ne:dx≠x
theorem Jl {mA:Str->Option Value}(n:h.Ns1 dx mA):∃od,h.get? dx=some od/\∀name,lookIn name od=some (mA name):=by
 obtain⟨o,es,ep,ho,hd,hk,_,hm⟩:=n;refine⟨o,ho,λname=>?_⟩;have e:=hm name;unfold nsFind findBy at e;rw[<- Array.find?_toList]at e;unfold lookIn;rw[hd];dsimp only;split
 . rename_i y q
   rw[q]at e;exact congrArg some e
 . rename_i q
   rw[q]at e;have a:es.toList.any (·.refKey)=false:=by
     rw[List.any_eq_false];intro y hy;obtain⟨z,t,hkey⟩:=hk y (Array.mem_toList_iff.mp hy);simp[DictEntry.refKey,hkey]
   have a':¬ es.toList.any (·.refKey)=true:=by rw[a];exact dt
   rw[He a'];exact congrArg some e
theorem Ew.look {x:Addr}{mA:Str->Option Value}(I:Ew h x dx C mA):∃od,PySem.W.InstAt h x (instObj C dx) C (some od)/\∀name,lookIn name od=some (mA name):=
 let ⟨od,ho,hl⟩:=Jl I.ns
 ⟨od,⟨I.obj,rfl,rfl,ho⟩,hl⟩
section
variable {K:Frag}{x f:Addr}{mA:Str->Option Value}{v:Value}
theorem get_map {expr:Bool}(X:K.In s.heap)(I:Ew s.heap x dx C mA)(hg:plainGet K C name=true)(hh:hasDictIn K C=true)
   (ha:findIn K (.ref C) name=some none) (hv:mA name=some v) (hv':handedIn v=true) (h:Q v { s with toks:=s.toks + 1 }):
   wpAny 'g' A (getAttr (.ref x) name expr) Q E s:=by
 obtain⟨od,J,hl⟩:=I.look;exact PySem.W.get_value X J (xv hg).1 (PySem.W.findObj_own hh ha rfl (by rw[hl,hv])) hv' h
theorem LA {Q:Value×List Value->Shared->Prop}(X:K.In s.heap)(I:Ew s.heap x dx C mA)(hg:plainGet K C name=true)
   (hf:findIn K (.ref C) name=some (some (.ref f))) (ht:isFn K (.ref f)=true) (hv:mA name=none) (h:Q (.ref f,[.ref x]) s):
   wpAny 'g' A (getMethod (.ref x) name pl) Q E s:=by
 obtain⟨od,J,hl⟩:=I.look;exact PySem.W.method_fn X J (xv hg).1 (xv hg).2 hf (beq_iff_eq.mp ht) (by show(lookIn name od).map (·.isSome)=some false;rw[hl,hv];rfl) h
theorem Pb {ns:List Str}{Q:Unit->Shared->Prop}(X:K.In s.heap)(I:Ew s.heap x dx C mA)
   (hs:findIn K (.ref C) "__setattr__"=some (some (.builtin "object.__setattr__"))) (hp:plainOver K C=true) (ht:takerIn K C name=some none) (hh:hasDictIn K C=true)
   (hw:PySem.Within mA ns) (hsz:ns.length<=sizeLine)
   (h:∀h',Ew h' x dx C (λy=>if y=name then some v else mA y)->Heap.SameBut dx s.heap h'->Q () { s with heap:=h',toks:=s.toks + 2 }):
   wpAny 'g' A (setAttr (.ref x) name v) Q E s:=by
 obtain⟨od,J,hl⟩:=I.look;refine PySem.W.set_plain X J hs (PySem.W.osa_open (s:={ s with toks:=s.toks + 1 }) (r:=none) X J hp ht λb=>?_);obtain⟨cd,hc,hd'⟩:=PySem.W.any_some hh;have hx:s.heap.get? x=some ⟨.ref C,some dx,.plain,#[]⟩:=I.obj;refine Hc (Hd (Hc (Hc (wpAny_loadPart hx (Hc (PySem.W.Looks.here (s:={ s with toks:=s.toks + 1 }) (PySem.W.looks_clsIn X hc) ?_))))));rw[hd'];refine Hd (a:=some dx) (Hc (Hd (Hc ?_)));refine wpAny_nsSet1 (s:={ s with toks:=s.toks + 1 }) I.ns λh' Zg Lq=>?_;obtain⟨oD,esD,epD,iw,hdD,hcD⟩:=Zg.count (PySem.Within.cons name v hw);refine Hc (wpAny_lookBehind iw (by rw[hdD];exact pastItsLine_dict (cw hcD (by rw[List.length_cons];omega))) ?_);exact Hd (h _ ⟨(Lq.2 _ (Ne.symm I.ne)).trans I.obj,Zg,I.ne⟩ Lq)
theorem LB {R:Result->Shared->Prop}{vs:List Value}(X:K.In s.heap)(hm:makesIn K C=true)
   (hi:findIn K (.ref C) "__init__"=some (some (.ref f))) (hf:typeIn K (.ref f)=some (.type "function"))
   (h:codeAny 'g' (A.under (.builtin "type.__call__" ⟨.ref C::vs,kw⟩)) (.call (.ref f) ⟨.ref (s.heap.objs.size + 1)::vs,kw⟩) (InitBack (s.heap.objs.size + 1) R)
     { s with heap:=(s.heap.push emptyDict).push (instObj C s.heap.objs.size) }):
   codeAny 'g' A (.call (.ref C) ⟨vs,kw⟩) R s:=by
 obtain⟨hh,g,d,t,os⟩:=s;exact PySem.W.make_core (PySem.W.makes_of X hm) (PySem.W.looks_findIn X hi) (λself=>PySem.W.bind_fn X self hf) (.inl rfl) h
end
def bC (f:Str)(v:V):List (Str×V)->List (Str×V)
 | []=>[(f,v)]
 | (g,x)::r=>if g=f then (g,v)::r else (g,x)::bC f v r
theorem um (f g:Str)(v:V):∀fs:List (Str×V),(bC f v fs).lookup g=if g=f then some v else fs.lookup g
 | []=>by
   show List.lookup g [(f,v)]=_
   by_cases h:g=f
   . have hb:(g==f)=true:=beq_iff_eq.mpr h;simp only[List.lookup,hb,Hk h]
   . have hb:(g==f)=false:=beq_eq_false_iff_ne.mpr h;simp only[List.lookup,hb,He h]
 | (k,x)::r=>by
   have ih:=um f g v r;rw[show bC f v ((k,x)::r)=(if k=f then (k,v)::r else (k,x)::bC f v r) from rfl]
   by_cases hk:k=f
   . rw[Hk hk]
     by_cases h:g=k
     . have hb:(g==k)=true:=beq_iff_eq.mpr h;simp only[List.lookup,hb,Hk (h.trans hk)]
     . have hb:(g==k)=false:=beq_eq_false_iff_ne.mpr h;simp only[List.lookup,hb,He (λe:g=f=>h (e.trans hk.symm))]
   . rw[He hk]
     by_cases h:g=k
     . have hb:(g==k)=true:=beq_iff_eq.mpr h;simp only[List.lookup,hb,He (λe:g=f=>hk (h.symm.trans e))]
     . have hb:(g==k)=false:=beq_eq_false_iff_ne.mpr h;simp only[List.lookup,hb];exact ih
theorem sR (f:Str)(v:V):∀fs:List (Str×V),f∈(bC f v fs).map (·.1)/\∀g,g∈fs.map (·.1)->g∈(bC f v fs).map (·.1)
 | []=>⟨by simp[bC],λg h=>by simp at h⟩
 | (k,x)::r=>by
   obtain⟨i1,i2⟩:=sR f v r;rw[show bC f v ((k,x)::r)=(if k=f then (k,v)::r else (k,x)::bC f v r) from rfl]
   by_cases hk:k=f
   . rw[Hk hk];subst hk;exact⟨by simp,λg h=>by simpa using h⟩
   . rw[He hk];refine⟨?_,λg h=>?_⟩
     . rw[List.map_cons];exact bc _ i1
     . rw[List.map_cons]at h ⊢;rcases List.mem_cons.mp h with e | e
       . exact List.mem_cons.mpr (.inl e)
       . exact bc _ (i2 g e)
theorem mX (f:Str)(v:V):∀fs:List (Str×V),(bC f v fs).length<=fs.length + 1
 | []=>by simp[bC]
 | (k,x)::r=>by
   have ih:=mX f v r;rw[show bC f v ((k,x)::r)=(if k=f then (k,v)::r else (k,x)::bC f v r) from rfl]
   by_cases hk:k=f
   . rw[Hk hk,List.length_cons,List.length_cons];omega
   . rw[He hk,List.length_cons,List.length_cons];omega
theorem pB.some_of {v:V}{o:Option Value}(r:pB (some v) o):∃u,o=some u/\RelV v u:=by
 cases o with
 | none=>exact(show False from r).elim
 | some u=>exact⟨u,rfl,r⟩
theorem pB.none_of {o:Option Value}(r:pB none o):o=none:=by
 cases o with
 | none=>rfl
 | some u=>exact(show False from r).elim
theorem Jm {v:V}(r:RelV v u):handedIn u=true:=by
 cases v with
 | bS=>cases(show u=Value.none from r);rfl
 | bl b=>cases(show u=Value.bool b from r);rfl
 | int i=>obtain⟨t,e⟩:=(show ∃t,u=Value.int i t from r);cases e;rfl
 | str x=>obtain⟨t,e⟩:=(show ∃t,u=Value.str x t from r);cases e;rfl
 | Gk b=>obtain⟨t,e⟩:=(show ∃t,u=Value.bytes b t from r);cases e;rfl
 | SR b=>obtain⟨t,e⟩:=(show ∃t,u=Value.float b t from r);cases e;rfl
 | ref a=>cases(show u=Value.ref a from r);rfl
 | ty n=>cases(show u=Value.type n from r);rfl
section
variable {H':Hp}{a:Addr}{fs Wv:List (Str×V)}
theorem uZ (dB:qg P w H h)(e:H a=some (.ins C dx fs)):∃mA,Ew h a dx C mA/\(∀f,pB (fs.lookup f) (mA f))/\PySem.Within mA (fs.map (·.1))/\fs.length<=1000/\H dx=some (.own a):=by
 obtain⟨d,z,ne,ob,mA,n,r,q⟩:=(show cW P w H h a (.ins C dx fs) from dB a _ e)
 exact⟨mA,⟨ob,n,ne⟩,r,q,z,d⟩
end
structure uN (K:Frag)(C:Addr):Prop where
 pg:plainGet K C Str.empty=true
 hd:hasDictIn K C=true
 po:plainOver K C=true
 sa:findIn K (.ref C) "__setattr__"=some (some (.builtin "object.__setattr__"))
theorem uN.get {K:Frag}(c:uN K C)(f:Str):plainGet K C f=true:=c.pg
def bK (K:Frag)(C:Addr)(f:Str):Prop:=findIn K (.ref C) f=some none
theorem bK.WH {K:Frag}{f:Str}(n:bK K C f):takerIn K C f=some none:=by
 unfold takerIn;rw[show findIn K (.ref C) f=some none from n];rfl
structure Meth (K:Frag)(C:Addr)(m:Str)(f:Addr):Prop where
 at_:findIn K (.ref C) m=some (some (.ref f))
 fn:isFn K (.ref f)=true
 kp:keepIn K (.ref f)=true
section
variable {a:Addr}{fs:List (Str×V)}{f:Str}{v:V}
theorem Ex {b:Bool}(I:Inv X pins σ H s)(e:H a=some (.ins C dx fs))(c:uN X.K C)(n:bK X.K C f)(l:fs.lookup f=some v)
   (h:∀u s',Inv X pins σ H s'->RelV v u->Q u s'):wpAny 'c' A (getAttr (.ref a) f b) Q E s:=by
 obtain⟨mA,O,r,_,_,_⟩:=uZ I.dB e;obtain⟨u,hu,ru⟩:=pB.some_of (v:=v) (o:=mA f) (by rw[<- l];exact r f);exact get_map I.qK O (c.get f) c.hd n hu (Jm ru) (h u _ (I.tok _) ru)
theorem qk {g:Addr}{Q:Value×List Value->Shared->Prop}(I:Inv X pins σ H s)(e:H a=some (.ins C dx fs))(c:uN X.K C)(k:Meth X.K C m g)(l:fs.lookup m=none)
   (h:Q (.ref g,[.ref a]) s):wpAny 'c' A (getMethod (.ref a) m pl) Q E s:=by
 obtain⟨mA,O,r,_,_,_⟩:=uZ I.dB e;have hn:mA m=none:=pB.none_of (by rw[<- l];exact r m);exact LA I.qK O (c.get m) k.at_ k.fn hn h
theorem Ey {y:V}{Q:Unit->Shared->Prop}(I:Inv X pins σ H s)(e:H a=some (.ins C dx fs))(c:uN X.K C)(n:bK X.K C f)(hl:fs.length < 1000)(ry:RelV y u)
   (h:∀s',Inv X pins σ (upd H a (.ins C dx (bC f y fs))) s'->Q () s'):wpAny 'c' A (setAttr (.ref a) f u) Q E s:=by
 obtain⟨mA,O,r,wi,_,ho⟩:=uZ I.dB e;have hz:(fs.map (·.1)).length<=sizeLine:=by rw[ab,NA];omega
 refine Pb I.qK O c.sa c.po n.WH c.hd wi hz λh' O' sb=>h _ ?_;have hd:∃o,h'.get? dx=some o:=let ⟨o,_,_,e',_⟩:=O'.ns;⟨o,e'⟩;refine I.write (x:=a) (e:=dx) (by rw[e];exact True.intro) (.inr ho) (λb q hb z=>(sb.2 b hb).trans z) hd ?_;refine⟨by rw[au O.ne];exact ho,?_,O.ne,O'.obj,_,O'.ns,λg=>?_,λg hg=>?_⟩
 . have:=mX f y fs;omega
 . show pB ((bC f y fs).lookup g) (if g=f then some u else mA g);rw[um]
   by_cases q:g=f
   . rw[Hk q,Hk q];exact ry
   . rw[He q,He q];exact r g
 . by_cases q:g=f
   . rw[q];exact(sR f y fs).1
   . refine(sR f y fs).2 g (wi g λz=>hg ?_);show(if g=f then some u else mA g)=none;rw[He q];exact z
theorem Inv.made (I:Inv X pins σ H s):Inv X pins σ (upd (upd H s.heap.objs.size (.own (s.heap.objs.size + 1))) (s.heap.objs.size + 1) (.ins C s.heap.objs.size []))
   { s with heap:=(s.heap.push emptyDict).push (instObj C s.heap.objs.size) }:=by
 have e1:(s.heap.push emptyDict).get? s.heap.objs.size=some emptyDict:=cn s.heap rfl;have e2:((s.heap.push emptyDict).push (instObj C s.heap.objs.size)).get? (s.heap.objs.size + 1)=some (instObj C s.heap.objs.size):=by
   have:=cn (s.heap.push emptyDict) (o:=instObj C s.heap.objs.size) rfl
   rwa [eQ]at this
 have e3:(s.heap.push emptyDict).Ns s.heap.objs.size (λ_=>none):=⟨emptyDict,#[],_,e1,rfl,(λe he=>absurd he Y2),λ_=>rfl⟩
 have I1:=I.laid (a:=s.heap.objs.size) (o:=.own (s.heap.objs.size + 1)) (h':=s.heap.push emptyDict) (t':=s.toks) (λb u q=>ae _ q) (ag _) ⟨_,e1⟩;refine I1.laid (a:=s.heap.objs.size + 1) (o:=.ins C s.heap.objs.size []) (t':=s.toks) (λb u q=>ae _ q) (nz (eQ _ _)) ?_;have ne:s.heap.objs.size≠s.heap.objs.size + 1:=cv (kf _);refine⟨by rw[au ne,af],gs _,ne,e2,λ_=>none,(Heap.Ns1.of_empty e3).at λo q=>ae _ q,λ_=>True.intro,λy hy=>absurd rfl hy⟩
theorem Pc {env:Env}{f:Str}(hb:attributeBase e f env (eval e env)=eval e env)
   (h:wpAny 'g' A (eval e env) (λo s₁=>wpAny 'g' A (getAttr o f true) Q E s₁) E s):wpAny 'g' A (eval (.Attribute e f pos) env) Q E s:=
 Attribute_any_ h (by rw[arm_eval_Attribute,hb])
end
def Jo (K:Frag)(ta:TE)(f:Str):TE:=λσ H Q=>ta σ H λx H1=>∃a C dx fs v,x=.ref a/\H1 a=some (.ins C dx fs)/\uN K C/\bK K C f/\fs.lookup f=some v/\Q v H1
def LC (K:Frag)(ta tv:TE)(f:Str):TS:=λD σ H=>tv σ H λy H1=>ta σ H1 λx H2=>∃a C dx fs,x=.ref a/\H2 a=some (.ins C dx fs)/\uN K C/\bK K C f/\fs.length < 1000/\
 D.nx σ (upd H2 a (.ins C dx (bC f y fs)))
def Gw (K:Frag)(ta tv:TE)(rd:V->V->Hp->VK->Prop)(f:Str):TS:=λD σ H=>ta σ H λx H1=>∃a C dx fs v,x=.ref a/\H1 a=some (.ins C dx fs)/\uN K C/\bK K C f/\fs.lookup f=some v/\
 tv σ H1 λy H2=>rd v y H2 λz H3=>∃dx' Wv,H3 a=some (.ins C dx' Wv)/\Wv.length < 1000/\D.nx σ (upd H3 a (.ins C dx' (bC f z Wv)))
section
variable {o value:Expr}{f:Str}{WI:Pos}{tv:TE}
theorem TH (he:PE X e ta)(hb:attributeBase e f X.env (eval e X.env)=eval e X.env):PE X (.Attribute e f pos) (Jo X.K ta f):=by
 exists 1,Q,I,h;refine Pc hb (bH (he pins s σ H _ I h) λu s1=>?_);rintro⟨x,H1,I1,rx,a,C,dx,fs,v,ex,ea,c,n,l,q⟩;subst ex;obtain rfl:u=Value.ref a:=rx;exact Ex I1 ea c n l λu' s2 I2 ru=>⟨v,H1,I2,ru,q⟩
theorem TJ (ha:PE X o ta)(hv:PE X value tv)(hs:swapsWith value (some (.Attribute o f pos')) pos.line X.env=pure false):PS X (.Assign [.Attribute o f pos'] value pos) (LC X.K ta tv f):=by
 exists 1,D,I,h;refine plainObj_wpAny_Assign_Attribute (bH (hv pins s σ H _ I h) λu s1=>?_) hs;rintro⟨y,H1,I1,ry,q⟩;refine bH (ha pins s1 σ H1 _ I1 q) λov s2=>?_;rintro⟨x,H2,I2,rx,a,C,dx,fs,ex,ea,c,n,l,q2⟩;subst ex;obtain rfl:ov=Value.ref a:=rx;exact Ey I2 ea c n l ry λs3 I3=>⟨σ,_,I3,q2⟩
end
section
variable {c:Value}{b:Bool}
inductive pG (K:Frag)(H:Hp):V->Value->Prop where
 | bS:pG K H .bS (.type "NoneType")
 | bl (x:Bool):pG K H (.bl x) (.type "bool")
 | int (i:Int):pG K H (.int i) (.type "int")
 | str (x:Str):pG K H (.str x) (.type "str")
 | SR (x:UInt64):pG K H (.SR x) (.type "float")
 | lst {a:Addr}{xs:List V}(e:H a=some (.lst xs)):pG K H (.ref a) (.type "list")
 | uf {a:Addr}{o:Obj}{xs:List V}(e:H a=some (.uf o (.lst xs))):pG K H (.ref a) (.type "list")
 | tup {a:Addr}{xs:List V}(e:H a=some (.tup xs)):pG K H (.ref a) (.type "tuple")
 | dK {a:Addr}{aB:List (Key×V)}(e:H a=some (.dK aB)):pG K H (.ref a) (.type "dict")
 | dT {a:Addr}{aB:List (List Key×V)}(e:H a=some (.dT aB)):pG K H (.ref a) (.type "dict")
 | ins {a C dx:Addr}{fs:List (Str×V)}(e:H a=some (.ins C dx fs)) (cl:uN K C) (ha:findIn K (.ref C) "__class__"=some (some (.builtin "object.__class__")))
     (hn:PySem.W.specialIn K (.builtin "object.__class__") "__get__"=some (some (.builtin "getset_descriptor.__get__"))) (htk:PySem.W.takesIn K (.builtin "object.__class__")=some true)
     (hm:PySem.W.mroIn K C (.type "object")=some true):pG K H (.ref a) (.ref C)
theorem zf {x:V}{t:Value}(I:Inv X pins σ H s)(rx:RelV x u)(ty:pG X.K H x t)(e:kitOne X.K t c=some b)(h:∀tk,Q (.bool b) { s with toks:=tk }):
   wpAny 'c' A (call (.builtin "isinstance") [u,c]) Q E s:=by
 cases ty with
 | bS=>cases(show u=Value.none from rx);exact ka PySem.W.kitx_none I.qK True.intro e (λz=>nomatch z) h
 | bl y=>cases(show u=Value.bool y from rx);exact ka PySem.W.kitx_bool I.qK True.intro e (λz=>nomatch z) h
 | int i=>obtain⟨t,q⟩:=(show ∃t,u=Value.int i t from rx);cases q;exact ka PySem.W.kitx_int I.qK True.intro e (λz=>nomatch z) h
 | str y=>obtain⟨t,q⟩:=(show ∃t,u=Value.str y t from rx);cases q;exact ka PySem.W.kitx_str I.qK True.intro e (λz=>nomatch z) h
 | SR y=>obtain⟨t,q⟩:=(show ∃t,u=Value.float y t from rx);cases q;exact ka PySem.W.kitx_float I.qK True.intro e (λz=>nomatch z) h
 | @lst a xs ea=>
   cases(show u=Value.ref a from rx);obtain⟨_,_,n,_,h1⟩:=(show cW X.prog X.w H s.heap a (.lst xs) from I.dB a _ ea)
   exact ka PySem.W.kitx_list I.qK ⟨_,h1,rfl⟩ e (λz=>nomatch z) h
 | @uf a ob xs ea=>
   cases(show u=Value.ref a from rx);obtain⟨_,_,_,n,_,h1⟩:=(show cW X.prog X.w H s.heap a (.uf ob (.lst xs)) from I.dB a _ ea)
   exact ka PySem.W.kitx_list I.qK ⟨_,h1,rfl⟩ e (λz=>nomatch z) h
 | @tup a xs ea=>
   cases(show u=Value.ref a from rx);obtain⟨_,_,_,p⟩:=(show cW X.prog X.w H s.heap a (.tup xs) from I.dB a _ ea)
   obtain⟨o,h1,h2,_⟩:=p;exact ka PySem.W.kitx_tuple I.qK ⟨o,h1,h2⟩ e (λz=>nomatch z) h
 | @dK a aB ea=>
   cases(show u=Value.ref a from rx);obtain⟨_,_,vs,_,p⟩:=(show cW X.prog X.w H s.heap a (.dK aB) from I.dB a _ ea)
   obtain⟨o,es,ep,h1,h2,_⟩:=p;exact ka PySem.W.kitx_dict I.qK ⟨o,h1,h2.1⟩ e (λz=>nomatch z) h
 | @dT a aB ea=>
   cases(show u=Value.ref a from rx);obtain⟨_,_,xs,_,o,es,ep,h1,h2,_⟩:=(show cW X.prog X.w H s.heap a (.dT aB) from I.dB a _ ea)
   exact ka PySem.W.kitx_dict I.qK ⟨o,h1,h2.1⟩ e (λz=>nomatch z) h
 | @ins a C dx fs ea cl ha hn htk hm=>
   cases(show u=Value.ref a from rx);obtain⟨mA,O,_⟩:=uZ I.dB ea;obtain⟨od,J,_⟩:=O.look;exact ka (PySem.W.kitx_own (cl.get _) cl.hd ha hn htk hm) I.qK J e (λz=>nomatch z) h
end
structure dJ (k:Nat)(A:Around):Prop where
 hd:A.handled=none
 dp:A.depth + 3 * k + 5 < recursionLimit
 un:A.units + 16 * k + 200 < cLine
 gd:A.guards=some []
theorem dJ.mono {j k:Nat}(r:dJ k A)(h:j<=k):dJ j A:=⟨r.hd,by have:=r.dp;omega,by have:=r.un;omega,r.gd⟩
theorem dJ.deeper {k:Nat}(r:dJ (k + 1) A)(env:Env):dJ k (A.deeper env):=
 ⟨r.hd,by have:=r.dp;show A.depth + 1 + 3 * k + 5 < _;omega,by have:=r.un;show A.units + 3 + 16 * k + 200 < _;omega,r.gd⟩
theorem Ez :(A.under (.builtin "type.__call__" ⟨.ref C::us,kw⟩)).depth=A.depth + 1:=by
 first | rfl | simp[Around.under,Code.weight,Code.isCreation,Code.isGuard,Code.isCaller,Code.frames,Code.isFrame,guardIds]
theorem EA :(A.under (.builtin "type.__call__" ⟨.ref C::us,kw⟩)).units=A.units + 1:=by
 first | rfl | simp[Around.under,Code.cUnits,Code.frames,Code.isFrame]
theorem dJ.make {k:Nat}(r:dJ (k + 1) A)(C:Addr)(us:List Value)(kw:List (Str×Value)):dJ k (A.under (.builtin "type.__call__" ⟨.ref C::us,kw⟩)):=
 ⟨r.hd,by have:=r.dp;rw[Ez];omega,by have:=r.un;rw[EA];omega,by have:=r.gd;first | exact this | simpa[Around.under,Code.guards,Code.isGuard,pushGuards,guardIds] using this⟩
theorem dJ.depth {k:Nat}(r:dJ k A):A.depth < recursionLimit:=by have:=r.dp;omega
theorem dJ.units {k:Nat}(r:dJ k A):A.units + 64 < cLine:=by have:=r.un;omega
def vE:TA:=λ_ H Q=>Q [] H
def pN (ta:TE)(tr:TA):TA:=λσ H Q=>ta σ H λx H1=>tr σ H1 λxs H2=>Q (x::xs) H2
section
variable {t:TA}
theorem TL:PA X [] vE:=λ_ _ _ _ H Q I h=>Calls.spliced_nil ⟨[],H,I,.nil,h⟩
theorem Pd (ha:PE X e te)(hr:PA X es t)(hs:starEach (e::es) X.env='t'::starEach es X.env:=by rfl):PA X (e::es) (pN te t):=by
 intro pos pins s σ H Q I h;rw[hs];show wpAny _ _ (spliced ('t'::backTo pos (starEach es X.env))) _ _ s;refine Calls.spliced_cons (bH (ha pins s σ H _ I h) λu s1=>?_);rintro⟨x,H1,I1,r1,q1⟩;refine bH (hr pos pins s1 σ H1 _ I1 q1) λus s2=>?_;rintro⟨xs,H2,I2,r2,q2⟩;exact ⟨x::xs,H2,I2,.cons r1 r2,q2⟩
def WJ (t:TA):TE:=λσ H Q=>t σ H λxs H1=>xs.length<=sizeLine/\∀p,H1 p=none->Q (.ref p) (upd H1 p (.tup xs))
def WK (t:TA):TE:=λσ H Q=>t σ H λxs H1=>xs.length<=sizeLine/\∀p,H1 p=none->Q (.ref p) (upd H1 p (.lst xs))
end
abbrev Sp:=List V->Hp->VK->XK->Prop
abbrev Cj:=List Env->Hp->Shared->XK->Value->Shared->Prop
structure EB (P:Program)(w:World)(K:Frag)(mg:Str->Option Value)(base:Heap)(A:Around)(outer:List Env)(s:Shared)(H:Hp):Prop where
 frames:A.frames=some outer
 mod:Mod K mg base
 bs:∀b o,base.get? b=some o->s.heap.get? b=some o/\H b=none
 Oz:base.objs.size<=s.heap.objs.size
 sP:s.heap.FunFrames base outer
 QV:∀b∈D6 outer,H b=none
 dB:qg P w H s.heap
 bare:AllBare s.gens
def CE (outer:List Env)(P:Program)(w:World)(H:Hp)(s:Shared)(Q:VK)(u:Value)(s':Shared):Prop:=
 ∃v H',s'.os=s.os/\AllBare s'.gens/\Un (D6 outer) [] H H' s.heap s'.heap/\qg P w H' s'.heap/\RelV v u/\Q v H'
def CR (CX:Cj)(outer:List Env)(P:Program)(w:World)(H:Hp)(s:Shared)(Q:VK)(E:XK)(r:Result)(s':Shared):Prop:=
 match r with
 | .ok (.ret u)=>CE outer P w H s Q u s'
 | .ok _=>False
 | .error e=>CX outer H s E e s'
structure dR (P:Program)(w:World)(K:Frag)(mg:Str->Option Value)(base:Heap)(CX:Cj)(k:Nat)(f:Addr)(fd:FuncData)(ps:List Str)(sp:Sp):Prop where
 len:∀vs H Q E,sp vs H Q E->vs.length=ps.length
 run:∀(A:Around) (outer:List Env) (s:Shared) (H:Hp) (args:Args) (us:List Value) (vs:List V) (Q:VK) (E:XK),dJ k A->EB P w K mg base A outer s H->BindsTo s fd args (ps.zip us)->Vals vs us->sp vs H Q E->
   codeAny (model P w) A (.call (.ref f) args) (CR CX outer P w H s Q E) s
theorem EB.make {K:Frag}(e:EB P w K mg base A outer s H)(C:Addr)(us:List Value)(kw:List (Str×Value)):
   EB P w K mg base (A.under (.builtin "type.__call__" ⟨.ref C::us,kw⟩)) outer s H:=⟨by first | exact e.frames | (simpa[Around.under,Code.envs,Code.isFrame,pushEnvs] using e.frames),e.mod,e.bs,e.Oz,e.sP,e.QV,e.dB,e.bare⟩
theorem Inv.TM (I:Inv X pins σ H s):EB X.prog X.w X.K X.mg X.base X.A X.stack s H:=
 ⟨I.ok.frames,I.ok.mod,I.bs,cw I.ok.Oz I.sz,I.stack,I.Gn,I.dB,I.bare⟩
theorem Inv.after {Q:VK}(I:Inv X pins σ H s)(h:CE X.stack X.prog X.w H s Q u s'):EP X pins σ Q u s':=by
 obtain⟨v,H',os,bare,un,dB,r,q⟩:=h;obtain⟨hh,g,d,t,os'⟩:=s';obtain rfl:os'=s.os:=os;exact⟨v,H',I.call (h':=hh) (g':=g) (d':=d) (t':=t) (ch:=[]) un dB bare (λb z=>absurd z Y2),r,q⟩
def uo (sp:Sp)(kM:List V)(E:XK)(t:TA):TE:=λσ H Q=>t σ H λvs H1=>sp (vs++kM) H1 Q E
def vF (C:Addr)(m:Str)(sp:Sp)(kM:List V)(E:XK)(ta:TE)(t:TA):TE:=λσ H Q=>ta σ H λx H1=>∃a dx fs,x=.ref a/\H1 a=some (.ins C dx fs)/\fs.lookup m=none/\
 t σ H1 λvs H2=>sp (x::(vs++kM)) H2 Q E
def Binds (K:Frag)(fd:FuncData)(ps:List Str)(ds:List Value):Prop:=
 ∀(s:Shared) (us:List Value),K.In s.heap->(us++ds).length=ps.length->BindsTo s fd ⟨us,[]⟩ (ps.zip (us++ds))
theorem Binds.all {K:Frag}(h:∀us:List Value,us.length=ps.length->bindArgs fd ⟨us,[]⟩=pure (ps.zip us)):Binds K fd ps []:=λs us _ hl=>by
 rw[List.append_nil]at hl ⊢;exact .of_eq (h us hl)
def Passes (CX:Cj)(X:Cx)(E:XK):Prop:=∀(pins:List (Addr×Obj)) (σ:St) (H:Hp) (s:Shared) (e:Value) (s':Shared),Inv X pins σ H s->CX X.stack H s E e s'->X.xe e s'
section
variable {CX:Cj}{k:Nat}{f:Addr}{sp:Sp}{kM:List V}{ds:List Value}{E:XK}{p apos:Pos}{o:Expr}{t:TA}
theorem EC {Q:VK}(F:dR X.prog X.w X.K X.mg X.base CX k f fd ps sp)(hr:dJ k X.A)(hb:Binds X.K fd ps ds)(hd:Vals kM ds)(hx:Passes CX X E)
   (I:Inv X pins σ H s) (r:Vals vs us) (h:sp (vs++kM) H Q E):wpAny 'c' X.A (call (.ref f) us) (EP X pins σ Q) X.xe s:=by
 have r2:Vals (vs++kM) (us++ds):=r.append hd;have hl:(us++ds).length=ps.length:=by rw[<- r2.length];exact F.len _ _ _ _ h
 refine wpAny_call (Qb (F.run X.A X.stack s H ⟨us,[]⟩ (us++ds) (vs++kM) Q E hr I.TM (hb s us I.qK hl) r2 h) λr s' hq=>?_);cases r with
 | error e=>exact hx pins σ H s e s' I hq
 | ok fl=>
   cases fl with
   | ret u=>exact I.after hq
   | next=>exact False.elim hq
   | brk=>exact False.elim hq
   | cont=>exact False.elim hq
theorem Pe (F:dR X.prog X.w X.K X.mg X.base CX k f fd ps sp)(hr:dJ k X.A)(hg:Gl X x)(hm:X.mg x=some (.ref f))(hk:keepIn X.K (.ref f)=true)(hb:Binds X.K fd ps ds)(hd:Vals kM ds)(hx:Passes CX X E)
   (ha:PA X (e::es) t) (yt:'p'=false:=by decide) (he:starEach (e::es) X.env='t'::starEach es X.env:=by rfl) (oV:'x'.any (·.1)=false:=by rfl):
   PE X (.Call (.Name x p) (e::es) [] pos) (uo sp kM E t):=by
 exists 1,Q,I,h;refine Kb (uY I hg hm ?_ yt);refine y7 (h₀:=X.base) I.ok.mod.OS hk (bH (ha pos pins s σ H _ I h) λus s1=>?_) he oV;rintro⟨vs,H1,I1,r,q⟩;refine ⟨I1.qK,?_⟩;exact EC F hr hb hd hx I1 r q
theorem Pf (he:PE X o ta)(c:uN X.K C)(hm:Meth X.K C m f)(F:dR X.prog X.w X.K X.mg X.base CX k f fd ps sp)(hr:dJ k X.A)(hb:Binds X.K fd ps ds)(hd:Vals kM ds)(hx:Passes CX X E)(ha:PA X (e::es) t)
   (Az:starEach (e::es) X.env='t'::starEach es X.env:=by rfl) (oV:'x'.any (·.1)=false:=by rfl)
   (ht:eval (.Call (.Attribute o m apos) (e::es) [] pos) X.env=(do
     let ov <- eval o X.env
     standAt apos.atName
     let (f,first) <- holding [ov] (getMethod ov m pl)
     callWith pos f first (backTo pos (starEach (e::es) X.env)) (backToKw pos (keywordEach [] X.env))):=by rfl):
   PE X (.Call (.Attribute o m apos) (e::es) [] pos) (vF C m sp kM E ta t):=by
 exists 1,Q,I,h;refine vw (pl:=pl) (bH (he pins s σ H _ I h) λu s1=>?_) ht;rintro⟨x,H1,I1,rx,a,dx,fs,ex,ea,l,q⟩;subst ex;obtain rfl:u=Value.ref a:=rx;refine qk I1 ea c hm l ?_;refine y7 (first:=[.ref a]) (h₀:=X.base) I.ok.mod.OS hm.kp (bH (ha pos pins s1 σ H1 _ I1 q) λus s2=>?_) Az oV;rintro⟨vs,H2,I2,r,q2⟩;refine ⟨I2.qK,?_⟩;exact EC (us:=.ref a::us) (vs:=.ref a::vs) F hr hb hd hx I2 (.cons rfl r) q2
theorem LD (he:PE X o ta)(c:uN X.K C)(hm:Meth X.K C m f)(F:dR X.prog X.w X.K X.mg X.base CX k f fd ps sp)(hr:dJ k X.A)(hb:Binds X.K fd ps ds)(hd:Vals kM ds)(hx:Passes CX X E)
   (ht:eval (.Call (.Attribute o m apos) [] [] pos) X.env=(do
     let ov <- eval o X.env
     standAt apos.atName
     let (f,first) <- holding [ov] (getMethod ov m pl)
     callWith pos f first (backTo pos (starEach [] X.env)) (backToKw pos (keywordEach [] X.env))):=by rfl):
   PE X (.Call (.Attribute o m apos) [] [] pos) (vF C m sp kM E ta vE):=by
 exists 1,Q,I,h;refine vw (pl:=pl) (bH (he pins s σ H _ I h) λu s1=>?_) ht;rintro⟨x,H1,I1,rx,a,dx,fs,ex,ea,l,q⟩;subst ex;obtain rfl:u=Value.ref a:=rx;refine qk I1 ea c hm l ?_;exact PySem.W.callWith_K0 (first:=[.ref a]) I1.qK hm.kp (EC (us:=[.ref a]) (vs:=[.ref a]) F hr hb hd hx I1 (.cons rfl .nil) q)
structure Mk (K:Frag)(C f:Addr):Prop where
 makes:makesIn K C=true
 init:findIn K (.ref C) "__init__"=some (some (.ref f))
 fn:isFn K (.ref f)=true
 kp:keepIn K (.ref C)=true
end
def PK (X:Cx)(sG:List Keyword)(t:TA):Prop:=
 ∀(pos:Pos) (pins:List (Addr×Obj)) (s:Shared) (σ:St) (H:Hp) (Q:List V->Hp->Prop),Inv X pins σ H s->t σ H Q->wpAny 'c' X.A (evalAll ('n'.map (·.2))) (AP X pins σ Q) X.xe s
section
variable {CX:Cj}{k:Nat}{f:Addr}{ks:List Str}{sp:Sp}{E:XK}{p apos TN:Pos}{o:Expr}{sG:List Keyword}{t tk:TA}{nm:Option Str}
theorem TQ:PK X [] vE:=λ_ _ _ _ H Q I h=>wpAny_evalAll_nil ⟨[],H,I,.nil,h⟩
theorem Pg (ha:PE X e te)(hr:PK X sG t):PK X (⟨nm,e,TN⟩::sG) (pN te t):=by
 intro pos pins s σ H Q I h;show wpAny _ _ (evalAll ((do let v <- eval e X.env;standAt pos;pure v)::'n'.map (·.2))) _ _ s;refine wpAny_evalAll_cons (Hc (bH (ha pins s σ H _ I h) λu s1=>?_));rintro⟨x,H1,I1,r1,q1⟩;refine Hc (Md (Hd ?_));refine bH (hr pos pins s1 σ H1 _ I1 q1) λus s2=>?_;rintro⟨xs,H2,I2,r2,q2⟩;exact ⟨x::xs,H2,I2,.cons r1 r2,q2⟩
structure sS (K:Frag)(fd:FuncData)(ps ks:List Str)(g:List Value->List Value->List Value)(gV:List V->List V->List V):Prop where
 to:∀(s:Shared) (us ws:List Value),K.In s.heap->(g us ws).length=ps.length->BindsTo s fd ⟨us,ks.zip ws⟩ (ps.zip (g us ws))
 rel:∀{vs:List V}{us:List Value}{zs:List V}{ws:List Value},Vals vs us->Vals zs ws->Vals (gV vs zs) (g us ws)
def AF (sp:Sp)(gV:List V->List V->List V)(E:XK)(t tk:TA):TE:=λσ H Q=>t σ H λvs H1=>tk σ H1 λzs H2=>sp (gV vs zs) H2 Q E
variable {g:List Value->List Value->List Value}{gV:List V->List V->List V}
theorem Gx {Q:VK}{ws:List Value}{zs:List V}(F:dR X.prog X.w X.K X.mg X.base CX k f fd ps sp)(hr:dJ k X.A)(hb:sS X.K fd ps ks g gV)(hx:Passes CX X E)
   (I:Inv X pins σ H s) (r:Vals vs us) (rz:Vals zs ws) (h:sp (gV vs zs) H Q E):wpAny 'c' X.A (call (.ref f) us (ks.zip ws)) (EP X pins σ Q) X.xe s:=by
 have r2:=hb.rel r rz;have hl:(g us ws).length=ps.length:=by rw[<- r2.length];exact F.len _ _ _ _ h
 refine wpAny_call (Qb (F.run X.A X.stack s H ⟨us,ks.zip ws⟩ (g us ws) (gV vs zs) Q E hr I.TM (hb.to s us ws I.qK hl) r2 h) λr s' hq=>?_);cases r with
 | error e=>exact hx pins σ H s e s' I hq
 | ok fl=>
   cases fl with
   | ret u=>exact I.after hq
   | next=>exact False.elim hq
   | brk=>exact False.elim hq
   | cont=>exact False.elim hq
theorem LF (F:dR X.prog X.w X.K X.mg X.base CX k f fd ps sp)(hr:dJ k X.A)(hg:Gl X x)(hm:X.mg x=some (.ref f))(hk:keepIn X.K (.ref f)=true)(hb:sS X.K fd ps ks g gV)(hx:Passes CX X E)
   (ha:PA X (e::es) t) (WL:PK X sG tk) (AG:'n'.all (·.1.isSome)=true:=by rfl) (LG:'n'.filterMap (·.1)=ks:=by rfl)
   (yt:'p'=false:=by decide) (he:starEach (e::es) X.env='t'::starEach es X.env:=by rfl)
   (oV:((backTo pos (starEach (e::es) X.env)).any (·.1)||'n'.any (·.1.isNone))=false:=by rfl):
   PE X (.Call (.Name x p) (e::es) sG pos) (AF sp gV E t tk):=by
 exists 1,Q,I,h;refine Kb (uY I hg hm ?_ yt);refine PySem.W.callWith_KW (h₀:=X.base) I.ok.mod.OS hk AG (bH (ha pos pins s σ H _ I h) λus s1=>?_) oV he;rintro⟨vs,H1,I1,r,q⟩;refine bH (WL pos pins s1 σ H1 _ I1 q) λws s2=>?_;rintro⟨zs,H2,I2,rz,q2⟩;refine ⟨I2.qK,?_⟩
 rw[LG];exact Gx F hr hb hx I2 r rz q2
end
structure eU (N P:List Str)(sc:Scope):Prop where
 kind:sc.kind=.function
 co:sc.isCoroutine=false
 gen:sc.isGenerator=false
 nd:N.Nodup
 pre:N.take P.length=P
 par:∀x∈P,sc.names.lookup x=some .local∨sc.names.lookup x=some .cell
 TR:∀y∈sc.names,y.2≠.free
theorem zg {kindOf:Str->Option NameKind}{x:Str}:∀{binds:List (Str×Value)}{m:Str->Option Value},(∀v,(x,v)∉binds)->bindL kindOf binds m x=m x
 | [],_,_=>rfl
 | (n,v)::r,m,h=>by
   unfold bindL;rw[zg λw hw=>h w (bc _ hw)];split
   . have:x≠n:=by rintro rfl;exact h v cb
     simp[this]
   . rfl
theorem zj {kindOf:Str->Option NameKind}{x:Str}:∀{binds:List (Str×Value)}{m:Str->Option Value},(∀v,(x,v)∉binds)->bindC kindOf binds m x=m x
 | [],_,_=>rfl
 | (n,v)::r,m,h=>by
   unfold bindC;rw[zj λw hw=>h w (bc _ hw)];split
   . rfl
   . have:x≠n:=by rintro rfl;exact h v cb
     simp[this]
theorem zk {kindOf:Str->Option NameKind}{x:Str}{v:Value}:∀{P:List Str}{vs:List Value}{i:Nat}{m:Str->Option Value},P.Nodup->P[i]?=some x->vs[i]?=some v->kindOf x=some .local->
   bindL kindOf (P.zip vs) m x=some v
 | [],_,_,_,_,h,_,_=>by simp at h
 | _::_,[],_,_,_,_,h,_=>by simp at h
 | p::P,w::vs,0,m,nd,h1,h2,hk=>by
   simp at h1 h2;subst h1;subst h2;show bindL kindOf ((p,w)::P.zip vs) m p=_;unfold bindL;rw[zg λv hv=>(List.nodup_cons.mp nd).1 (FC hv).1,Hk hk];simp
 | p::P,w::vs,i + 1,m,nd,h1,h2,hk=>by
   show bindL kindOf ((p,w)::P.zip vs) m x=_;unfold bindL;exact zk (i:=i) (List.nodup_cons.mp nd).2 (by simpa using h1) (by simpa using h2) hk
theorem zl {kindOf:Str->Option NameKind}{x:Str}{v:Value}:∀{P:List Str}{vs:List Value}{i:Nat}{m:Str->Option Value},P.Nodup->P[i]?=some x->vs[i]?=some v->kindOf x≠some .local->
   bindC kindOf (P.zip vs) m x=some v
 | [],_,_,_,_,h,_,_=>by simp at h
 | _::_,[],_,_,_,_,h,_=>by simp at h
 | p::P,w::vs,0,m,nd,h1,h2,hk=>by
   simp at h1 h2;subst h1;subst h2;show bindC kindOf ((p,w)::P.zip vs) m p=_;unfold bindC;rw[zj λv hv=>(List.nodup_cons.mp nd).1 (FC hv).1,He hk];simp
 | p::P,w::vs,i + 1,m,nd,h1,h2,hk=>by
   show bindC kindOf ((p,w)::P.zip vs) m x=_;unfold bindC;exact zl (i:=i) (List.nodup_cons.mp nd).2 (by simpa using h1) (by simpa using h2) hk
def start (N:List Str)(vs:List V):St:=vs.map some++List.replicate (N.length - vs.length) none
def qT (CX:Cj)(P:Program)(w:World)(K:Frag)(mg:Str->Option Value)(base:Heap)(N:List Str)(qual:Str)(scope:Scope)(f:Addr)(cd:Value)(A:Around)(outer:List Env)(s:Shared)(H:Hp)(E:XK):Cx where
 prog:=P
 w:=w
 K:=K
 mg:=mg
 base:=base
 A:=A.deeper (envOfC qual scope s.heap.objs.size f cd)
 N:=N
 s₀:=s
 H₀:=H
 env:=envOfC qual scope s.heap.objs.size f cd
 outer:=outer
 stack:=envOfC qual scope s.heap.objs.size f cd::outer
 ex:=[]
 calm:=true
 fn:=λ_=>true
 pn:=[]
 xe:=λe s'=>wpAny (model P w) (A.deeper (envOfC qual scope s.heap.objs.size f cd)) (leaving (envOfC qual scope s.heap.objs.size f cd) e) (λ_ s''=>CX outer H s E e s'') (λe' s''=>CX outer H s E e' s'') s'
theorem Ck {sc:Scope}(h:sc.names.lookup x=some .cell):∃c,(cellsFrom n sc.names []).lookup x=some c:=by
 have q:=PySem.W.cellsFrom_some sc.names n [] (.inl h);exact B2.mp q
theorem Jp {CX:Cj}{K:Frag}{f:Addr}{cd:Value}{s1:Shared}{E:XK}
   (S:eU N ps scope) (hd:A.handled=none) (e0:EB P w K mg base A outer s H) (hl:vs.length=ps.length) (r:Vals vs us)
   (x:InCallC s s.heap.objs.size (bindL (envOfC qual scope s.heap.objs.size f cd).kindOf (ps.zip us) λ_=>none) (cellsFrom (s.heap.objs.size + 1) scope.names []) (bindC (envOfC qual scope s.heap.objs.size f cd).kindOf (ps.zip us) λ_=>none) s1):
   Inv (qT CX P w K mg base N qual scope f cd A outer s H E) [] (start N vs) H s1:=by
 have oV:ps.length<=N.length:=by have:=congrArg List.length S.pre;rw[eC]at this;omega
 obtain⟨h1,tk,rfl,hk⟩:=x.done;have WM:∀b:Addr,b∉(qT CX P w K mg base N qual scope f cd A outer s H E).ex:=λb z=>absurd (show b∈([]:List Addr) from z) Y2;refine⟨⟨e0.mod,S.kind,rfl,rfl,ag _,λy z c h1 h2=>?_,λy hy=>?_,λy c _ h=>?_,λ_=>hd,Around.frames_deeper e0.frames,.inr ⟨rfl,rfl⟩,λb z=>absurd z (WM b),e0.bs,e0.Oz,λb _ _=>WM b,λb z=>absurd z (WM b),e0.sP,e0.QV⟩,
   rfl,e0.bare,Un.kept hk,⟨_,x.toInCall.ns,λi y v h1 h2 h3=>?_⟩,λy c h=>⟨_,x.cell y c h⟩,e0.dB.fresh (ag _),λy c h=>?_,λp hp=>absurd (show p∈([]:List (Addr×Obj)) from hp) Y2,e0.dB.kept hk,?_⟩
 . exact name_of_addr x.apart (pw h1) (pw h2)
 . have hy:scope.names.lookup y=some .cell∨scope.names.lookup y=some .free:=hy;rcases hy with hy | hy
   . exact Ck hy
   . exact absurd rfl (S.TR _ (pw hy))
 . exact fv (x.above y c (pw h))
 . have hi:i < vs.length:=by
     unfold start at h2
     by_cases hi:i < vs.length
     . exact hi
     . rw[i5 (by simpa using hi)]at h2;rw[List.getElem?_replicate]at h2;split at h2 <;> cases h2
   have ha:vs[i]?=some v:=by
     unfold start at h2;rw[gN (by simpa using hi),ax]at h2;cases e:vs[i]? with
     | none=>rw[e]at h2;cases h2
     | some a=>rw[e]at h2;cases h2;rfl
   obtain⟨u,hu,rv⟩:=r.get ha;have hp:ps[i]?=some y:=by
     rw[<- S.pre,List.getElem?_take_of_lt X2];exact h1
   have ndP:ps.Nodup:=by rw[<- S.pre];exact S.nd.sublist (BM _ _)
   refine⟨u,rv,?_⟩;rcases S.par y (bb hp)with k | k
   . exact .inl ⟨k,zk ndP hp hu k⟩
   . obtain⟨c,e⟩:=Ck (n:=s.heap.objs.size + 1) k;refine .inr ⟨.inl k,c,e,?_⟩;have q:=x.cell y c e;rw[zl ndP hp hu (by show scope.names.lookup y≠_;rw[k];decide)]at q;exact q
 . exact e0.dB.fresh (fv (x.above y c (pw h)))
 . unfold start;show _=N.length;rw[ar,ab,qr];omega
theorem WN {CX:Cj}{K:Frag}{k:Nat}{f:Addr}{params:Arguments}{dV kV doc pm eW ct oc:Value}{an od:Option Addr}
   {Jq:Array (Option Value)}{sp:Sp}(lk:K.lookup f=some ⟨oc,od,.func (fnOf name qual params body scope dV kV doc pm an eW ct),Jq⟩) (Em:codeIn K eW qual=true) (S:eU N ps scope)
   (len:∀vs H Q E,sp vs H Q E->vs.length=ps.length)
   (ja:∀(A:Around) (outer:List Env) (s:Shared) (H:Hp) (vs:List V) (Q:VK) (E:XK),dJ k (A.deeper (envOfC qual scope s.heap.objs.size f eW))->sp vs H Q E->
     ∃t,D8 (qT CX P w K mg base N qual scope f eW A outer s H E) body t/\t { nx:=λ_ H'=>Q .bS H',rt:=Q } (start N vs) H):
   dR P w K mg base CX (k + 1) f (fnOf name qual params body scope dV kV doc pm an eW ct) ps sp:=by
 refine⟨len,λA outer s H args us vs Q E hr e0 hb r Q2=>?_⟩;have hl:=len _ _ _ _ Q2;have KX:K.In s.heap:=e0.mod.OS.keeps λb o e=>(e0.bs b o e).1;have lim:s.heap.NoLimit:=e0.mod.nolimit.keeps λb o e=>(e0.bs b o e).1;have WO:∀y∈ps.zip us,scope.names.lookup y.1=some .local∨(scope.names.lookup y.1=some .cell/\((cellsFrom (s.heap.objs.size + 1) scope.names []).lookup y.1).isSome=true):=λ⟨n,v⟩ hy=>by
   rcases S.par n (FC hy).1 with q | q
   . exact .inl q
   . exact .inr ⟨q,PySem.W.cellsFrom_some _ _ _ (.inl q)⟩
 refine codeAny_call_function hr.depth (KX _ _ lk) rfl S.co S.gen rfl (PySem.W.codeRec_of KX Em) (hb _ _ _ _ ?_);refine wpAny_newFunctionEnv_cells S.kind WO λenv he s1 x=>?_;subst he;refine⟨lim.keeps x.toInCall.keep,codeAny_func ?_⟩;obtain⟨t,ht,hq⟩:=ja A outer s H vs Q E (hr.deeper _) Q2;have I:Inv (qT CX P w K mg base N qual scope f eW A outer s H E) [] (start N vs) H s1:=Jp S hr.hd e0 hl r x;refine HI (ht [] s1 (start N vs) H _ I hq) (λfl s' hs=>?_) λe s' hs=>hs;have fin:∀{σ':St}{H':Hp}{v:V}{u:Value},Inv (qT CX P w K mg base N qual scope f eW A outer s H E) [] σ' H' s'->RelV v u->Q v H'->CE outer P w H s Q u s':=
   λ{σ' H' v u} J rv q=>⟨v,H',J.os,J.bare,J.base,J.dB,rv,q⟩
 cases fl with
 | ret u=>
   obtain⟨v,σ',H',J,rv,q⟩:=hs;exact fin J rv q
 | next=>
   obtain⟨σ',H',J,q⟩:=hs;exact fin (v:=V.bS) (u:=Value.none) J rfl q
 | brk=>
   obtain⟨_,_,_,q⟩:=hs;exact False.elim q
 | cont=>
   obtain⟨_,_,_,q⟩:=hs;exact False.elim q
section
variable {p:Pos}{t:TA}{id T:String}{r:List V->Hp->VK->Prop}
def Q3 (r:List V->Hp->VK->Prop)(t:TA):TE:=λσ H Q=>t σ H λvs H1=>r vs H1 Q
theorem LH (hc:dQ X (.builtin id) r)(hg:Gl X x)(hm:X.mg x=none)(hv:bootBuiltins x=some (.builtin id))(ha:PA X (e::es) t)(hn:x≠"__name__":=by decide)(yt:'p'=false:=by decide)
   (he:starEach (e::es) X.env='t'::starEach es X.env:=by rfl) (oV:'x'.any (·.1)=false:=by rfl):PE X (.Call (.Name x p) (e::es) [] pos) (Q3 r t):=by
 exists 1,Q,I,h;refine Kb (gw I hg hm hv ?_ hn yt);refine wq (bH (ha pos pins s σ H _ I h) λus s1=>?_) he oV;rintro⟨vs,H1,I1,r1,q1⟩;exact hc pins s1 σ H1 vs us Q I1 r1 q1
theorem Jr (hc:dQ X (.type T) r)(hg:Gl X x)(hm:X.mg x=none)(hv:bootBuiltins x=some (.type T))(ha:PA X (e::es) t)(hn:x≠"__name__":=by decide)(yt:'p'=false:=by decide)
   (he:starEach (e::es) X.env='t'::starEach es X.env:=by rfl) (oV:'x'.any (·.1)=false:=by rfl):PE X (.Call (.Name x p) (e::es) [] pos) (Q3 r t):=by
 exists 1,Q,I,h;refine Kb (gw I hg hm hv ?_ hn yt);refine dC (bH (ha pos pins s σ H _ I h) λus s1=>?_) he oV;rintro⟨vs,H1,I1,r1,q1⟩;exact hc pins s1 σ H1 vs us Q I1 r1 q1
end
end L2
namespace HT
open PySem PyProof.Rows
section
open PySem.SeqAt
open PySem.AutoSeq1 (wpAny_loadPart')
open PySem.MeetsSeq PySem.MeetsSeq2 PySem.MeetsSeq3
end
section
variable {prog:Program}{w:World}{A:Around}{E:Value->Shared->Prop}{s:Shared}
def BZ (n d:Nat):Option Int->Nat
 | none=>d
 | some v=>if v < 0 then (v + (n:Int)).toNat else min v.toNat n
theorem LJ (n d:Nat):BZ n d none=d:=rfl
theorem Ph (n d k:Nat):BZ n d (some (k:Int))=min k n:=by
 show(if (k:Int) < 0 then ((k:Int) + (n:Int)).toNat else min (k:Int).toNat n)=min k n;rw[He X2,my]
end
end HT
namespace L2
open PySem PySem.Spec PyProof.Rows
variable{b p:Addr}{A:Around}{X:Cx}{e:Expr}{h':Heap}{H H':Hp}{i:Int}{pins:List (Addr×Obj)}{xs:List (List Key×Addr×Value)}{aB:List (List Key×V)}{br:List Value}{j n t':Nat}{o:Option V}{pos:Pos}{P prog:Program}{s:Shared}{σ:St}{T:String}{α:Type}{x y:V}{u:Value}{E Q:Value->Shared->Prop}{w:World}
abbrev TO:=St->Hp->(Option Int->Hp->Prop)->Prop
def PO (X:Cx)(e:Option Expr)(t:TO):Prop:=
 ∀(pins:List (Addr×Obj)) (s:Shared) (σ:St) (H:Hp) (Q:Option Int->Hp->Prop),Inv X pins σ H s->t σ H Q->
   wpAny 'c' X.A (evalPart e X.env) (λu s'=>∃o H',Inv X pins σ H' s'/\IsPart u o/\Q o H') X.xe s
def u5:TO:=λ_ H Q=>Q none H
def Gy (t:TE):TO:=λσ H Q=>t σ H λx H1=>∃i,x=.int i/\Q (some i) H1
section
variable {te:TE}{lo hi:Option Expr}{tl th:TO}{p2:Pos}
theorem Pj:PO X none u5:=by
 exists 1,Q,I,h;rw[evalPart_none];exact Hd ⟨none,H,I,.none,h⟩
theorem Pk (h:PE X e te):PO X (some e) (Gy te):=by
 exists 1,Q,I,hw;rw[evalPart_some];refine bH (h pins s σ H _ I hw) λu s1=>?_;rintro⟨x,H1,I1,r1,q1⟩;obtain⟨i,rfl,q⟩:=q1;obtain⟨t,rfl⟩:=r1;exact⟨some i,H1,I1,.int i t,q⟩
def Zh (X:Cx)(r:V->Option Int->Option Int->Hp->VK->Prop):Prop:=
 ∀(pins:List (Addr×Obj)) (s:Shared) (σ:St) (H:Hp) (x:V) (v vl vu:Value) (lo hi:Option Int) (sl:Addr) (Q:VK),Inv X pins σ H s->RelV x v->s.heap.IsSliceOf sl vl vu .none->IsPart vl lo->IsPart vu hi->r x lo hi H Q->
   ∃T id,typeLookup (.type T) "__getitem__"=pure (some (.builtin id))/\s.TypeIs v T/\wpAny 'c' X.A (getItem v (.ref sl)) (EP X pins σ Q) X.xe s
def Zi (r:V->Option Int->Option Int->Hp->VK->Prop)(te:TE)(tl th:TO):TE:=λσ H Q=>te σ H λx H1=>tl σ H1 λl H2=>th σ H2 λu H3=>r x l u H3 Q
theorem LK {r:V->Option Int->Option Int->Hp->VK->Prop}(hr:Zh X r)(he:PE X e te)(hl:PO X lo tl)(hu:PO X hi th):PE X (.Subscript e (.Slice lo hi none p2) pos) (Zi r te tl th):=by
 exists 1,Q,I,h;refine Subscript_ (bH (he pins s σ H _ I h) λv s1=>?_);rintro⟨x,H1,I1,r1,q1⟩;refine wpAny_Slice (bH (hl pins s1 σ H1 _ I1 q1) λvl s2=>?_);rintro⟨l,H2,I2,pl,q2⟩;refine bH (hu pins s2 σ H2 _ I2 q2) λvu s3=>?_;rintro⟨u,H3,I3,pu,q3⟩;rw[evalPart_none];refine Hd ?_;have I4:Inv X pins σ H3 { s3 with heap:=s3.heap.push { cls:=.type "slice",data:=.fields #[vl,vu,.none] } }:=I3.kept (t':=s3.toks) λb ob q=>ae _ q;obtain⟨T,id,hT,ht,hg⟩:=hr pins { s3 with heap:=s3.heap.push { cls:=.type "slice",data:=.fields #[vl,vu,.none] } } σ H3 x v vl vu l u s3.heap.objs.size Q I4 r1 (Heap.IsSliceOf.new ..) pl pu q3;show wpAny 'c' X.A (subscriptTail e (.Slice lo hi none p2) v (.ref s3.heap.objs.size)) (EP X pins σ Q) X.xe { s3 with heap:=s3.heap.push { cls:=.type "slice",data:=.fields #[vl,vu,.none] } };exact tail_any (ops:=[.ref s3.heap.objs.size,v]) ht hT hg aab
def ql (xs:List V)(lo hi:Option Int):List V:=(xs.drop (HT.BZ xs.length 0 lo)).take (HT.BZ xs.length xs.length hi - HT.BZ xs.length 0 lo)
theorem uq (xs:List V)(lo hi:Option Int):(ql xs lo hi).length<=xs.length:=by
 unfold ql;rw[eC,km];omega
end
def ED (n:Nat)(i:Int):Option Nat:=if 0<=i then (if i < n then some i.toNat else none) else if -(n:Int)<=i then some (i + n).toNat else none
def j3 (xs:List α)(i:Int):Option α:=(ED xs.length i).bind λj=>xs[j]?
theorem Gz (h:ED n i=some j):seqIndex? i n=some j/\j < n/\-(n:Int)<=i/\i < n:=by
 unfold ED at h
 by_cases h0:0<=i
 . rw[Hk h0]at h
   by_cases h1:i < n
   . rw[Hk h1]at h;have e:i.toNat=j:=Option.some.inj h;exact⟨by rw[seqIndex_of h0 h1,e],by omega,by omega,h1⟩
   . rw[He h1]at h;cases h
 . rw[He h0]at h
   by_cases h1:-(n:Int)<=i
   . rw[Hk h1]at h;have e:(i + n).toNat=j:=Option.some.inj h;exact⟨by rw[seqIndex_neg X2 h1,e],by omega,h1,by omega⟩
   . rw[He h1]at h;cases h
theorem GC {xs:List α}{v:α}(h:j3 xs i=some v):∃j,seqIndex? i xs.length=some j/\xs[j]?=some v/\j < xs.length/\-(xs.length:Int)<=i/\i < xs.length:=by
 unfold j3 at h;cases e:ED xs.length i with
 | none=>rw[e]at h;cases h
 | some j=>
   rw[e]at h;obtain⟨h1,h2,h3,h4⟩:=Gz e;exact⟨j,h1,h,h2,h3,h4⟩
theorem dI {xs:List α}{v:α}(h:xs[j]?=some v):j3 xs (j:Int)=some v:=by
 have hj:j < xs.length:=(bo.mp h).1;have e:ED xs.length (j:Int)=some j:=by
   unfold ED;rw[Hk X2,Hk X2];simp
 unfold j3;rw[e];exact h
def GD (b:Expr):Prop:=∀o i,subscripted b false o i=operate [o,i] (getItem o i)
def Q4 (X:Cx)(r:R2):Prop:=
 ∀(value slice:Expr) (pins:List (Addr×Obj)) (s:Shared) (σ:St) (H:Hp) (x y:V) (v u:Value) (Q:VK),Inv X pins σ H s->RelV x v->RelV y u->r x y H Q->
   subscripted slice false v u=operate [v,u] (getItem v u)->wpAny 'c' X.A (subscriptTail value slice v u) (EP X pins σ Q) X.xe s
def Zj (X:Cx)(id:String)(r:V->List V->Hp->VK->Prop):Prop:=
 ∀(pins:List (Addr×Obj)) (s:Shared) (σ:St) (H:Hp) (x:V) (xs:List V) (v:Value) (us:List Value) (Q:VK),Inv X pins σ H s->RelV x v->Vals xs us->r x xs H Q->
   wpAny 'c' X.A (call (.builtin id) (v::us)) (EP X pins σ Q) X.xe s
section
variable {a b:Expr}{ta tb:TE}
theorem WQ {r:R2}(hr:Q4 X r)(ha:PE X a ta)(hb:PE X b tb)(hs:GD b):PE X (.Subscript a b pos) (Gr r ta tb):=by
 exists 1,Q,I,h;exact Subscript_ (Tu ha hb I h λv u s2 x y H2 I2 rx ry q=>hr a b pins s2 σ H2 x y v u Q I2 rx ry q (hs _ _))
def WR (K:Frag):R2:=λx y H Q=>∃p xs i v,x=.ref p/\y=.int i/\aQ K H p xs/\j3 xs i=some v/\Q v H
def aax (K:Frag):R2:=λx y H Q=>∃p xs i v,x=.ref p/\y=.int i/\yq K H p xs/\j3 xs i=some v/\Q v H
def WS:R2:=λx y H Q=>∃z i c,x=.str z/\y=.int i/\z.length<=sizeLine/\j3 z.cps.toList i=some c/\Q (.str ⟨#[c]⟩) H
theorem GF:Q4 X (WR X.K):=by
 intro value slice pins s σ H x y v u Q I rx ry h hs;obtain⟨p,xs,i,z,rfl,rfl,hq,he,q⟩:=h;cases rx;obtain⟨t,rfl⟩:=ry;obtain⟨br,r,pl,hz⟩:=I.list hq;obtain⟨j,h1,h2,h3,h4,h5⟩:=GC he;obtain⟨w,ew,rw'⟩:=r.get h2;have hl:=r.length;have hn:=vD;have fin:EP X pins σ Q w s:=⟨z,H,I,rw',q⟩
 by_cases h0:0<=i
 . have hj:i.toNat=j:=by
     rw[seqIndex_of h0 h5]at h1;exact Option.some.inj h1
   exact item_listR pl.isList h0 X2 (by rw[hj];simpa using ew) fin hs
 . have hj:(i + (br.toArray.size:Int)).toNat=j:=by
     rw[seqIndex_neg X2 h4]at h1;rw[da,<- hl];exact Option.some.inj h1
   exact subscriptTail_builtinR (x:=w) pl.isList.typeIs slot_list_getitem.lookup
     (wpAny_getItem_list_neg (Q:=λr s'=>r=w/\EP X pins σ Q r s') pl.isList X2 (by rw[da] <;> omega) X2 (by rw[hj];simpa using ew) ⟨rfl,fin⟩) hs
theorem TU:Q4 X (aax X.K):=by
 intro value slice pins s σ H x y v u Q I rx ry h hs;obtain⟨p,xs,i,z,rfl,rfl,hq,he,q⟩:=h;cases rx;obtain⟨t,rfl⟩:=ry;obtain⟨br,r,pl,hz⟩:=I.tuple hq;obtain⟨j,h1,h2,h3,h4,h5⟩:=GC he;obtain⟨w,ew,rw'⟩:=r.get h2;have hl:=r.length;have hn:=vD;have fin:EP X pins σ Q w s:=⟨z,H,I,rw',q⟩
 exact subscriptTail_builtinR (x:=w) pl.typeIs slot_tuple_getitem.lookup
   (getItem_tuple (j:=j) (Q:=λr s'=>r=w/\EP X pins σ Q r s') pl X2 X2 (by rw[da,<- hl];exact h1) (by simpa using ew) ⟨rfl,fin⟩) hs
theorem EE (br:List Value)(n j:Nat)(u:Value):Obj.mapSeq (·.setIfInBounds j u) { cls:=.type "list",data:=.seq br.toArray n }={ cls:=.type "list",data:=.seq (br.set j u).toArray n }:=by
 simp[Obj.mapSeq]
theorem Inv.lst {xs:List V}(I:Inv X pins σ H s)(h:H p=some (.lst xs)):
   ∃(br:List Value) (n:Nat),Vals xs br/\s.heap.get? p=some { cls:=.type "list",data:=.seq br.toArray n }/\xs.length<=sizeLine:=by
 obtain⟨z,br,n,r,e⟩:=I.dB p _ h;exact⟨br,n,r,e,z⟩
theorem Inv.TV {xs ys:List V}{its':List Value}{n':Nat}{f:Obj->Obj}(I:Inv X pins σ H s)(h:H p=some (.lst xs))
   (ho:s.heap.get? p=some { cls:=.type "list",data:=.seq br.toArray n }) (hf:f { cls:=.type "list",data:=.seq br.toArray n }={ cls:=.type "list",data:=.seq its'.toArray n' }) (r:Vals ys its') (hz:ys.length<=sizeLine) (t:Nat):
   Inv X pins σ (upd H p (.lst ys)) { s with heap:=s.heap.update p f,toks:=t }:=by
 have e:(s.heap.update p f).get? p=some { cls:=.type "list",data:=.seq its'.toArray n' }:=by
   rw[ip f ho (by rw[hf] <;> rfl),hf]
 refine I.write (x:=p) (e:=p) (by rw[h];trivial) (.inl rfl) (λb u hb q=>(ky _ _ (Ne.symm hb)).trans q) ⟨_,e⟩ ?_;exact⟨hz,its',n',r,e⟩
def LL:V->V->V->Hp->(Hp->Prop)->Prop:=λo i v H Q=>∃p xs k j,o=.ref p/\i=.int k/\H p=some (.lst xs)/\ED xs.length k=some j/\Q (upd H p (.lst (xs.set j v)))
theorem set_list:Tf X LL:=by
 exists 1,o,i,v,ov,iv,u,Q,I,ro,ri,rv,h;obtain⟨p,xs,k,j,rfl,rfl,hp,hj,q⟩:=h;cases ro;obtain⟨t,rfl⟩:=ri;obtain⟨br,n,r,ho,hz⟩:=I.lst hp;obtain⟨h1,h2,h3,h4⟩:=Gz hj;have hl:=r.length;have hn:=vD;have I':Inv X pins σ (upd H p (.lst (xs.set j v))) { s with heap:=s.heap.update p (Obj.mapSeq (·.setIfInBounds j u)) }:=
   I.TV hp ho (EE br n j u) (r.set rv j) (by rw[List.length_set];exact hz) s.toks
 by_cases h0:0<=k
 . have hk:k.toNat=j:=by
     rw[seqIndex_of h0 h4]at h1;exact Option.some.inj h1
   exact PySem.W.ki_setAt ho h0 X2 (by rw[da,<- hl];exact h4) (by rw[hk];exact⟨_,I',q⟩)
 . have hk:(k + (br.toArray.size:Int)).toNat=j:=by
     rw[seqIndex_neg X2 h3]at h1;rw[da,<- hl];exact Option.some.inj h1
   exact PySem.W.ki_setBack ho X2 (by rw[da,<- hl];exact h3) X2 (by rw[hk];exact⟨_,I',q⟩)
theorem AH (lo hi:Option Int)(n:Nat):(sliceBounds lo hi none n).1=((HT.BZ n 0 lo:Nat):Int)/\(sliceBounds lo hi none n).2.1=((HT.BZ n n hi:Nat):Int)/\(sliceBounds lo hi none n).2.2=1:=by
 refine⟨?_,?_,rfl⟩
 . cases lo with
   | none=>simp[sliceBounds,HT.BZ]
   | some i=>
     simp only[sliceBounds,HT.BZ,Dx,show(1:Int) > 0 by decide,QP]
     by_cases h:i < 0
     . simp only[h,QP] <;> omega
     . simp only[h,Kt] <;> omega
 . cases hi with
   | none=>simp[sliceBounds,HT.BZ]
   | some i=>
     simp only[sliceBounds,HT.BZ,Dx,show(1:Int) > 0 by decide,QP]
     by_cases h:i < 0
     . simp only[h,QP] <;> omega
     . simp only[h,Kt] <;> omega
theorem yu (br:List Value)(lo hi:Option Int):slicePick br.toArray lo hi none=((br.drop (HT.BZ br.length 0 lo)).take (HT.BZ br.length br.length hi - HT.BZ br.length 0 lo)).toArray:=by
 obtain⟨h1,h2,h3⟩:=AH lo hi br.toArray.size;unfold slicePick;rw[h1,h2,h3];simp only[sliceRange_one,pick_run,da] <;> rfl
def l9:V->Bool
 | .bS=>true
 | .bl _=>true
 | .int _=>true
 | .str _=>true
 | _=>false
def OD:V->V->Bool
 | .bS,.bS=>true
 | .bl a,.bl b=>a==b
 | .bl a,.int b=>(if a then 1 else 0)==b
 | .int a,.bl b=>a==(if b then 1 else 0)
 | .int a,.int b=>a==b
 | .str a,.str b=>a==b
 | _,_=>false
theorem TX {v:Value}(ry:RelV y u)(rx:RelV x v)(fy:l9 y=true)(fx:l9 x=true):SeqAt.EqAt A s u v (OD y x):=by
 cases y with
 | bS=>
   cases ry;cases x with
   | bS=>cases rx;exact SeqAt.EqAt.same _
   | bl b=>cases rx;exact SeqAt.EqAt.none_bool b
   | int b=>obtain⟨t,rfl⟩:=rx;exact SeqAt.EqAt.none_int b t
   | str b=>obtain⟨t,rfl⟩:=rx;exact SeqAt.EqAt.none_str b t
   | _=>exact absurd (show false=true from fx) dt
 | bl a=>
   cases ry;cases x with
   | bS=>cases rx;exact SeqAt.EqAt.bool_none a
   | bl b=>cases rx;exact SeqAt.EqAt.bool_bool a b
   | int b=>obtain⟨t,rfl⟩:=rx;exact SeqAt.EqAt.bool_int a b t
   | str b=>obtain⟨t,rfl⟩:=rx;exact SeqAt.EqAt.bool_str a b t
   | _=>exact absurd (show false=true from fx) dt
 | int a=>
   obtain⟨t',rfl⟩:=ry;cases x with
   | bS=>cases rx;exact SeqAt.EqAt.int_none a t'
   | bl b=>cases rx;exact SeqAt.EqAt.int_bool a t' b
   | int b=>obtain⟨t,rfl⟩:=rx;exact SeqAt.EqAt.int_int a t' b t
   | str b=>obtain⟨t,rfl⟩:=rx;exact SeqAt.EqAt.int_str a t' b t
   | _=>exact absurd (show false=true from fx) dt
 | str a=>
   obtain⟨t',rfl⟩:=ry;cases x with
   | bS=>cases rx;exact SeqAt.EqAt.str_none a t'
   | bl b=>cases rx;exact SeqAt.EqAt.str_bool a t' b
   | int b=>obtain⟨t,rfl⟩:=rx;exact SeqAt.EqAt.str_int a t' b t
   | str b=>obtain⟨t,rfl⟩:=rx;exact SeqAt.EqAt.str_str a t' b t
   | _=>exact absurd (show false=true from fx) dt
 | _=>exact absurd (show false=true from fy) dt
def EF (x:V)(u:Value):Bool:=match u with
 | .none=>OD .bS x
 | .bool b=>OD (.bl b) x
 | .int i _=>OD (.int i) x
 | .str z _=>OD (.str z) x
 | _=>false
theorem LM (r:RelV y u)(f:l9 y=true):EF x u=OD y x:=by
 cases y with
 | bS=>cases r;rfl
 | bl b=>cases r;rfl
 | int i=>obtain⟨t,rfl⟩:=r;rfl
 | str z=>obtain⟨t,rfl⟩:=r;rfl
 | _=>exact absurd (show false=true from f) dt
theorem u6 :∀{xs:List V}{us:List Value},Vals xs us->xs.all l9=true->us.any (EF x)=xs.any λy=>OD y x:=by
 intro xs us t;induction t with
 | nil=>exactλ_=>rfl
 | cons r t ih=>
   intro f;rw[List.all_cons,cp]at f;rw[List.any_cons,List.any_cons,LM r f.1,ih f.2]
theorem qU {v:Value}(rx:RelV x v)(fx:l9 x=true):∀{xs:List V}{us:List Value},Vals xs us->xs.all l9=true->∀u∈us,SeqAt.EqAt A s u v (EF x u):=by
 intro xs us t;induction t with
 | nil=>exactλ_ _ hu=>by cases hu
 | cons r t ih=>
   intro f u' hu;rw[List.all_cons,cp]at f;rcases List.mem_cons.mp hu with rfl | hu
   . rw[LM r f.1];exact TX r rx f.1 fx
   . exact ih f.2 u' hu
def EG (x:V)(xs:List V):Bool:=xs.any λy=>OD y x
def rIn (K:Frag)(neg:Bool):R2:=λx y H Q=>∃p xs,y=.ref p/\(aQ K H p xs∨yq K H p xs)/\l9 x=true/\xs.all l9=true/\Q (.bl (if neg then !EG x xs else EG x xs)) H
theorem Js:i8 X (compareOp .In) (rIn X.K false):=by
 exists 1,x,y,v,u,Q,I,rx,ry,h;obtain⟨p,xs,rfl,hq,fx,fs,q⟩:=h;cases ry;rcases hq with hq | hq
 . obtain⟨br,r,pl,hz⟩:=I.list hq;refine SeqAt.in_listAt (EF x) pl.isList (λw hw=>qU rx fx r fs w (by simpa using hw)) ⟨.bl _,H,I,rfl,?_⟩;rw[show br.toArray.any (EF x)=br.any (EF x) by simp,u6 r fs];exact q
 . obtain⟨br,r,pl,hz⟩:=I.tuple hq;refine SeqAt.in_tupleAt (EF x) pl (λw hw=>qU rx fx r fs w (by simpa using hw)) ⟨.bl _,H,I,rfl,?_⟩;rw[show br.toArray.any (EF x)=br.any (EF x) by simp,u6 r fs];exact q
theorem AI:i8 X (compareOp .NotIn) (rIn X.K true):=by
 exists 1,x,y,v,u,Q,I,rx,ry,h;obtain⟨p,xs,rfl,hq,fx,fs,q⟩:=h;cases ry;rcases hq with hq | hq
 . obtain⟨br,r,pl,hz⟩:=I.list hq;refine SeqAt.notIn_listAt (EF x) pl.isList (λw hw=>qU rx fx r fs w (by simpa using hw)) ⟨.bl _,H,I,rfl,?_⟩;rw[show br.toArray.any (EF x)=br.any (EF x) by simp,u6 r fs];exact q
 . obtain⟨br,r,pl,hz⟩:=I.tuple hq;refine SeqAt.notIn_tupleAt (EF x) pl (λw hw=>qU rx fx r fs w (by simpa using hw)) ⟨.bl _,H,I,rfl,?_⟩;rw[show br.toArray.any (EF x)=br.any (EF x) by simp,u6 r fs];exact q
theorem qV:dQ X (.builtin "len") (λxs H Q=>∃p ys,xs=[.ref p]/\(aQ X.K H p ys∨yq X.K H p ys)/\Q (.int ys.length) H):=by
 exists 1,xs,us,Q,I,r,h;obtain⟨p,ys,rfl,hq,q⟩:=h;obtain⟨u,rfl,rx⟩:=vals1 r;cases rx;have hn:=vD;rcases hq with hq | hq
 . obtain⟨br,r',pl,hz⟩:=I.list hq;have hlen:=r'.length;exact Calls.call_len_list pl.isList (by simp only[da] <;> omega) ⟨.int ys.length,H,I.tok _,⟨s.toks + 1,by rw[da,hlen]⟩,q⟩
 . obtain⟨br,r',pl,hz⟩:=I.tuple hq;have hlen:=r'.length;exact len_tuple pl (by simp only[da] <;> omega) ⟨.int ys.length,H,I.tok _,⟨s.toks + 1,by rw[da,hlen]⟩,q⟩
theorem AJ:dQ X (.type "list") (λxs H Q=>∃p ys,xs=[.ref p]/\(aQ X.K H p ys∨yq X.K H p ys)/\∀l,H l=none->Q (.ref l) (upd H l (.lst ys))):=by
 exists 1,xs,us,Q,I,r,h;obtain⟨p,ys,rfl,hq,q⟩:=h;obtain⟨u,rfl,rx⟩:=vals1 r;cases rx;have fin:∀(br:List Value),Vals ys br->ys.length<=sizeLine->∀(h':Heap) (c':Nat),(∀b o',s.heap.get? b=some o'->h'.get? b=some o')->
     h'.get? s.heap.objs.size=some { cls:=.type "list",dict:=none,data:=.seq br.toArray c',slots:=#[] }->EP X pins σ Q 'i' { s with heap:=h' }:=λbr r' hz h' c' kp e=>
   ⟨.ref s.heap.objs.size,_,I.laid (t':=s.toks) kp (ag _) (show cW X.prog X.w _ h' _ (.lst ys) from⟨hz,br,c',r',e⟩),rfl,q _ (I.dB.fresh (ag _))⟩
 rcases hq with hq | hq
 . obtain⟨br,r',pl,hz⟩:=I.list hq;have hlen:=r'.length;obtain⟨o,ho,hc,n,hd⟩:=pl.isList;exact call_list_seq p (.inl rfl) ho hc hd (λh' c' kp e=>fin br r' hz h' c' kp e) (by simp only[da] <;> omega)
 . obtain⟨br,r',pl,hz⟩:=I.tuple hq;have hlen:=r'.length;obtain⟨o,ho,hc,n,hd⟩:=pl;exact call_list_seq p (.inr rfl) ho hc hd (λh' c' kp e=>fin br r' hz h' c' kp e) (by simp only[da] <;> omega)
def WT (K:Frag)(T:String)(x:V)(H:Hp):Prop:=match x with
 | .str _=>T="str"
 | .int _=>T="int"
 | .ref p=>(T="list"/\∃xs,aQ K H p xs)∨(T="tuple"/\∃o,K.lookup p=some o/\o.cls=.type "tuple"/\o.dict=none)∨
     (T="dict"/\((∃aB,H p=some (.dK aB))∨∃aB,H p=some (.dT aB)))∨(T="set"/\∃S n,H p=some (.set S n))
 | _=>False
theorem LO {v:Value}(I:Inv X pins σ H s)(r:RelV x v)(ty:WT X.K T x H):
   s.TypeIs v T/\∀a,v=.ref a->∃ob,s.heap.get? a=some ob/\ob.dict=none:=by
 cases x with
 | str z=>
   obtain⟨t,rfl⟩:=r;cases(show T="str" from ty);exact⟨typeIs_str s z t,λ_ e=>nomatch e⟩
 | int i=>
   obtain⟨t,rfl⟩:=r;cases(show T="int" from ty);exact⟨typeIs_int s i t,λ_ e=>nomatch e⟩
 | ref p=>
   cases r;rcases ty with ⟨rfl,xs,hq⟩ | ⟨rfl,o,hk,hc,hd⟩ | ⟨rfl,hk⟩ | ⟨rfl,S,n,hk⟩
   . obtain⟨br,_,pl,_⟩:=I.list hq;refine⟨pl.isList.typeIs,λa e=>?_⟩;cases e;obtain⟨o,n,e,c,hd,_⟩:=pl;exact⟨o,e,hd⟩
   . refine⟨⟨o,I.qK p o hk,hc⟩,λa e=>?_⟩;cases e;exact⟨o,I.qK _ o hk,hd⟩
   . have z:∃o,s.heap.get? p=some o/\o.ExactDict:=by
       rcases hk with ⟨aB,hk⟩ | ⟨aB,hk⟩
       . obtain⟨_,_,_,_,o,_,_,e,ex,_⟩:=I.dB p _ hk;exact⟨o,e,ex⟩
       . obtain⟨_,_,_,_,o,_,_,e,ex,_⟩:=I.dB p _ hk;exact⟨o,e,ex⟩
     obtain⟨o,e,ex⟩:=z;refine⟨⟨o,e,ex.1⟩,λa e2=>?_⟩;cases e2;exact⟨o,e,ex.2.1⟩
   . obtain⟨o,_,_,_,e,ex,_⟩:=I.dB p _ hk;refine⟨⟨o,e,ex.1⟩,λa e2=>?_⟩;cases e2;exact⟨o,e,ex.2.1⟩
 | _=>exact False.elim ty
def Pn (K:Frag)(T:String)(r:V->List V->Hp->VK->Prop)(to:TE):TE:=λσ H Q=>to σ H λx H1=>WT K T x H1/\r x [] H1 Q
def Zk (K:Frag)(T:String)(r:V->List V->Hp->VK->Prop)(to:TE)(t:TA):TE:=λσ H Q=>to σ H λx H1=>WT K T x H1/\t σ H1 λxs H2=>r x xs H2 Q
variable {o:Expr}{es:List Expr}{to:TE}{t:TA}{name:Str}{apos kQ:Pos}{id:String}{r:V->List V->Hp->VK->Prop}
theorem TY (pa:PlainAttrs T)(slot:Slot T name id)(TZ:typeOf (.builtin id)=pure (.type "method_descriptor"))(hm:Zj X id r)(ho:PE X o to)
   (vG:attributeBase o name X.env (eval o X.env)=eval o X.env:=by rfl) (vH:(apos.endLine==kQ.line)=true:=by rfl):PE X (.Call (.Attribute o name apos) [] [] kQ) (Pn X.K T r to):=by
 exists 1,Q,I,h;refine wpAny_Call_method0_late vG vH (bH (ho pins s σ H _ I h) λv s1=>?_);rintro⟨x,H1,I1,r1,ty,q1⟩;obtain⟨h1,h2⟩:=LO I1 r1 ty;exact⟨T,id,pa,slot,TZ,h1,h2,Calls.callWith_builtin rfl (PySem.evalArgs_none (hm pins s1 σ H1 x [] v [] Q I1 r1 .nil q1))⟩
theorem WU (pa:PlainAttrs T)(slot:Slot T name id)(TZ:typeOf (.builtin id)=pure (.type "method_descriptor"))(hm:Zj X id r)(ho:PE X o to)(ha:PA X (e::es) t)
   (vG:attributeBase o name X.env (eval o X.env)=eval o X.env:=by rfl)
   (T3:((backTo kQ (starEach (e::es) X.env)).all (λx=>!x.1)&&(backToKw kQ (keywordEach [] X.env)).all (λx=>x.1.isSome)
     &&decide ((e::es).length + ([]:List Keyword).length + (if ([]:List Keyword).isEmpty then 0 else 1) < 30))=true:=by rfl)
   (vH:(apos.endLine==kQ.line)=true:=by rfl) (hs:starEach (e::es) X.env='t'::starEach es X.env:=by rfl) (EH:(backTo kQ (starEach es X.env)).any (·.1)=false:=by rfl):
   PE X (.Call (.Attribute o name apos) (e::es) [] kQ) (Zk X.K T r to t):=by
 exists 1,Q,I,h;refine wpAny_Call_method_late vG T3 vH rfl (bH (ho pins s σ H _ I h) λv s1=>?_);rintro⟨x,H1,I1,r1,ty,q1⟩;obtain⟨h1,h2⟩:=LO I1 r1 ty;refine⟨T,id,pa,slot,TZ,h1,h2,?_⟩;have hA:=ha kQ pins s1 σ H1 _ I1 q1;rw[hs]at hA ⊢;refine Calls.callWith_builtin (by show(false||(backTo kQ (starEach es X.env)).any (·.1))=false;rw[EH] <;> rfl) (Calls.evalArgs_plain ?_);refine bH hA λus s2=>?_;rintro⟨vs,H2,I2,r2,q2⟩;exact hm pins s2 σ H2 x vs v us Q I2 r1 r2 q2
end
def MtM (X:Cx)(id:String)(r:V->List V->Hp->VK->Prop):Prop:=
 ∀(pins:List (Addr×Obj)) (s:Shared) (σ:St) (H:Hp) (x:V) (xs:List V) (v:Value) (us:List Value) (Q:VK),Inv X pins σ H s->RelV x v->Vals xs us->r x xs H Q->
   wpAny 'c' X.A (call (.builtin id) (v::us)) (EP X pins σ Q) X.xe s
theorem Vals.one:∀{x:V}{us:List Value},Vals [x] us->∃u,us=[u]/\RelV x u:=by
 intro x us h;cases h with
 | cons r t=>cases t;exact⟨_,rfl,r⟩
theorem Vals.zero:∀{us:List Value},Vals [] us->us=[]
 | _,.nil=>rfl
theorem Vals.dropLast {xs:List V}{us:List Value}(h:Vals xs us):Vals xs.dropLast us.dropLast:=by
 induction h with
 | nil=>exact .nil
 | cons r t ih=>
   cases t with
   | nil=>exact .nil
   | cons q t'=>exact .cons r ih
theorem EI (l:List α):l.eraseIdx (l.length - 1)=l.dropLast:=by
 induction l with
 | nil=>rfl
 | cons a r ih=>
   cases r with
   | nil=>rfl
   | cons b r=>
     have e:(a::b::r).length - 1=((b::r).length - 1) + 1:=by
       have h1:(a::b::r).length=r.length + 2:=rfl;have h2:(b::r).length=r.length + 1:=rfl;omega
     rw[e,List.eraseIdx_cons_succ,ih]
     all_goals rfl
section
variable {l:Addr}{xs ys zs:List V}
theorem Inv.T4 {its':List Value}{f:Array Value->Array Value}(I:Inv X pins σ H s)(hH:H l=some (.lst xs))
   (e:s.heap.get? l=some { cls:=.type "list",data:=.seq br.toArray n }) (hf:f br.toArray=its'.toArray) (hv:Vals ys its') (hz:ys.length<=sizeLine):
   Inv X pins σ (upd H l (.lst ys)) { s with heap:=s.heap.update l (Obj.mapSeq f),toks:=t' }:=by
 have q:=PySem.IsL.update e f;rw[hf]at q;refine I.write (x:=l) (e:=l) (by rw[hH];exact trivial) (.inl rfl) (λb' u hb hu=>(ky s.heap (Obj.mapSeq f) (Ne.symm hb)).trans hu) ⟨_,q⟩ ?_;exact⟨hz,its',_,hv,q⟩
theorem Inv.WV (I:Inv X pins σ H s)(hv:Vals ys br)(hz:ys.length<=sizeLine):
   Inv X pins σ (upd H s.heap.objs.size (.lst ys)) { s with heap:=s.heap.push { cls:=.type "list",data:=.seq br.toArray },toks:=t' }:=
 I.laid (λ_ _ q=>ae _ q) (ag _) ⟨hz,br,0,hv,cn _ rfl⟩
theorem Inv.fresh (I:Inv X pins σ H s):H s.heap.objs.size=none:=I.dB.fresh (ag _)
theorem Inv.LP (I:Inv X pins σ H s)(hH:H l=some (.lst xs)):xs.length<=sizeLine/\∃(br:List Value) (n:Nat),Vals xs br/\xs.length=br.length/\s.heap.get? l=some { cls:=.type "list",data:=.seq br.toArray n }:=by
 obtain⟨z,br,n,r,e⟩:=I.dB l _ hH;exact⟨z,br,n,r,r.length,e⟩
end
def AK:V->List V->Hp->VK->Prop:=λx vs H Q=>∃l xs y,x=.ref l/\vs=[y]/\H l=some (.lst xs)/\xs.length < sizeLine/\Q .bS (upd H l (.lst (xs++[y])))
theorem fz:MtM X "list.append" AK:=by
 exists 1,x,vs,v,us,Q,I,rx,rv,h;obtain⟨l,xs,y,rfl,rfl,hH,hz,q⟩:=h;cases rx;obtain⟨u,rfl,ru⟩:=rv.one;obtain⟨z,br,n,r,hl,e⟩:=I.LP hH;refine call_meets F.slot_list_append ⟨_,e,rfl⟩ F.entry_list_append (F.args_list_append_2 _ _) (PySem.list_append l br.toArray n u (by rw[da];omega)) ⟨e,?_⟩;refine⟨.bS,_,I.T4 (its':=br++[u]) hH e Y2 (r.append (.cons ru .nil)) ?_,rfl,q⟩;rw[ar,lx];omega
def GG:V->List V->Hp->VK->Prop:=λx vs H Q=>∃l b xs zs,x=.ref l/\vs=[.ref b]/\H l=some (.lst xs)/\H b=some (.lst zs)/\xs.length + zs.length<=sizeLine/\Q .bS (upd H l (.lst (xs++zs)))
def T6:V->List V->Hp->VK->Prop:=λx vs H Q=>∃l xs y,x=.ref l/\vs=[]/\H l=some (.lst xs)/\xs[xs.length - 1]?=some y/\Q y (upd H l (.lst xs.dropLast))
theorem LQ:MtM X "list.pop" T6:=by
 exists 1,x,vs,v,us,Q,I,rx,rv,h;obtain⟨l,xs,y,rfl,rfl,hH,hy,q⟩:=h;cases rx;have WW:=rv.zero;subst WW;obtain⟨z,br,n,r,hl,e⟩:=I.LP hH;obtain⟨u,hu,ru⟩:=r.get hy;have Po:br.toArray[br.toArray.size - 1]?=some u:=by
   show br.toArray[br.length - 1]?=some u;rw[<- vy,<- hl];exact hu
 refine call_meets F.slot_list_pop ⟨_,e,rfl⟩ F.entry_list_pop (F.args_list_pop_1 _) (MeetsSeq.list_pop_last l br.toArray n u Po (by rw[da];omega)) ⟨e,?_⟩;refine⟨y,_,I.T4 (its':=br.dropLast) hH e ?_ r.dropLast ?_,ru,q⟩
 . show br.toArray.eraseIdxIfInBounds (br.toArray.size - 1)=br.dropLast.toArray;rw[da,List.eraseIdxIfInBounds_toArray,EI]
 . rw[List.length_dropLast];omega
def EJ:V->List V->Hp->VK->Prop:=λx vs H Q=>∃l xs,x=.ref l/\vs=[]/\H l=some (.lst xs)/\Q .bS (upd H l (.lst []))
theorem LR:MtM X "list.clear" EJ:=by
 exists 1,x,vs,v,us,Q,I,rx,rv,h;obtain⟨l,xs,rfl,rfl,hH,q⟩:=h;cases rx;have WW:=rv.zero;subst WW;obtain⟨z,br,n,r,hl,e⟩:=I.LP hH;refine call_meets F.slot_list_clear ⟨_,e,rfl⟩ F.entry_list_clear (F.args_list_clear_1 _) (AutoSeq1.list_clear_list_0 l br.toArray n (by rw[da];omega)) ⟨e,?_⟩;exact⟨.bS,_,I.T4 (its':=[]) (ys:=[]) hH e rfl .nil (gs _),rfl,q⟩
section
variable {κ:Type}[DecidableEq κ]
def c8 (aB:List (κ×V))(k:κ):Option V:=(aB.find? λkv=>decide (kv.1=k)).map (·.2)
def putK (aB:List (κ×V))(k:κ)(v:V):List (κ×V):=
 if (aB.any λkv=>decide (kv.1=k))=true then aB.map (λkv=>if kv.1=k then (kv.1,v) else kv) else aB++[(k,v)]
theorem dY {p:κ×V}{r:List (κ×V)}{k:κ}(e:p.1=k):c8 (p::r) k=some p.2:=by simp[c8,List.find?_cons,e]
theorem dZ {p:κ×V}{r:List (κ×V)}{k:κ}(e:¬ p.1=k):c8 (p::r) k=c8 r k:=by simp[c8,List.find?_cons,e]
theorem qW (k:κ):∀aB:List (κ×V),(aB.any λkv=>decide (kv.1=k))=(c8 aB k).isSome
 | []=>rfl
 | p::r=>by
   rw[List.any_cons]
   by_cases e:p.1=k
   . simp only[dY e,Hm e,Bool.true_or,Option.isSome_some]
   . rw[dZ e,Kk e,Bool.false_or];exact qW k r
theorem Cm (k j:κ)(y:V):∀aB:List (κ×V),c8 (aB.map λkv=>if kv.1=k then (kv.1,y) else kv) j=(c8 aB j).map λx=>if j=k then y else x
 | []=>rfl
 | p::r=>by
   have ih:=Cm k j y r;rw[List.map_cons]
   by_cases h:p.1=k
   . rw[Hk h]
     by_cases e:p.1=j
     . rw[dY (p:=(p.1,y)) e,dY e,Option.map_some,Hk (e.symm.trans h)]
     . rw[dZ (p:=(p.1,y)) e,dZ e,ih]
   . rw[He h]
     by_cases e:p.1=j
     . rw[dY (p:=p) e,dY e,Option.map_some,He (λz=>h (e.trans z))]
     . rw[dZ (p:=p) e,dZ e,ih]
theorem zm (k j:κ)(y:V):∀aB:List (κ×V),c8 aB k=none->c8 (aB++[(k,y)]) j=if j=k then some y else c8 aB j
 | [],_=>by
   by_cases e:k=j
   . rw[Hk e.symm];exact dY (p:=(k,y)) e
   . rw[He (λz=>e z.symm)];exact dZ (p:=(k,y)) e
 | p::r,hn=>by
   rw[List.cons_append];have hk:¬ p.1=k:=λz=>by rw[dY z]at hn;cases hn
   rw[dZ hk]at hn;have ih:=zm k j y r hn
   by_cases e:p.1=j
   . rw[dY e,dY e,He (λz=>hk (e.trans z))]
   . rw[dZ e,dZ e,ih]
theorem qX (aB:List (κ×V))(k j:κ)(y:V):c8 (putK aB k y) j=if j=k then some y else c8 aB j:=by
 unfold putK
 by_cases a:(aB.any λkv=>decide (kv.1=k))=true
 . rw[Hk a,Cm];rw[qW]at a
   by_cases e:j=k
   . obtain⟨x,hx⟩:=B2.mp a;rw[Hk e,e,hx,Option.map_some,Hk rfl]
   . rw[He e];cases c8 aB j with
     | none=>rfl
     | some x=>rw[Option.map_some,He e]
 . rw[He a];refine zm k j y aB ?_;rw[qW]at a;cases q:c8 aB k with
   | none=>rfl
   | some x=>rw[q]at a;exact(a rfl).elim
theorem jC (aB:List (κ×V))(k:κ)(v:V):(putK aB k v).length<=aB.length + 1:=by
 unfold putK;split
 . rw[ab];omega
 . rw[ar,List.length_cons,List.length_nil];omega
theorem pB.zp {u:Option Value}(r:pB o u):o.isSome=u.isSome:=by
 cases o with
 | none=>cases u with
   | none=>rfl
   | some _=>exact(show False from r).elim
 | some _=>cases u with
   | none=>exact(show False from r).elim
   | some _=>rfl
theorem KV.val {aB:List (κ×V)}{vs:List (κ×Value)}(r:KV aB vs)(k:κ):pB (c8 aB k) (valueAt vs k):=by
 unfold KV at r;induction r with
 | nil=>exact True.intro
 | @cons p q ps qs h t ih=>
   obtain⟨h1,h2⟩:=h
   by_cases e:p.1=k
   . have e':q.1=k:=h1.symm.trans e;have b:valueAt (q::qs) k=some q.2:=by simp[valueAt,List.find?_cons,e']
     rw[dY e,b];exact h2
   . have e':¬ q.1=k:=λz=>e (h1.trans z);have b:valueAt (q::qs) k=valueAt qs k:=by simp[valueAt,List.find?_cons,e']
     rw[dZ e,b];exact ih
theorem KV.any {aB:List (κ×V)}{vs:List (κ×Value)}(r:KV aB vs)(k:κ):(aB.any λkv=>decide (kv.1=k))=vs.any λkv=>decide (kv.1=k):=by
 unfold KV at r;induction r with
 | nil=>rfl
 | cons h t ih=>rw[List.any_cons,List.any_cons,ih,h.1]
theorem KV.T8 {aB:List (κ×V)}{vs:List (κ×Value)}(r:KV aB vs)(k:κ)(ry:RelV y u):
   KV (aB.map λkv=>if kv.1=k then (kv.1,y) else kv) (vs.map λkv=>if kv.1=k then (kv.1,u) else kv):=by
 unfold KV at r ⊢;induction r with
 | nil=>exact .nil
 | @cons p q ps qs h t ih=>
   rw[List.map_cons,List.map_cons];refine .cons ?_ ih;obtain⟨h1,h2⟩:=h
   by_cases e:p.1=k
   . rw[Hk e,Hk (h1.symm.trans e)];exact⟨h1,ry⟩
   . rw[He e,He (λz=>e (h1.trans z))];exact⟨h1,h2⟩
theorem KV.put {aB:List (κ×V)}{vs:List (κ×Value)}(r:KV aB vs)(k:κ)(ry:RelV y u):KV (putK aB k y) (stored vs k u):=by
 unfold putK stored;rw[r.any k]
 by_cases e:(vs.any λkv=>decide (kv.1=k))=true
 . rw[Hk e,Hk e];exact r.T8 k ry
 . rw[He e,He e];exact Paired.snoc r ⟨rfl,ry⟩
theorem KV.length {aB:List (κ×V)}{vs:List (κ×Value)}(r:KV aB vs):aB.length=vs.length:=Ap r
end
theorem zq {k:Key}(r:RelV (kV k) u):(cQ P w).is k u=true:=by
 cases k with
 | inl i=>obtain⟨t,e⟩:=(show ∃t,u=Value.int i t from r);subst e;exact B8 P w i t
 | inr x=>obtain⟨t,e⟩:=(show ∃t,u=Value.str x t from r);subst e;exact B9 P w x t
theorem zu {P:Program}{w:World}:∀{ks:List Key}{us:List Value},Vals (ks.map kV) us->ItemsAre (cQ P w) ks us
 | [],_,r=>by rw[List.map_nil]at r;cases r;exact .nil
 | k::ks,_,r=>by
   rw[List.map_cons]at r;cases r with
   | cons h t=>exact .cons (zq h) (zu t)
abbrev KT (H:Hp):List (List Key×V)->List (List Key×Addr×Value)->Prop:=Paired λp q=>p.1=q.1/\H q.2.1=some (.tup (p.1.map kV))/\RelV p.2 q.2.2
theorem KT.val (r:KT H aB xs)(k:List Key):pB (c8 aB k) ((atKey xs k).map (·.2)):=by
 induction r with
 | nil=>exact True.intro
 | @cons p q ps qs h t ih=>
   obtain⟨h1,_,h2⟩:=h
   by_cases e:p.1=k
   . have e':q.1=k:=h1.symm.trans e;have b:atKey (q::qs) k=some q.2:=by simp[atKey,List.find?_cons,e']
     rw[dY e,b];exact h2
   . have e':¬ q.1=k:=λz=>e (h1.trans z);have b:atKey (q::qs) k=atKey qs k:=by simp[atKey,List.find?_cons,e']
     rw[dZ e,b];exact ih
theorem KT.T8 (r:KT H aB xs)(k:List Key)(ry:RelV y u):
   KT H (aB.map λkv=>if kv.1=k then (kv.1,y) else kv) (xs.map (putAt k u)):=by
 induction r with
 | nil=>exact .nil
 | @cons p q ps qs h t ih=>
   rw[List.map_cons,List.map_cons];refine .cons ?_ ih;obtain⟨h1,h2,h3⟩:=h;unfold putAt
   by_cases e:p.1=k
   . rw[Hk e,Hk (h1.symm.trans e)];exact⟨h1,h2,ry⟩
   . rw[He e,He (λz=>e (h1.trans z))];exact⟨h1,h2,h3⟩
theorem KT.put (r:KT H aB xs)(k:List Key)(hb:H b=some (.tup (k.map kV)))(ry:RelV y u):
   KT H (putK aB k y) (storedH xs k b u):=by
 have e:(aB.any λkv=>decide (kv.1=k))=(atKey xs k).isSome:=by
   rw[qW,(r.val k).zp,Option.isSome_map]
 unfold putK storedH;rw[e]
 by_cases q:(atKey xs k).isSome=true
 . rw[Hk q,Hk q];exact r.T8 k ry
 . rw[He q,He q];exact Paired.snoc r ⟨rfl,hb,ry⟩
theorem KT.keeps (r:KT H aB xs)(ht:∀b ys,H b=some (.tup ys)->H' b=some (.tup ys)):KT H' aB xs:=
 Paired.Wr r λ_ _ z=>⟨z.1,ht _ _ z.2.1,z.2.2⟩
section
variable {h:Heap}{a:Addr}
theorem Q5 {u:HO}(ok:qg P w H h)(e:Rd H a u):cW P w H h a u:=e.ok ok
theorem GH {aB:List (Key×V)}(ok:qg P w H h)(e:Rd H a (.dK aB)):aB.length<=sizeLine/\(a==sysModules)=false/\∃vs,KV aB vs/\h.DictOf (cQ P w) a vs:=
 show cW P w H h a (.dK aB) from Q5 ok e
theorem Q6 {aB:List (Key×V)}(ok:qg P w H h)(e:H a=some (.dK aB)):aB.length<=sizeLine/\(a==sysModules)=false/\∃vs,KV aB vs/\h.DictOf (cQ P w) a vs:=GH ok (.inl e)
theorem EK {ks:List Key}(ok:qg P w H h)(e:H a=some (.tup (ks.map kV))):(tupleKind (cQ P w)).is h ks a:=by
 obtain⟨_,br,r,o,h1,h2,n,h3⟩:=(show cW P w H h a (.tup (ks.map kV)) from ok a _ e)
 exact⟨o,br.toArray,n,h1,h2,h3,by simpa using zu r⟩
theorem LS (ok:qg P w H h)(e:Rd H a (.dT aB)):aB.length<=sizeLine/\(a==sysModules)=false/\
   ∃xs,KT H aB xs/\h.DictOfH (tupleKind (cQ P w)) a xs:=by
 obtain⟨z,y,xs,r,o,es,ep,h1,h2,h3,h4,h5⟩:=(show cW P w H h a (.dT aB) from Q5 ok e)
 refine⟨z,y,xs,r,o,es,ep,h1,h2,h3,h4,λx hx=>?_,h5⟩;have all:∀{l:List (List Key×V)}{m:List (List Key×Addr×Value)},KT H l m->∀x∈m,(tupleKind (cQ P w)).is h x.1 x.2.1:=by
   intro l m q;induction q with
   | nil=>intro x hx;exact nomatch hx
   | @cons p q ps qs hq t ih=>
     intro x hx;rcases List.mem_cons.mp hx with e | hx
     . subst e;exact EK ok (by rw[<- hq.1];exact hq.2.1)
     . exact ih x hx
 exact all r x hx
theorem WX (ok:qg P w H h)(e:H a=some (.dT aB)):aB.length<=sizeLine/\(a==sysModules)=false/\
   ∃xs,KT H aB xs/\h.DictOfH (tupleKind (cQ P w)) a xs:=LS ok (.inl e)
end
def sU (H:Hp)(a:Addr)(y:V)(r:Option V):Prop:=
 (∃aB k,Rd H a (.dK aB)/\y=kV k/\r=c8 aB k)∨∃aB k b,Rd H a (.dT aB)/\y=.ref b/\H b=some (.tup (k.map kV))/\r=c8 aB k
def Cn (H:Hp)(a:Addr)(y v:V)(H':Hp):Prop:=
 (∃aB k,H a=some (.dK aB)/\y=kV k/\aB.length < sizeLine/\H'=upd H a (.dK (putK aB k v)))∨
 ∃aB k b,H a=some (.dT aB)/\y=.ref b/\H b=some (.tup (k.map kV))/\aB.length < sizeLine/\H'=upd H a (.dT (putK aB k v))
theorem sU.k {a:Addr}{aB:List (Key×V)}{k:Key}(e:H a=some (.dK aB)):sU H a (kV k) (c8 aB k):=.inl ⟨aB,k,.inl e,rfl,rfl⟩
theorem sU.t {a:Addr}{k:List Key}(e:H a=some (.dT aB))(eb:H b=some (.tup (k.map kV))):sU H a (.ref b) (c8 aB k):=.inr ⟨aB,k,b,.inl e,rfl,eb,rfl⟩
theorem Cn.k {a:Addr}{aB:List (Key×V)}{k:Key}{v:V}(e:H a=some (.dK aB))(hl:aB.length < sizeLine):Cn H a (kV k) v (upd H a (.dK (putK aB k v))):=.inl ⟨aB,k,e,rfl,hl,rfl⟩
theorem Cn.t {a:Addr}{k:List Key}{v:V}(e:H a=some (.dT aB))(eb:H b=some (.tup (k.map kV)))(hl:aB.length < sizeLine):
   Cn H a (.ref b) v (upd H a (.dT (putK aB k v))):=.inr ⟨aB,k,b,e,rfl,eb,hl,rfl⟩
section
variable {a:Addr}{v:V}{r:Value}
theorem Inv.big (I:Inv X pins σ H s):sysModules < s.heap.objs.size:=by
 have h:mainGlobals < s.heap.objs.size:=(I.mod.glob.keeps I.bk).lt;exact pf Y1 h
theorem Jt (hu:A.units + 1 < cLine)(I:Inv X pins σ H s)(g:sU H a y (some v))(ry:RelV y u)(h:∀w' s',Inv X pins σ H s'->RelV v w'->Q w' s'):
   wpAny 'c' A (getItem (.ref a) u) Q E s:=by
 rcases g with ⟨aB,k,e,ey,l⟩ | ⟨aB,k,b,e,ey,eb,l⟩
 . subst ey;obtain⟨z,hd,vs,rel,dd⟩:=GH I.dB e;obtain⟨w',hw,rw'⟩:=pB.some_of (v:=v) (o:=valueAt vs k) (by rw[l];exact rel.val k);exact wpAny_getItem_of (zq ry) dd.mapOf hw (h w' _ (I.tok _) rw')
 . subst ey;cases(show u=Value.ref b from ry);obtain⟨z,hd,xs,rel,dd⟩:=LS I.dB e;obtain⟨w',hw,rw'⟩:=pB.some_of (v:=v) (o:=(atKey xs k).map (·.2)) (by rw[l];exact rel.val k);obtain⟨p,hp,mY⟩:=bp.mp hw;refine wpAny_getItem_heap (tupleKind_room_in1 hu) (EK I.dB eb) dd hp ?_;rw[mY];exact h w' _ (I.tok _) rw'
theorem AL {ob:HO}(I:Inv X pins σ H s)(mu:Ws (H a))(hs:Heap.SameBut a s.heap h')(he:∃q,h'.get? a=some q)(new:cW X.prog X.w (upd H a ob) h' a ob):
   Inv X pins σ (upd H a ob) { s with heap:=h',toks:=t' }:=
 I.write (x:=a) (e:=a) mu (.inl rfl) (λb q hb z=>(hs.2 b hb).trans z) he new
theorem EL {aB:List (Key×V)}{vs:List (Key×Value)}(z:aB.length<=sizeLine)(hd:(a==sysModules)=false)(rel:KV aB vs)(dd:h'.DictOf (cQ P w) a vs):
   cW P w H' h' a (.dK aB):=⟨z,hd,vs,rel,dd⟩
theorem Ju {Q:Unit->Shared->Prop}(hu:A.units + 1 < cLine)(I:Inv X pins σ H s)(g:Cn H a y v H')(ry:RelV y u)(rv:RelV v r)(h:∀s',Inv X pins σ H' s'->Q () s'):
   wpAny 'c' A (setItem (.ref a) u r) Q E s:=by
 rcases g with ⟨aB,k,e,ey,l,eH⟩ | ⟨aB,k,b,e,ey,eb,l,eH⟩
 . subst ey eH;obtain⟨z,hd,vs,rel,dd⟩:=Q6 I.dB e;have hz:vs.length<=sizeLine:=by rw[<- rel.length];exact z
   have hl:(putK aB k v).length<=sizeLine:=by have:=jC aB k v;omega
   refine wpAny_setItem_pairs (hsz:=hz) (zq ry) dd λh' dd' hs=>h _ ?_;have he:∃q,h'.get? a=some q:=let ⟨q,_,_,hq,_⟩:=dd';⟨q,hq⟩;exact AL I (by rw[e];exact True.intro) hs he (EL hl hd (rel.put k rv) dd')
 . subst ey eH;cases(show u=Value.ref b from ry);obtain⟨z,hd,xs,rel,dd⟩:=WX I.dB e;have hz:xs.length<=sizeLine:=by rw[<- Ap rel];exact z
   have hl:(putK aB k v).length<=sizeLine:=by have:=jC aB k v;omega
   refine wpAny_setItem_heap (hsz:=hz) (tupleKind_room_in1 hu) (EK I.dB eb) dd λh' dd' hs=>h _ ?_;obtain⟨q,es,ep,hq,h2,h3,h4,_,h5⟩:=dd';refine AL I (by rw[e];exact True.intro) hs ⟨q,hq⟩ ⟨hl,hd,_,(rel.put k eb rv).keeps λc ys ec=>?_,q,es,ep,hq,h2,h3,h4,h5⟩;rw[au (QU ec e (λz=>nomatch z))];exact ec
end
section
variable {a:Addr}{aB:List (Key×V)}{k:Key}
end
def Ua (i:Expr):Prop:=∀ov iv,subscripted i false ov iv=operate [ov,iv] (getItem ov iv)
theorem Pp {env:Env}{value slice:Expr}{id:String}
   (hl:typeLookup (.type T) "__getitem__"=pure (some (.builtin id))) (hs:Ua slice)
   (h:wpAny 'g' A (eval value env) (λo s₁=>wpAny 'g' A (eval slice env) (λi s₂=>s₂.TypeIs o T/\wpAny 'g' A (getItem o i) Q E s₂) E s₁) E s):
   wpAny 'g' A (eval (.Subscript value slice pos) env) Q E s:=by
 refine Subscript_ (HI h (λo s₁ h₁=>HI h₁ (λi s₂ h₂=>?_) λ_ _ x=>x) λ_ _ x=>x);obtain⟨hT,h₂⟩:=h₂;unfold subscriptTail;refine Hc ?_;rw[getitemInPython_of_ne hT.not_modules];refine Hc (RR hT hl ?_);have fin:wpAny 'g' A (subscripted slice false o i) (λr s₃=>wpAny 'g' A (letTemporaryGo value o r >>=λ_=>pure r) Q E s₃) E s₂:=by
   rw[hs o i];exact wpAny_operating (HI h₂ (λr s₃ h₃=>Hc (wpAny_letTemporaryGo (Hd h₃))) λ_ _ x=>x)
 first
   | exact Hd (Hc fin)
   | exact Hc (Hd (Hc fin))
   | exact Hc fin
theorem Co {a:Addr}(I:Inv X pins σ H s)(g:sU H a y o):s.TypeIs (.ref a) "dict":=by
 rcases g with ⟨aB,k,e,_,_⟩ | ⟨aB,k,b,e,_,_,_⟩
 . obtain⟨_,_,vs,_,dd⟩:=GH I.dB e;exact dd.typeIs
 . obtain⟨_,_,xs,_,dd⟩:=LS I.dB e;exact dd.typeIs
def Cp (td ty:TE):TE:=λσ H Q=>td σ H λx H1=>ty σ H1 λy H2=>∃a v,x=.ref a/\sU H2 a y (some v)/\Q v H2
def GJ (td ty tv:TE):TS:=λD σ H=>tv σ H λv H1=>td σ H1 λx H2=>ty σ H2 λy H3=>∃a H4,x=.ref a/\Cn H3 a y v H4/\D.nx σ H4
section
variable {o i value:Expr}{pos' WI:Pos}{td ty tv:TE}
theorem Pq (hu:X.A.units + 1 < cLine)(ho:PE X o td)(hi:PE X i ty)(hs:Ua i):PE X (.Subscript o i pos) (Cp td ty):=by
 exists 1,Q,I,h;refine Pp PySem.F.slot_dict_getitem.lookup hs (bH (ho pins s σ H _ I h) λu s1=>?_);rintro⟨x,H1,I1,rx,q1⟩;refine bH (hi pins s1 σ H1 _ I1 q1) λiv s2=>?_;rintro⟨y,H2,I2,ry,a,v,ex,g,q2⟩;subst ex;obtain rfl:u=Value.ref a:=rx;exact⟨Co I2 g,Jt hu I2 g ry λw' s3 I3 rw'=>⟨v,H2,I3,rw',q2⟩⟩
theorem Pr (hu:X.A.units + 1 < cLine)(ho:PE X o td)(hi:PE X i ty)(hv:PE X value tv)(hs:swapsWith value (some (.Subscript o i pos')) pos.line X.env=pure false):
   PS X (.Assign [.Subscript o i pos'] value pos) (GJ td ty tv):=by
 exists 1,D,I,h;refine wpAny_Assign_Subscript (bH (hv pins s σ H _ I h) λr s1=>?_) hs;rintro⟨v,H1,I1,rv,q1⟩;refine bH (ho pins s1 σ H1 _ I1 q1) λu s2=>?_;rintro⟨x,H2,I2,rx,q2⟩;refine bH (hi pins s2 σ H2 _ I2 q2) λiv s3=>?_;rintro⟨y,H3,I3,ry,a,H4,ex,g,q3⟩;subst ex;obtain rfl:u=Value.ref a:=rx;exact Ju hu I3 g ry rv λs4 I4=>⟨σ,H4,I4,q3⟩
end
theorem Cq (h:Heap)(hb:sysModules < h.objs.size):cW P w H (h.push { cls:=.type "dict",data:=.dict #[] }) h.objs.size (.dK []):=
 ⟨gs _,beq_eq_false_iff_ne.mpr (Ne.symm (cv hb)),[],.nil,Heap.DictOf.new h⟩
abbrev VV:List (V×V)->List (Value×Value)->Prop:=Paired λp q=>RelV p.1 q.1/\RelV p.2 q.2
def AM (aB more:List (Key×V)):List (Key×V):=more.foldl (λacc kv=>putK acc kv.1 kv.2) aB
theorem KV.merge:∀{more:List (Key×V)}{rs:List (Key×Value)}{aB:List (Key×V)}{vs:List (Key×Value)},KV more rs->KV aB vs->KV (AM aB more) (merged vs rs):=by
 intro more rs aB vs r;unfold KV at r;induction r generalizing aB vs with
 | nil=>intro q;exact q
 | @cons p q ps qs h t ih=>
   intro r0;have e:KV (putK aB p.1 p.2) (stored vs q.1 q.2):=by
     have:=r0.put p.1 h.2;rw[<- h.1];exact this
   exact ih e
theorem vJ {P:Program}{w:World}:∀{aB:List (Key×V)}{ws:List (Value×Value)},VV (aB.map λkv=>(kV kv.1,kv.2)) ws->∃rs,Carries (cQ P w) ws rs/\KV aB rs
 | [],_,r=>by rw[List.map_nil]at r;cases r;exact⟨[],True.intro,.nil⟩
 | p::aB,_,r=>by
   rw[List.map_cons]at r;cases r with
   | @cons a b as bs h t=>
     obtain⟨rs,c,q⟩:=vJ (P:=P) (w:=w) t;obtain⟨b1,b2⟩:=b;exact⟨(p.1,b2)::rs,⟨zq h.1,rfl,c⟩,.cons ⟨rfl,h.2⟩ q⟩
section
variable {a:Addr}{d:V}{r:Value}
end
section
variable {o f:Expr}{apos kQ:Pos}{td ty tx:TE}
end
section
variable {a:Addr}{aB:List (Key×V)}
end
section
variable {a:Addr}
end
end L2
namespace Att
open PySem PySem.W PySem.Calls PyProof.Rows
variable{h:Heap}{n:Nat}{P:Params}
theorem uO :∀(ns:List Int) (vs:List Value),WellAll P h vs (ns.map WData.int)->IntsAre vs ns:=by
 intro ns;induction ns with
 | nil=>
   intro vs w;rw[List.map_nil]at w;cases w;exact .nil
 | cons n ns ih=>
   intro vs w;rw[List.map_cons]at w;cases w with
   | cons a b=>
     cases a;exact .cons _ _ (ih _ b)
theorem Jv {l:OpenLaw}(hn:l.most=some n){args:List WData}{vals:List Value}
   (Pu:l.row.toRowW.claim.pre args=true) (hwl:WellAll P h vals args):
   ∃a vs ns,vals=[Value.ref a]/\args=[WData.list (ns.map WData.int)]/\h.get? a=some { cls:=.type "list",data:=.seq vs.toArray }/\IntsAre vs ns/\ns.length<=n:=by
 have hsh:WShape.hasAll [] args [.list .int]=true:=(pre_splitW Pu).1;have hc:l.pre.holds [] { args:=args }=true:=(pre_splitW Pu).2;obtain⟨d,r,rfl,h1,h2⟩:=hasAllW_cons hsh;obtain rfl:=hasAllW_nil h2;obtain⟨xs,rfl,h3⟩:=hasW_list h1;obtain⟨ns,rfl⟩:=items_int h3;have hlen:ns.length<=n:=by
   unfold OpenLaw.pre at hc;have h4:(WTm.not (.lt (.lit (.int (n:Int))) (.len (.arg 0)))).holds [] { args:=[.list (ns.map .int)] }=true:=by
     have h4:=(holds_andW hc).1;rw[hn]at h4;exact h4
   have h5:=condW_of h4 (w_not (w_lt w_lit (w_len_list (w_arg rfl))));rw[ab]at h5;refine Ee λq=>?_;have q':(n:Int) < ((ns.length:Nat):Int):=X2
   first
     | (rw[Hm q']at h5;exact absurd h5 Y1)
     | (simp at h5;omega)
 cases hwl with
 | cons w1 w2=>
   cases w2;cases w1 with
   | list ho AG=>exact⟨_,_,ns,rfl,rfl,ho,uO ns _ AG,hlen⟩
theorem Jw (l:OpenLaw)(args:List WData):l.row.toRowW.claim.post args (.bool true) args=true:=
 postW_of (r:=l.row.toRowW) (X:=(true==true))
   (show WShape.has [] (.bool true) .bool=true by first | rfl | decide | simp[WShape.has,WShape.arms,WShape.armsAll])
   (show(WTm.eq .res (.lit (.bool true))).value [] { args:=args,res:=some (.bool true),after:=args }=some (.bool (true==true)) from w_eq_bool (w_res rfl) w_lit) rfl
theorem Cr {l:OpenLaw}{q:Program}{loose:List Str}{XP:(Str->Option Value)->Heap->Prop}{YP:World->Heap->Prop}{d:DefRec}
   (hn:l.most=some n) (Q7:d.params.defaults=[])
   (call:∀(w:World) (s₀ s₁:Shared) (mg mb:Str->Option Value) (fa:Addr) (o:Obj) (pm cd doc:Value) (a:Addr) (vs:List Value) (ns:List Int),
     Ground q loose [] XP w s₀ mg mb s₁.heap->YP w s₁.heap->
     s₁.heap.get? fa=some o->o.data=.func (docDef d.name d.params d.body d.scope pm cd doc)->s₁.heap.CodeRec cd d.name->mg d.name=some (.ref fa)->
     s₁.heap.get? a=some { cls:=.type "list",data:=.seq vs.toArray }->IntsAre vs ns->ns.length<=n->s₁.gens=#[]->
     codeAny (model l.prog w) callerA (.call (.ref fa) ⟨[.ref a],[]⟩) (λr s'=>r=.ok (.ret (.bool true))/\OldK s₁.heap s'.heap/\s'.os=s₁.os/\AllBare s'.gens) s₁):
   WalkO q loose XP YP l.row.toRowW d [] (λf vs=>PySem.call f vs):=by
 intro w s₀ s₁ mg mb G Y fa o pm cd doc dV kV ho hd Em hD hmg hg args vals as Pu hlay hrd hwl Y5;obtain rfl:dV=.none:=Dflts.none hD Q7;obtain rfl:kV=.none:=Dflts.noKw hD;obtain⟨a,vs,ns,rfl,rfl,hobj,hints,hlen⟩:=Jv hn Pu hwl;refine enter_call (Qb (call w s₀ s₁ mg mb fa o pm cd doc a vs ns G Y ho (fd_plain hd) Em hmg hobj hints hlen hg) λr s' hq=>?_);obtain⟨rfl,h2,h3,h4⟩:=hq;exact⟨.inl ⟨.bool true,.bool true,[],rfl,λ_=>rfl,.bool true,Jw l _,λ_=>⟨List.Pairwise.nil,λ_ hm=>(nomatch hm)⟩⟩,h2,h3,h4⟩
section
variable {prog:Program}{w:World}{A:Around}{E:Value->Shared->Prop}{s:Shared}{K:Frag}
end
end Att
namespace L2
open PySem PySem.Spec PyProof.Rows
variable{C D S T f it p q:Addr}{A:Around}{sl:Array (Option Value)}{L:Bool}{CX:Cj}{op:CmpOp}{X:Cx}{env:Env}{e elt iter tg:Expr}{fd:FuncData}{o:HO}{base h h':Heap}{H H' H1 H2:Hp}{M:Int->Prop}{J:It}{pins:List (Addr×Obj)}{src:List (Option Nat)}{ch fp:List Addr}{es ifs:List Expr}{ns:List Int}{ps:List Str}{CK acc xs:List V}{F N:List V->St->Hp->Prop}{us:List Value}{ep i j j1 m n t':Nat}{tn:Nat->Heap->Prop}{od:Option Addr}{p2 pos tp:Pos}{P prog:Program}{R:Result->Shared->Prop}{sc scope:Scope}{s s':Shared}{sp:Sp}{σ:St}{name qual x y:Str}{mg:Str->Option Value}{ta:TA}{te tl:TE}{g:TG}{wi:TI}{tb:TS}{α:Type}{Q:VK}{E:Value->Shared->Prop}{w:World}
theorem zv:∀{vs:List Value}{ns:List Int},IntsAre vs ns->Vals (ns.map V.int) vs:=by
 intro vs ns h;induction h with
 | nil=>exact .nil
 | cons n t h ih=>exact .cons ⟨t,rfl⟩ ih
def Pw (H:Hp):Prop:=∀b,H b=none∨∃o xs,H b=some (.uf o (.lst xs))
theorem LU {K:Frag}{mb:Str->Option Value}{k:Nat}{fa a:Addr}{s₁:Shared}{vs:List Value}
   (KX:K.In s₁.heap) (Ub:s₁.heap.Ns mainGlobals mg) (hb:s₁.heap.Ns builtinsNs mb) (hbb:∀x:Str,x≠"__name__"->mb x=bootBuiltins x) (aaA:s₁.heap.NoLimit) (hg:s₁.gens=#[])
   (ha:s₁.heap.get? a=some { cls:=.type "list",data:=.seq vs.toArray }) (hi:IntsAre vs ns) (hl:ns.length<=sizeLine) (hr:dJ k callerA)
   (F:∀base:Heap,K.In base->base.Ns mainGlobals mg->dR P w K mg base CX k fa fd [x] sp) (WY:∀(s:Shared) (u:Value),BindsTo s fd ⟨[u],[]⟩ [(x,u)])
   (Q2:∀H:Hp,Pw H->aQ K H a (ns.map V.int)->sp [.ref a] H (λv _=>v=.bl true) λ_ _ _=>False)
   (hCX:∀H e s',CX [] H s₁ (λ_ _ _=>False) e s'->False):
   codeAny (model P w) callerA (.call (.ref fa) ⟨[.ref a],[]⟩) (λr s'=>r=.ok (.ret (.bool true))/\OldK s₁.heap s'.heap/\s'.os=s₁.os/\AllBare s'.gens) s₁:=by
 have rv:=zv hi;have aaC:=hi.length;have core:∀H:Hp,Pw H->aQ K H a (ns.map V.int)->qg P w H s₁.heap->(∀b,H b≠none->b=a)->(H a≠none->K.lookup a=none)->
     codeAny (model P w) callerA (.call (.ref fa) ⟨[.ref a],[]⟩) (λr s'=>r=.ok (.ret (.bool true))/\OldK s₁.heap s'.heap/\s'.os=s₁.os/\AllBare s'.gens) s₁:=by
   intro H hO hS dB hA hK;have GL:∀{b:Addr}{o:Obj},s₁.heap.get? b=some o->H b=none->(Aw s₁.heap H).get? b=some o:=λe n=>Lg e n;have WM:∀{b:Addr}{o:Obj}{es:Array DictEntry}{ep:Nat},s₁.heap.get? b=some o->o.data=.dict es ep->H b=none:=λ{b o es ep} e d=>by
     cases q:H b with
     | none=>rfl
     | some u=>
       have e':b=a:=hA b (by rw[q];simp);subst e';rw[ha]at e;cases e;have d':Data.seq vs.toArray _=Data.dict es ep:=d;cases d'
   have Zl:∀{b:Addr}{m:Str->Option Value},s₁.heap.Ns b m->(Aw s₁.heap H).Ns b m:=λ{b m} ⟨o,es,ep,e,d,r⟩=>⟨o,es,ep,GL e (WM e d),d,r⟩
   have hKb:K.In (Aw s₁.heap H):=λb o e=>GL (KX b o e) (by
     cases q:H b with
     | none=>rfl
     | some u=>
       have e':b=a:=hA b (by rw[q];simp);subst e';rw[hK (by rw[q];simp)]at e;cases e)
   have hM:Mod K mg (Aw s₁.heap H):=⟨hKb,Zl Ub,⟨mb,Zl hb,hbb⟩,let ⟨mc,h1,h2⟩:=aaA;⟨mc,Zl h1,h2⟩⟩
   have e0:EB P w K mg (Aw s₁.heap H) callerA [] s₁ H:=⟨rfl,hM,λb o e=>OQ e,nz (Jc _ _),trivial,λb hb=>absurd (show b∈([]:List Addr) from hb) Y2,dB,.of_eq hg⟩
   refine Qb ((F _ hKb (Zl Ub)).run callerA [] s₁ H ⟨[.ref a],[]⟩ [.ref a] [.ref a] _ _ hr e0 (WY s₁ (.ref a)) (.cons rfl .nil) (Q2 H hO hS)) λr s' h=>?_;cases r with
   | error e=>exact(hCX H e s' h).elim
   | ok fl=>
     cases fl with
     | next=>exact False.elim h
     | brk=>exact False.elim h
     | cont=>exact False.elim h
     | ret u=>
       obtain⟨v,H',os,bare,un,hok',r',q⟩:=h;have q':v=.bl true:=q;subst q';obtain rfl:u=Value.bool true:=r';refine⟨rfl,OldK.of_keep λb o e=>?_,os,bare⟩;cases q:H b with
       | none=>exact un.keep b o e q (by intro z;exact absurd (show b∈([]:List Addr) from z) Y2) Y2
       | some u=>
         rcases hO b with z | ⟨ob,xs,z⟩
         . rw[q]at z;cases z
         . have z2:=un.sO b ob _ z;obtain⟨e1,_⟩:=dB b _ z;obtain⟨e2,_⟩:=hok' b _ z2;rw[e]at e1;cases e1;exact e2
 cases hk:K.lookup a with
 | some o=>
   have e:=KX a o hk;rw[ha]at e;cases e;refine core (λ_=>none) (λ_=>.inl rfl) (.inr ⟨_,vs.toArray,_,hk,rfl,rfl,rfl,by rw[da,aaC];exact hl,by simpa using rv⟩) (λb u z=>by have z':(none:Option HO)=some u:=z;cases z') (λb z=>absurd rfl z) λz=>absurd rfl z
 | none=>
   refine core (λb=>if b=a then some (.uf { cls:=.type "list",data:=.seq vs.toArray } (.lst (ns.map V.int))) else none) (λb=>?_) (.inl (.inr ⟨{ cls:=.type "list",data:=.seq vs.toArray },Hk rfl⟩)) (λb u z=>?_) (λb z=>?_) λ_=>hk
   . by_cases hb:b=a
     . exact .inr ⟨_,_,Hk hb⟩
     . exact .inl (He hb)
   . by_cases hb:b=a
     . have z':=(Hk hb).symm.trans z;cases z';subst hb;exact⟨ha,by rw[ab];exact hl,vs,_,rv,ha⟩
     . have z':=(He hb).symm.trans z;cases z'
   . by_cases hb:b=a
     . exact hb
     . exact absurd (He hb) z
theorem Px {l:PySem.W.OpenLaw}{k:Nat}{q:Program}{loose:List Str}{XP:(Str->Option Value)->Heap->Prop}{YP:World->Heap->Prop}{d:DefRec}{K:Params->Frag}{CX:World->Cj}{sp:World->Sp}
   (hn:l.most=some n) (Zg:n<=sizeLine) (Q7:d.params.defaults=[]) (hr:dJ k callerA)
   (hY:∀(w:World) (h:Heap),YP w h->(K w.params).In h)
   (F:∀(w:World) (mg:Str->Option Value) (fa:Addr) (h:Heap),(K w.params).In h->h.Ns mainGlobals mg->mg d.name=some (.ref fa)->
     ∃fd:FuncData,(∀(s:Shared) (u:Value),BindsTo s fd ⟨[u],[]⟩ [(x,u)])/\
       ∀base:Heap,(K w.params).In base->base.Ns mainGlobals mg->dR l.prog w (K w.params) mg base (CX w) k fa fd [x] (sp w))
   (Q2:∀(w:World) (H:Hp) (a:Addr) (ns:List Int),ns.length<=n->Pw H->aQ (K w.params) H a (ns.map V.int)->sp w [.ref a] H (λv _=>v=.bl true) λ_ _ _=>False)
   (hCX:∀(w:World) (H:Hp) (s:Shared) (e:Value) (s':Shared),CX w [] H s (λ_ _ _=>False) e s'->False):
   PySem.W.WalkO q loose XP YP l.row.toRowW d [] (λf vs=>PySem.call f vs):=by
 refine Att.Cr hn Q7 λw s₀ s₁ mg mb fa o pm cd doc a vs ns G Y ho hd Em hmg hobj hints hlen hg=>?_;have KX:=hY w _ Y;obtain⟨fd,hb,hF⟩:=F w mg fa _ KX G.T.g hmg;exact LU KX G.T.g G.T.b G.T.builtins G.T.nolimit hg hobj hints (cw hlen Zg) hr hF hb (λH hO hS=>Q2 w H a ns hlen hO hS) λH e s'=>hCX w H s₁ e s'
abbrev pH:Cj:=λ_ _ _ _ _ _=>False
abbrev E0:XK:=λ_ _ _=>False
theorem zw :Passes pH X E0:=λ_ _ _ _ _ _ _ h=>h.elim
structure bT (K:Frag)(x qual:Str)(st:Stmt)(f:Addr)(fd:FuncData):Prop where
 ex:∃(oc:Value) (od:Option Addr) (kV doc pm:Value) (an:Option Addr) (eW ct:Value) (Jq:Array (Option Value)),
   fd=fnOf x qual (cU st) (aj st) (aN st) .none kV doc pm an eW ct/\K.lookup f=some ⟨oc,od,.func fd,Jq⟩/\codeIn K eW qual=true
 kp:keepIn K (.ref f)=true
section
variable {K:Frag}
theorem bT.ok {st:Stmt}{N:List Str}{k:Nat}(F:bT K x qual st f fd)(S:eU N ps (aN st))(len:∀vs H Q E,sp vs H Q E->vs.length=ps.length)
   (ja:∀(eW:Value) (A:Around) (outer:List Env) (s:Shared) (H:Hp) (vs:List V) (Q:VK) (E:XK),dJ k (A.deeper (envOfC qual (aN st) s.heap.objs.size f eW))->sp vs H Q E->
     ∃t,D8 (qT pH P w K mg base N qual (aN st) f eW A outer s H E).OB (aj st) t/\t { nx:=λ_ H'=>Q .bS H',rt:=Q } (start N vs) H):dR P w K mg base pH (k + 1) f fd ps sp:=by
 obtain⟨oc,od,kV,doc,pm,an,eW,ct,Jq,rfl,lk,Em⟩:=F.ex;refine WN lk Em S len λA outer s H vs Q E hr Q2=>?_;obtain⟨t,h,q⟩:=ja eW A outer s H vs Q E hr Q2;exact⟨t,h.OB,q⟩
theorem bT.binds {st:Stmt}(F:bT K x qual st f fd)
   (h:∀(kV doc pm:Value) (an:Option Addr) (eW ct:Value) (us:List Value),us.length=ps.length->bindArgs (fnOf x qual (cU st) (aj st) (aN st) .none kV doc pm an eW ct) ⟨us,[]⟩=pure (ps.zip us)):Binds K fd ps []:=by
 obtain⟨oc,od,kV,doc,pm,an,eW,ct,Jq,rfl,lk,Em⟩:=F.ex;exact .all (h kV doc pm an eW ct)
theorem AN {st:Stmt}{oc:Value}{an:Option Addr}{Jq:Array (Option Value)}{kV doc pm eW ct:Value}(l:K.lookup f=some ⟨oc,od,.func (fnOf x qual (cU st) (aj st) (aN st) .none kV doc pm an eW ct),Jq⟩)
   (c:codeIn K eW qual=true) (k:keepIn K (.ref f)=true):bT K x qual st f (fnOf x qual (cU st) (aj st) (aN st) .none kV doc pm an eW ct):=⟨⟨oc,od,kV,doc,pm,an,eW,ct,Jq,rfl,l,c⟩,k⟩
end
theorem Jx (h:n<=1000):n < sizeLine:=eI h Y1
theorem WZ {A B:Prop}(h:A):if true=true then A else B:=by
 rw[Hk rfl];exact h
theorem jP {c A B:Prop}[Decidable c](h1:c->A)(h2:¬ c->B):if c then A else B:=by
 by_cases h:c
 . rw[Hk h];exact h1 h
 . rw[He h];exact h2 h
def qY (H H':Hp):Prop:=∀b o,H b=some o->H' b=some o
theorem qY.refl (H:Hp):qY H H:=λ_ _ h=>h
theorem qY.trans (a:qY H H1)(b:qY H1 H2):qY H H2:=λc o h=>b c o (a c o h)
theorem qY.free (e:qY H H'){l:Addr}(h:H' l=Option.none):H l=Option.none:=by
 cases q:H l with
 | none=>rfl
 | some o=>
   rw[e l o q]at h;cases h
theorem qY.seq {K:Frag}{a:Addr}(e:qY H H')(h:aQ K H a xs):aQ K H' a xs:=by
 rcases h with (h | ⟨o,h⟩) | h
 . exact .inl (.inl (e _ _ h))
 . exact .inl (.inr ⟨o,e _ _ h⟩)
 . exact .inr h
section
variable {κ:Type}[DecidableEq κ]
end
def CDv (_ j:Int):Prop:=0 < j/\j < 10 ^ 100
theorem mZ:i8 X (binaryOp .FloorDiv) (rI CDv λi j=>.int (i / j)):=Zf λi j _ _ _ _ _ hc q=>by
 have h0:0 < j:=hc.1;have h1:j < 10 ^ 100:=hc.2;refine floordiv_int X2 ?_ (.inl (PyProof.noPylong_of_log2 ?_))
 . rw[Int.fdiv_eq_ediv_of_nonneg _ X2];exact q
 . have h2:j.natAbs < 10 ^ 100:=X2
   have h3:(10:Nat) ^ 100<=2 ^ 9000:=X9
   exact(FR X2).mpr (cm h2 h3)
structure Callee (P:Program)(w:World)(K:Frag)(mg:Str->Option Value)(base:Heap)(x:Str)(k:Nat)(ps:List Str)(sp:Sp):Prop where
 ex:∃(f:Addr) (fd:FuncData),dR P w K mg base pH k f fd ps sp/\Binds K fd ps []/\keepIn K (.ref f)=true/\mg x=some (.ref f)
section
variable {k:Nat}{t:TA}{p:Pos}
theorem LW (C:Callee X.prog X.w X.K X.mg X.base x k ps sp)(hr:dJ k X.A)(hg:Gl X x)(ha:PA X (e::es) t)
   (yt:'p'=false:=by decide) (he:starEach (e::es) X.env='t'::starEach es X.env:=by rfl) (oV:'x'.any (·.1)=false:=by rfl):
   PE X (.Call (.Name x p) (e::es) [] pos) (uo sp [] E0 t):=by
 exists 1,Q,I,h;obtain⟨f,fd,F,b,kp,m⟩:=C.ex;have G:dR X.prog X.w X.K X.mg X.base (λ_ _ _ _ _ _=>False) k f fd ps sp:=F;exact Pe F hr hg m kp b .nil zw ha yt he oV pins s σ H Q I h
end
def W0 (t u:TS):TS:=λD σ H=>∃J:St->Hp->Prop,t { D with nx:=J } σ H/\∀σ1 H1,J σ1 H1->u D σ1 H1
section
variable {st:Stmt}{rest:List Stmt}{t u:TS}
theorem Py (h1:PS X st t)(h2:D8 X rest u):D8 X (st::rest) (W0 t u):=by
 exists 1,D,I,h;obtain⟨J,h,hJ⟩:=h;refine wpAny_execs_cons (bH (h1 pins s σ H { D with nx:=J } I h) λf s1 q=>?_);cases f with
 | next=>
   obtain⟨σ',H',I',q⟩:=q;exact h2 pins s1 σ' H' D I' (hJ _ _ q)
 | ret v=>exact q
 | brk=>exact q
 | cont=>exact q
end
section
variable {a b c d:α}{r:List α}
theorem LX:j3 (a::r) 0=some a:=dI (j:=0) rfl
theorem LY:j3 (a::b::r) 1=some b:=dI (j:=1) rfl
theorem L4:j3 (a::b::c::r) 2=some c:=dI (j:=2) rfl
theorem L5:j3 (a::b::c::d::r) 3=some d:=dI (j:=3) rfl
end
def vK (H:Hp)(p:Addr):Option (List V):=match H p with
 | some (.lst xs)=>some xs
 | some (.tup xs)=>some xs
 | some (.uf _ (.lst xs))=>some xs
 | _=>none
theorem Jy (h:H p=some (.lst xs)):vK H p=some xs:=by unfold vK;rw[h]
theorem Jz (h:H p=some (.tup xs)):vK H p=some xs:=by unfold vK;rw[h]
def W2:R2:=λx y H Q=>∃p i xs v,x=.ref p/\y=.int i/\vK H p=some xs/\j3 xs i=some v/\Q v H
theorem sV:dQ X (.type "int") (λxs H Q=>∃k,xs=[.bl k]/\Q (.int (if k=true then 1 else 0)) H):=by
 exists 1,xs,us,Q,I,r,h;obtain⟨k,rfl,q⟩:=h;exact ze pins s σ H _ us Q I r (.inr ⟨k,rfl,q⟩)
theorem EM:bootBuiltins "len"=some (.builtin "len"):=X9
theorem ic:bootBuiltins "isinstance"=some (.builtin "isinstance"):=X9
theorem Uc:bootBuiltins "max"=some (.builtin "max"):=X9
theorem EN:bootBuiltins "min"=some (.builtin "min"):=X9
theorem JC:bootBuiltins "sorted"=some (.builtin "sorted"):=X9
theorem gO:bootBuiltins "all"=some (.builtin "all"):=X9
theorem jD:bootBuiltins "repr"=some (.builtin "repr"):=X9
theorem vL:bootBuiltins "int"=some (.type "int"):=X9
theorem Pz:bootBuiltins "bool"=some (.type "bool"):=X9
theorem EO:bootBuiltins "str"=some (.type "str"):=X9
theorem cA:bootBuiltins "list"=some (.type "list"):=X9
theorem iB:bootBuiltins "tuple"=some (.type "tuple"):=X9
theorem PB:bootBuiltins "dict"=some (.type "dict"):=X9
theorem AO:bootBuiltins "enumerate"=some (.type "enumerate"):=X9
theorem ER:bootBuiltins "zip"=some (.type "zip"):=X9
theorem Cs:bootBuiltins "reversed"=some (.type "reversed"):=X9
theorem Ud:bootBuiltins "set"=some (.type "set"):=X9
theorem cxK {K:Frag}{N:List Str}{cd:Value}{outer:List Env}{E:XK}:
   (qT CX P w K mg base N qual scope f cd A outer s H E).K=K:=rfl
theorem L6:ED 1 0=some 0:=rfl
theorem L7:ED 2 0=some 0:=rfl
theorem L8:ED 2 1=some 1:=rfl
theorem Ma:ED 3 0=some 0:=rfl
theorem Mb:ED 3 1=some 1:=rfl
theorem Mc:ED 3 2=some 2:=rfl
theorem vO :vK (upd H p (.lst xs)) p=some xs:=Jy af
theorem vQ :vK (upd H p (.tup xs)) p=some xs:=Jz af
theorem Me {xs:List α}{k:Int}(h0:0<=k)(h1:k < (xs.length:Int)):∃v,j3 xs k=some v/\v∈xs:=by
 have hk:k.toNat < xs.length:=X2
 have e:k=((k.toNat:Nat):Int):=X2
 have q:j3 xs ((k.toNat:Nat):Int)=some xs[k.toNat]:=dI (a9 hk);rw[<- e]at q;exact⟨_,q,ph hk⟩
theorem Mf (h:n<=1000):n<=sizeLine:=fv (Jx h)
section
variable {p1:Pos}{j2:Nat}
theorem PC {a b:Int}(v:Int)(h:decide (0<=b/\b<=1000000/\a.natAbs < 2 ^ 64/\a ^ b.toNat=v)=true:=by decide +kernel):PE X (.BinOp (.Constant (.int a) j1 p1) .Pow (.Constant (.int b) j2 p2) pos) (tC (.int v)):=by
 exists 1,Q,I,q;obtain⟨h1,h2,h3,h4⟩:=QR h;refine QY Tw En En pins s σ H Q I ⟨a,b,rfl,rfl,⟨h1,h2,h3⟩,?_⟩;show Q (V.int (a ^ b.toNat)) H;rw[h4];exact q
end
theorem vR {a b:Addr}:upd H a o b=none↔b≠a/\H b=none:=by
 unfold upd
 by_cases h:b=a
 . simp[h]
 . simp[h]
def Loop (J:It)(g:TG)(tb:TS)(D:Ends)(σ:St)(H:Hp):Prop:=∃W:Nat->Nat->St->Hp->Prop,(∃m,W 0 m σ H)/\∀i m σ H,W i m σ H->
 (J.stop i H/\D.nx σ H)∨(J.go i H/\∃N:St->Hp->Prop,(∀σ' H',N σ' H'->∃m',m' < m/\W (i + 1) m' σ' H')/\∀x H',J.OC i H x H'->g x σ H' λσ2 H2=>tb { D with nx:=N,ct:=N,bk:=D.nx } σ2 H2)
section
variable {K:Frag}{D:Ends}{a:Addr}{lo:Int}
theorem zx:pD (Cf ta) g tb D σ H=ta σ H (λvs H1=>∃j:Int,vs=[.int j]/\-(2 ^ 62)<=j/\j < 2 ^ 62/\Loop (AD 0 j.toNat) g tb D σ H1):=rfl
theorem zy:pD (Cg ta) g tb D σ H=ta σ H (λvs H1=>∃i j:Int,vs=[.int i,.int j]/\(-(2 ^ 62)<=i/\i < 2 ^ 62/\-(2 ^ 62)<=j/\j < 2 ^ 62)/\Loop (AD i (j - i).toNat) g tb D σ H1):=rfl
theorem zz:pD (qQ K tl) g tb D σ H=tl σ H (λx H1=>∃a,x=.ref a/\(∃xs,aQ K H1 a xs)/\Loop (ug K a) g tb D σ H1):=rfl
theorem Ct:pD (Tp K tl) g tb D σ H=tl σ H (λx H1=>∃a,x=.ref a/\(∃xs,yq K H1 a xs)/\Loop (Zc K a) g tb D σ H1):=rfl
theorem gP (Pv:Nat->St->Hp->Prop)(h0:Pv 0 σ H)
   (hs:∀i σ H,i < n->Pv i σ H->g (.int (lo + i)) σ H λσ2 H2=>tb { D with nx:=Pv (i + 1),ct:=Pv (i + 1),bk:=D.nx } σ2 H2) (hd:∀σ H,Pv n σ H->D.nx σ H):Loop (AD lo n) g tb D σ H:=Jj Pv h0 hs hd
theorem fX (Pv:Nat->St->Hp->Prop)(h0:Pv 0 σ H)(hl:∀i σ H,i<=xs.length->Pv i σ H->aQ K H a xs)
   (hs:∀i x σ H,xs[i]?=some x->Pv i σ H->g x σ H λσ2 H2=>tb { D with nx:=Pv (i + 1),ct:=Pv (i + 1),bk:=D.nx } σ2 H2) (hd:∀σ H,Pv xs.length σ H->D.nx σ H):Loop (ug K a) g tb D σ H:=Lr Pv h0 hl hs hd
end
structure JE (X:Cx)(e:Expr)(t:TE):Prop where h:PE X e t
structure JT (X:Cx)(e:Expr)(t:TT):Prop where h:PT X e t
structure JW (X:Cx)(e:Expr)(t:TT):Prop where h:PW X e t
structure JA (X:Cx)(es:List Expr)(t:TA):Prop where h:PA X es t
structure JS (X:Cx)(st:Stmt)(t:TS):Prop where h:PS X st t
structure JB (X:Cx)(st:List Stmt)(t:TS):Prop where h:D8 X st t
structure JG (X:Cx)(e:Expr)(t:TG):Prop where h:PG X e t
structure Q8 (X:Cx)(es:List Expr)(t:BY):Prop where h:WD X es t
structure JI (X:Cx)(tg e:Expr)(t:TI):Prop where h:PI X tg e t
structure JO (X:Cx)(e:Option Expr)(t:TO):Prop where h:PO X e t
section
variable {a b c o:Expr}{rest:List Expr}{ta tb tc to:TE}{t tl:TA}{tA OV:TT}{p p':Pos}{st:Stmt}{OE W3:List Stmt}{u v:TS}
theorem ev (i:Nat)(hN:X.N[i]?=some x:=by rfl)(hv:Vt X.env.scope x:=by first | exact Or.inl rfl | exact Or.inr (Or.inl rfl) | exact Or.inr (Or.inr rfl))(hd:'p'=false:=by decide)
   (Em:(x==("__classdict__":Str))=false:=by decide):JE X (.Name x pos) (El i):=⟨SX hN hv hd Em⟩
theorem ei {i j}:JE X (.Constant (.int i) j pos) (tC (.int i)):=⟨En⟩
theorem uP {b j}:JE X (.Constant (.bool b) j pos) (tC (.bl b)):=⟨WA⟩
theorem jQ {j}:JE X (.Constant .none j pos) (tC .bS):=⟨SY⟩
theorem dM {x j}:JE X (.Constant (.str x) j pos) (tC (.str x)):=⟨S6⟩
theorem jb {v:V}{u:Value}(hg:Gl X x)(hm:X.mg x=some u)(r:RelV v u)(hd:'p'=false:=by decide):JE X (.Name x pos) (tC v):=⟨OT hg hm r hd⟩
theorem mG {n:String}(hg:Gl X x)(hm:X.mg x=none)(hv:bootBuiltins x=some (.type n))(hn:x≠"__name__":=by decide)(hd:'p'=false:=by decide):JE X (.Name x pos) (tC (.ty n)):=⟨OU hg hm hv rfl hn hd⟩
theorem cB {op:Operator}{r:R2}(ho:i8 X (binaryOp op) r)(ha:JE X a ta)(hb:JE X b tb):JE X (.BinOp a op b pos) (Gr r ta tb):=⟨QY ho ha.h hb.h⟩
theorem mh {a b:Int}{j2:Nat}{p1:Pos}(v:Int)(h:decide (0<=b/\b<=1000000/\a.natAbs < 2 ^ 64/\a ^ b.toNat=v)=true:=by decide +kernel):JE X (.BinOp (.Constant (.int a) j1 p1) .Pow (.Constant (.int b) j2 p2) pos) (tC (.int v)):=⟨PC v h⟩
theorem Ue {op:UnaryOp}{r:V->Hp->VK->Prop}(ho:Zd X (unaryOp op) r)(ha:JE X a ta):JE X (.UnaryOp op a pos) (Ze r ta):=⟨WE ho ha.h⟩
theorem W4 (ha:JE X a ta):JE X (.UnaryOp .Not a pos) (Cd ta):=⟨Td ha.h⟩
theorem iC {op}(h:JE X a ta):JE X (.BoolOp op [a] pos) ta:=⟨S9 h.h⟩
theorem fM (ha:JE X a ta)(hb:JE X (.BoolOp .And (b::rest) pos) tb):JE X (.BoolOp .And (a::b::rest) pos) (Cc ta tb):=⟨Tc ha.h hb.h⟩
theorem eor (ha:JE X a ta)(hb:JE X (.BoolOp .Or (b::rest) pos) tb):JE X (.BoolOp .Or (a::b::rest) pos) (Li ta tb):=⟨WB ha.h hb.h⟩
theorem eif (hc:JT X c tA)(ha:JE X a ta)(hb:JE X b tb):JE X (.IfExp c a b pos) (Zb tA ta tb):=⟨Lj hc.h ha.h hb.h⟩
theorem fS {r:R2}(ho:i8 X (compareOp op) r)(ha:JE X a ta)(hb:JE X b tb)(hm:behindInMarks op b=false):JE X (.Compare a [op] [b] pos) (Gr r ta tb):=⟨O9 ho ha.h hb.h hm⟩
theorem ES {Et:CmpOp}{r r':R2}(ho:i8 X (compareOp op) r)(Ej:i8 X (compareOp Et) r')(ha:JE X a ta)(hb:JE X b tb)(hc:JE X c tc)
   (hm:lastMarks [op,Et] [b,c]=false:=by with_unfolding_all rfl):JE X (.Compare a [op,Et] [b,c] pos) (mW r r' ta tb tc):=⟨Lx ho Ej ha.h hb.h hc.h hm⟩
theorem sW {r:R2}(hr:Q4 X r)(ha:JE X a ta)(hb:JE X b tb)(hs:GD b):JE X (.Subscript a b pos) (Gr r ta tb):=⟨WQ hr ha.h hb.h hs⟩
theorem vS {r:V->Option Int->Option Int->Hp->VK->Prop}{lo hi:Option Expr}{tl th:TO}(hr:Zh X r)(he:JE X e te)(hl:JO X lo tl)(hu:JO X hi th):JE X (.Subscript e (.Slice lo hi none p) pos) (Zi r te tl th):=⟨LK hr he.h hl.h hu.h⟩
theorem vU {k:Nat}(C:Callee X.prog X.w X.K X.mg X.base x k ps sp)(hr:dJ k X.A)(hg:Gl X x)(ha:JA X (e::es) t)
   (yt:'p'=false:=by decide) (he:starEach (e::es) X.env='t'::starEach es X.env:=by rfl) (oV:'x'.any (·.1)=false:=by rfl):
   JE X (.Call (.Name x p) (e::es) [] pos) (uo sp [] E0 t):=⟨LW C hr hg ha.h yt he oV⟩
theorem bL {id:String}{r:List V->Hp->VK->Prop}(hc:dQ X (.builtin id) r)(hg:Gl X x)(hm:X.mg x=none)(hv:bootBuiltins x=some (.builtin id))(ha:JA X (e::es) t)(hn:x≠"__name__":=by decide)(yt:'p'=false:=by decide)
   (he:starEach (e::es) X.env='t'::starEach es X.env:=by rfl) (oV:'x'.any (·.1)=false:=by rfl):JE X (.Call (.Name x p) (e::es) [] pos) (Q3 r t):=⟨LH hc hg hm hv ha.h hn yt he oV⟩
theorem cX {T:String}{r:List V->Hp->VK->Prop}(hc:dQ X (.type T) r)(hg:Gl X x)(hm:X.mg x=none)(hv:bootBuiltins x=some (.type T))(ha:JA X (e::es) t)(hn:x≠"__name__":=by decide)(yt:'p'=false:=by decide)
   (he:starEach (e::es) X.env='t'::starEach es X.env:=by rfl) (oV:'x'.any (·.1)=false:=by rfl):JE X (.Call (.Name x p) (e::es) [] pos) (Q3 r t):=⟨Jr hc hg hm hv ha.h hn yt he oV⟩
theorem Ug {T id:String}{r:V->List V->Hp->VK->Prop}{apos kQ:Pos}(pa:PlainAttrs T)(slot:Slot T name id)(TZ:typeOf (.builtin id)=pure (.type "method_descriptor"))(hm:Zj X id r)(ho:JE X o to)
   (vG:attributeBase o name X.env (eval o X.env)=eval o X.env:=by rfl) (vH:(apos.endLine==kQ.line)=true:=by rfl):JE X (.Call (.Attribute o name apos) [] [] kQ) (Pn X.K T r to):=⟨TY pa slot TZ hm ho.h vG vH⟩
theorem Uh {T id:String}{r:V->List V->Hp->VK->Prop}{apos kQ:Pos}(pa:PlainAttrs T)(slot:Slot T name id)(TZ:typeOf (.builtin id)=pure (.type "method_descriptor"))(hm:Zj X id r)(ho:JE X o to)(ha:JA X (e::es) t)
   (vG:attributeBase o name X.env (eval o X.env)=eval o X.env:=by rfl)
   (T3:((backTo kQ (starEach (e::es) X.env)).all (λx=>!x.1)&&(backToKw kQ (keywordEach [] X.env)).all (λx=>x.1.isSome)
     &&decide ((e::es).length + ([]:List Keyword).length + (if ([]:List Keyword).isEmpty then 0 else 1) < 30))=true:=by rfl)
   (vH:(apos.endLine==kQ.line)=true:=by rfl) (hs:starEach (e::es) X.env='t'::starEach es X.env:=by rfl) (EH:(backTo kQ (starEach es X.env)).any (·.1)=false:=by rfl):
   JE X (.Call (.Attribute o name apos) (e::es) [] kQ) (Zk X.K T r to t):=⟨WU pa slot TZ hm ho.h ha.h vG T3 vH hs EH⟩
theorem ah:JA X [] vE:=⟨TL⟩
theorem aa (ha:JE X e te)(hr:JA X es t)(hs:starEach (e::es) X.env='t'::starEach es X.env:=by rfl):JA X (e::es) (pN te t):=⟨Pd ha.h hr.h hs⟩
theorem cz {r:R2}(ho:i8 X (compareOp op) r)(ha:JE X a ta)(hb:JE X b tb)(hm:behindInMarks op b=false):JT X (.Compare a [op] [b] pos) (uh (Gr r ta tb)):=⟨Pa ho ha.h hb.h hm⟩
theorem ET {Et:CmpOp}{r r':R2}(ho:i8 X (compareOp op) r)(Ej:i8 X (compareOp Et) r')(ha:JE X a ta)(hb:JE X b tb)(hc:JE X c tc)
   (hm:lastMarks [op,Et] [b,c]=false:=by with_unfolding_all rfl):JT X (.Compare a [op,Et] [b,c] pos) (uh (mW r r' ta tb tc)):=⟨Ly ho Ej ha.h hb.h hc.h hm⟩
theorem ef (h:JE X e te)(he:∀whole,isTrue e X.env whole=(do let v <- whole;standAt e.pos;holding [v] (truthy v)):=by intro _;rfl):JT X e (tB te):=⟨S7 h.h he⟩
theorem vV (ha:JE X a ta)(he:∀whole,isTrue a X.env whole=(do let v <- whole;standAt a.pos;holding [v] (truthy v))):
   JT X a (λσ H Q=>ta σ H λx H'=>∃k,Tz X.K x H' k/\Q k H'):=⟨Lz ha.h he⟩
theorem fj (ha:JT X a tA):JT X (.UnaryOp .Not a pos) (OX tA):=⟨S8 ha.h⟩
theorem tw (h:JW X e tA):JT X e tA:=⟨PW.pt h.h⟩
theorem Mg (ha:JT X a tA):JW X (.BoolOp .And [a] pos) tA:=⟨pw_and1 ha.h⟩
theorem jc (ha:JT X a tA):JW X (.BoolOp .Or [a] pos) tA:=⟨pw_or1 ha.h⟩
theorem Ui (ha:JT X a tA)(hb:JW X (.BoolOp .And (b::rest) pos) OV):JW X (.BoolOp .And (a::b::rest) pos) (OW tA OV):=⟨pw_and ha.h hb.h⟩
theorem sH (ha:JT X a tA)(hb:JW X (.BoolOp .Or (b::rest) pos) OV):JW X (.BoolOp .Or (a::b::rest) pos) (Za tA OV):=⟨pw_or ha.h hb.h⟩
theorem cD:JB X [] Gp:=⟨OZ⟩
theorem ao (h1:JS X st u)(h2:JB X OE v):JB X (st::OE) (OY u v):=⟨Lk h1.h h2.h⟩
theorem aE (h1:JS X st u):JB X [st] u:=⟨O0 h1.h⟩
theorem W5 (h1:JS X st u)(h2:JB X OE v):JB X (st::OE) (W0 u v):=⟨Py h1.h h2.h⟩
theorem j4 (he:JE X e te)(hs:swapsWith e none pos.line X.env=pure false:=by rfl):JS X (.Expr e pos) (Gq te):=⟨O1 he.h hs⟩
theorem aR (he:JE X e te):JS X (.Return (some e) pos) (O2 te):=⟨Te he.h⟩
theorem iV (hc:JT X c tA)(ha:JB X OE u)(hb:JB X W3 v):JS X (.If c OE W3 pos) (O3 tA u v):=⟨WC hc.h ha.h hb.h⟩
theorem sset (hN:X.N.Nodup)(hi:X.N[i]?=some x)(hx:Loc X.env.scope x)(he:JE X e te)(hs:swapsWith e (some (.Name x p)) pos.line X.env=pure false:=by rfl)(hf:X.fn x=true∨X.env.scope.names.lookup x=some .local:=by first | exact .inl rfl | exact .inr rfl | assumption):
   JS X (.Assign [.Name x p] e pos) (AA te (bI i)):=⟨Tn hN hi hx he.h hs hf⟩
theorem iW (he:JE X e te)(hg:JG X tg g)(hs:swapsWithSole [tg] e pos.line X.env=pure false:=by rfl)(hw:swappedStores [tg] e X.env=pure none:=by rfl)
   (h1:(assignEach [tg] X.env).map (·.2)=[assign tg X.env]:=by rfl):JS X (.Assign [tg] e pos) (AA te g):=⟨Tj he.h hg.h hs hw h1⟩
theorem mH (hp:PassesOwn 'c' X.A X.env X.xe)(hc:X.calm=true)(hi:JI X tg iter wi)(hg:JG X tg g)(hb:JB X OE u)
   (hs:∀x,foldedSetIterable iter X.env x=pure x:=by intro _;rfl):JS X (.For tg iter OE [] pos) (pD wi g u):=⟨Tq hp hc hi.h hg.h hb.h hs⟩
theorem EU (hp:PassesOwn 'c' X.A X.env X.xe)(hc:JT X c tA)(hb:JB X OE u):JS X (.While c OE [] pos) (AB tA u):=⟨Ln hp hc.h hb.h⟩
theorem GN (hN:X.N.Nodup)(hi:X.N[i]?=some x)(hx:Loc X.env.scope x)(hf:X.fn x=true∨X.env.scope.names.lookup x=some .local:=by first | exact .inl rfl | exact .inr rfl | assumption):JG X (.Name x pos) (bI i):=⟨Ay hN hi hx hf⟩
theorem W6 {i:Expr}{ti:TE}{t:O4}(ho:JE X o to)(hi:JE X i ti)(hs:Tf X t)
   (ha:∀v,assign (.Subscript o i pos) X.env v=(do
     let ov <- holding [v] (eval o X.env)
     let iv <- holding [v,ov] (eval i X.env)
     standAt pos
     holding [v,ov,iv] (setItem ov iv v)
     release [v,ov,iv] []):=by intro _;rfl):JG X (.Subscript o i pos) (O6 to ti t):=⟨Th ho.h hi.h hs ha⟩
theorem dN:Q8 X [] vB:=⟨O5⟩
theorem aA {t:TG}{u:BY}(h1:JG X e t)(h2:Q8 X es u)(hs:(assignEach (e::es) X.env).map (·.2)=assign e X.env::(assignEach es X.env).map (·.2):=by rfl):Q8 X (e::es) (iy t u):=⟨Lm h1.h h2.h hs⟩
theorem jE (hg:Gl X "range")(hm:X.mg "range"=none)(ha:JA X [a] t)(hs:starEach [a] X.env=[(false,eval a X.env)]:=by rfl):JI X tg (.Call (.Name "range" p) [a] [] pos) (Cf t):=⟨Jg hg hm ha.h hs⟩
theorem AQ (hg:Gl X "range")(hm:X.mg "range"=none)(ha:JA X [a,b] t)(hs:starEach [a,b] X.env=[(false,eval a X.env),(false,eval b X.env)]:=by rfl)(Lq:starEach [b] X.env=[(false,eval b X.env)]:=by rfl):
   JI X tg (.Call (.Name "range" p) [a,b] [] pos) (Cg t):=⟨Jh hg hm ha.h hs Lq⟩
theorem bU {l:Expr}(hl:JE X l te):JI X tg l (qQ X.K te):=⟨O7 hl.h⟩
theorem GO:JO X none u5:=⟨Pj⟩
theorem zB (h:JE X e te):JO X (some e) (Gy te):=⟨Pk h.h⟩
end
section
variable {K:Frag}
theorem bT.okJ {st:Stmt}{N:List Str}{k:Nat}(F:bT K x qual st f fd)(S:eU N ps (aN st))(len:∀vs H Q E,sp vs H Q E->vs.length=ps.length)
   (ja:∀(eW:Value) (A:Around) (outer:List Env) (s:Shared) (H:Hp) (vs:List V) (Q:VK) (E:XK),dJ k (A.deeper (envOfC qual (aN st) s.heap.objs.size f eW))->sp vs H Q E->
     ∃t,JB (qT pH P w K mg base N qual (aN st) f eW A outer s H E).OB (aj st) t/\t { nx:=λ_ H'=>Q .bS H',rt:=Q } (start N vs) H):dR P w K mg base pH (k + 1) f fd ps sp:=
 F.ok S len λeW A outer s H vs Q E hr h=>let ⟨t,a,b⟩:=ja eW A outer s H vs Q E hr h;⟨t,a.h,b⟩
end
mutual
def Is (K:Frag)(H:Hp):PyData->V->Prop
 | .none,v=>v=.bS
 | .bool b,v=>v=.bl b
 | .int i,v=>v=.int i
 | .str x,v=>v=.str x
 | .list ds,v=>∃a vs,v=.ref a/\aQ K H a vs/\dD K H ds vs
 | .tuple ds,v=>∃a vs,v=.ref a/\yq K H a vs/\dD K H ds vs
 | .dict _,_=>False
def dD (K:Frag)(H:Hp):List PyData->List V->Prop
 | [],vs=>vs=[]
 | d::ds,vs=>∃v r,vs=v::r/\Is K H d v/\dD K H ds r
end
mutual
theorem Is.reads (I:Inv X pins σ H s):∀{d:PyData}{v:V}{u:Value},Is X.K H d v->RelV v u->∃as,Reads s.heap u d as
 | .none,v,u,h,r=>by unfold Is at h;subst h;cases r;exact⟨_,.none⟩
 | .bool b,v,u,h,r=>by unfold Is at h;subst h;cases r;exact⟨_,.bool b⟩
 | .int i,v,u,h,r=>by unfold Is at h;subst h;obtain⟨t,rfl⟩:=r;exact⟨_,.int i t⟩
 | .str x,v,u,h,r=>by unfold Is at h;subst h;obtain⟨t,rfl⟩:=r;exact⟨_,.str x t⟩
 | .list ds,v,u,h,r=>by
   unfold Is at h;obtain⟨a,vs,rfl,hs,ha⟩:=h;cases r;obtain⟨br,rv,⟨o,n,e,hc,_,hd⟩,_⟩:=I.list hs;obtain⟨as,q⟩:=dD.reads I ha rv;exact⟨_,.list e hc hd (by simpa using q)⟩
 | .tuple ds,v,u,h,r=>by
   unfold Is at h;obtain⟨a,vs,rfl,hs,ha⟩:=h;cases r;obtain⟨br,rv,⟨o,e,hc,n,hd⟩,_⟩:=I.tuple hs;obtain⟨as,q⟩:=dD.reads I ha rv;exact⟨_,.tuple e hc hd (by simpa using q)⟩
 | .dict _,v,u,h,r=>by unfold Is at h;exact h.elim
theorem dD.reads (I:Inv X pins σ H s):∀{ds:List PyData}{vs:List V}{us:List Value},dD X.K H ds vs->Vals vs us->∃as,ReadsAll s.heap us ds as
 | [],vs,us,h,r=>by unfold dD at h;subst h;cases r;exact⟨_,.nil⟩
 | d::ds,vs,us,h,r=>by
   unfold dD at h;obtain⟨v,rs,rfl,h1,h2⟩:=h;cases r with
   | cons r1 r2=>
     obtain⟨as,q1⟩:=Is.reads I h1 r1;obtain⟨bs,q2⟩:=dD.reads I h2 r2;exact⟨_,.cons q1 q2⟩
end
def Uj (K:Frag)(neg:Bool):R2:=λx y H Q=>∃d e,Is K H d x/\Is K H e y/\SeqAt.shaped d=true/\SeqAt.shaped e=true/\Q (.bl (if neg=true then !PyData.eqv d e else PyData.eqv d e)) H
theorem Mh (hu:X.A.units + 64 < cLine):i8 X (compareOp .Eq) (Uj X.K false):=by
 exists 1,x,y,v,u,Q,I,rx,ry,h;obtain⟨d,e,hd,he,sd,se,q⟩:=h;obtain⟨as,ra⟩:=hd.reads I rx;obtain⟨bs,rb⟩:=he.reads I ry;exact SeqAt.compareEq_shaped ra rb sd se hu ⟨.bl _,H,I,rfl,q⟩
mutual
theorem Is.same {K:Frag}{H H':Hp}(h:qY H H'):∀{d:PyData}{v:V},Is K H d v->Is K H' d v
 | .none,v,q=>by unfold Is at q ⊢;exact q
 | .bool b,v,q=>by unfold Is at q ⊢;exact q
 | .int i,v,q=>by unfold Is at q ⊢;exact q
 | .str x,v,q=>by unfold Is at q ⊢;exact q
 | .list ds,v,q=>by
   unfold Is at q ⊢;obtain⟨a,vs,e,hs,ha⟩:=q;exact⟨a,vs,e,h.seq hs,dD.same h ha⟩
 | .tuple ds,v,q=>by
   unfold Is at q ⊢;obtain⟨a,vs,e,hs,ha⟩:=q;refine⟨a,vs,e,?_,dD.same h ha⟩;rcases hs with (hs | ⟨o,hs⟩) | hs
   . exact .inl (.inl (h _ _ hs))
   . exact .inl (.inr ⟨o,h _ _ hs⟩)
   . exact .inr hs
 | .dict _,v,q=>by unfold Is at q;exact q.elim
theorem dD.same {K:Frag}{H H':Hp}(h:qY H H'):∀{ds:List PyData}{vs:List V},dD K H ds vs->dD K H' ds vs
 | [],vs,q=>by unfold dD at q ⊢;exact q
 | d::ds,vs,q=>by
   unfold dD at q ⊢;obtain⟨v,r,e,h1,h2⟩:=q;exact⟨v,r,e,Is.same h h1,dD.same h h2⟩
end
theorem Mi:∀{u:Value}{x:V},Eo u=some x->RelV x u:=by
 intro u x h;cases u <;> first | (cases h;first | rfl | exact⟨_,rfl⟩) | cases h
theorem Q9 (a b:Int):OD (.int a) (.int b)=(a==b):=rfl
theorem Ra (a b:Str):OD (.str a) (.str b)=(a==b):=rfl
theorem Mj:∀{us:List Value}{xs:List V},us.mapM Eo=some xs->Vals xs us:=by
 intro us;induction us with
 | nil=>intro xs h;simp at h;subst h;exact .nil
 | cons u us ih=>
   intro xs h;rw[List.mapM_cons]at h;cases e1:Eo u with
   | none=>rw[e1]at h;simp at h
   | some x=>
     cases e2:us.mapM Eo with
     | none=>rw[e1,e2]at h;simp at h
     | some ys=>
       rw[e1,e2]at h;simp at h;subst h;exact .cons (Mi e1) (ih e2)
def j5 (K:Frag)(a:Addr):Option (List V):=match K.lookup a with
 | some ⟨.type n,_,.seq br _,_⟩=>if n="tuple" then (if br.size<=sizeLine then br.toList.mapM Eo else none) else none
 | _=>none
theorem GP {K:Frag}{a:Addr}(h:j5 K a=some xs):yq K H a xs:=by
 unfold j5 at h;split at h
 . next n dd br k sl e=>
   by_cases h1:n="tuple"
   . rw[Hk h1]at h
     by_cases h2:br.size<=sizeLine
     . rw[Hk h2]at h;subst h1;exact .inr ⟨_,br,k,e,rfl,rfl,h2,Mj h⟩
     . rw[He h2]at h;cases h
   . rw[He h1]at h;cases h
 . cases h
def tupQ (K:Frag)(H:Hp)(a:Addr):Option (List V):=match H a with
 | some (.tup xs)=>some xs
 | some _=>none
 | none=>j5 K a
def jd (K:Frag)(H:Hp)(a:Addr):Option (List V):=match H a with
 | some (.lst xs)=>some xs
 | some (.tup xs)=>some xs
 | some (.uf _ (.lst xs))=>some xs
 | some _=>none
 | none=>j5 K a
section
variable {K:Frag}{a b:Addr}
theorem jF (h:tupQ K H a=some xs):yq K H a xs:=by
 unfold tupQ at h;split at h
 . next e=>cases h;exact .inl (.inl e)
 . cases h
 . exact GP h
theorem qZ (h:jd K H a=some xs):aQ K H a xs∨yq K H a xs:=by
 unfold jd at h;split at h
 . next e=>cases h;exact .inl (.inl (.inl e))
 . next e=>cases h;exact .inr (.inl (.inl e))
 . next e=>cases h;exact .inl (.inl (.inr ⟨_,e⟩))
 . cases h
 . exact .inr (GP h)
theorem aZ (h:tupQ K H a=some xs):jd K H a=some xs:=by
 unfold tupQ at h;unfold jd;split at h
 . next e=>rw[e];exact h
 . cases h
 . next e=>rw[e];exact h
theorem aJ (h:H a=some (.lst xs)):jd K H a=some xs:=by unfold jd;rw[h]
theorem Ml (h:H a=some (.tup xs)):jd K H a=some xs:=by unfold jd;rw[h]
theorem Cu (h:H a=some (.tup xs)):tupQ K H a=some xs:=by unfold tupQ;rw[h]
theorem sX:jd K (upd H a (.lst xs)) a=some xs:=aJ af
theorem sY:jd K (upd H a (.tup xs)) a=some xs:=Ml af
theorem aF:tupQ K (upd H a (.tup xs)) a=some xs:=Cu af
theorem rj (h:b≠a):tupQ K (upd H a o) b=tupQ K H b:=by unfold tupQ;rw[au h]
structure Ext (K:Frag)(H H':Hp):Prop where
 same:qY H H'
 mod:∀a xs,H a=none->j5 K a=some xs->H' a=none
theorem Ext.refl:Ext K H H:=⟨qY.refl H,λ_ _ h _=>h⟩
theorem Ext.trans (x:Ext K H H1)(y:Ext K H1 H2):Ext K H H2:=⟨x.same.trans y.same,λa xs h k=>y.mod a xs (x.mod a xs h k) k⟩
theorem Ext.tup (x:Ext K H H')(h:tupQ K H a=some xs):tupQ K H' a=some xs:=by
 unfold tupQ at h ⊢;split at h
 . next e=>rw[x.same _ _ e];exact h
 . cases h
 . next e=>rw[x.mod a xs e h];exact h
end
def Mm (K:Frag):R2:=λx y H Q=>∃p i xs v,x=.ref p/\y=.int i/\jd K H p=some xs/\j3 xs i=some v/\Q v H
theorem je:Q4 X (Mm X.K):=by
 intro value slice pins s σ H x y v u Q I rx ry h hs;obtain⟨p,i,xs,z,rfl,rfl,hq,he,q⟩:=h;rcases qZ (K:=X.K) hq with h1 | h1
 . exact GF value slice pins s σ H _ _ v u Q I rx ry ⟨p,xs,i,z,rfl,rfl,h1,he,q⟩ hs
 . exact TU value slice pins s σ H _ _ v u Q I rx ry ⟨p,xs,i,z,rfl,rfl,h1,he,q⟩ hs
theorem zC:dQ X (.builtin "len") (λxs H Q=>∃p ys,xs=[.ref p]/\jd X.K H p=some ys/\Q (.int ys.length) H):=by
 exists 1,xs,us,Q,I,r,h;obtain⟨p,ys,rfl,hq,q⟩:=h;exact qV pins s σ H _ us Q I r ⟨p,ys,rfl,qZ hq,q⟩
def new (K:Frag)(H:Hp)(p:Addr):Prop:=H p=none/\j5 K p=none
theorem oW {K:Frag}{a:Addr}:new K (upd H a o) p↔p≠a/\new K H p:=by
 unfold new;rw[vR,XB]
theorem zD {K:Frag}{a:Addr}(h:K.lookup a=none):j5 K a=none:=by unfold j5;rw[h]
section
variable {t:TA}
theorem Inv.new (I:Inv X pins σ H s):L2.new X.K H s.heap.objs.size:=by
 refine⟨I.dB.fresh (ag _),zD ?_⟩;cases e:X.K.lookup s.heap.objs.size with
 | none=>rfl
 | some o=>exact absurd (ba (I.qK _ o e)) (hU _)
def Cv (K:Frag)(t:TA):TE:=λσ H Q=>t σ H λxs H1=>xs.length<=sizeLine/\∀p,L2.new K H1 p->Q (.ref p) (upd H1 p (.tup xs))
def Cw (K:Frag)(t:TA):TE:=λσ H Q=>t σ H λxs H1=>xs.length<=sizeLine/\∀p,L2.new K H1 p->Q (.ref p) (upd H1 p (.lst xs))
theorem Rb {k}(h:JA X es t):JE X (.Tuple es k pos) (Cv X.K t):=⟨by
 exists 1,Q,I,hq;refine wpAny_Tuple_spliced (bH (h.h pos pins s σ H _ I hq) λus s1=>?_);rintro⟨xs,H1,I1,r,z,q⟩;refine ⟨by rw[<- r.length];exact z,?_⟩;refine⟨.ref s1.heap.objs.size,upd H1 s1.heap.objs.size (.tup xs),I1.laid (t':=s1.toks) (λb u e=>ae _ e) (ag _) ?_,rfl,q _ I1.new⟩;exact⟨z,us,r,⟨_,cn _ rfl,rfl,_,rfl⟩⟩⟩
theorem Rc (h:JA X es t):JE X (.List es pos) (Cw X.K t):=⟨by
 exists 1,Q,I,hq;refine wpAny_List_spliced (bH (h.h pos pins s σ H _ I hq) λus s1=>?_);rintro⟨xs,H1,I1,r,z,q⟩;refine ⟨by rw[<- r.length];exact z,?_⟩;refine⟨.ref s1.heap.objs.size,upd H1 s1.heap.objs.size (.lst xs),I1.laid (t':=s1.toks) (λb u e=>ae _ e) (ag _) ?_,rfl,q _ I1.new⟩;exact⟨z,us,0,r,cn _ rfl⟩⟩
theorem AR {st:Stmt}:JS X st Ax:=⟨Ll⟩
def GQ (K:Frag):R2:=λx y H Q=>∃l b xs zs,x=.ref l/\y=.ref b/\H l=some (.lst xs)/\H b=some (.lst zs)/\xs.length + zs.length<=sizeLine/\∀p,L2.new K H p->Q (.ref p) (upd H p (.lst (xs++zs)))
theorem cR:i8 X (binaryOp .Add) (GQ X.K):=by
 exists 1,x,y,v,u,Q,I,rx,ry,h;obtain⟨l,b,xs,zs,rfl,rfl,hH,hB,hz,q⟩:=h;cases rx;cases ry;obtain⟨z,br,n,r,hl,e⟩:=I.LP hH;obtain⟨z2,its2,n2,r2,Rf,e2⟩:=I.LP hB;refine PySem.P.add_list e e2 ?_ (by rw[da,da];omega);have ea:br.toArray++its2.toArray=(br++its2).toArray:=Y2
 rw[ea];exact⟨.ref _,_,I.WV (t':=s.toks) (r.append r2) (by rw[ar];omega),rfl,q _ I.new⟩
end
structure Kp (K:Frag)(p:Addr)(H H':Hp):Prop where
 keep:∀q o,H q=some o->q≠p->H' q=some o
 mod:∀a xs,H a=none->j5 K a=some xs->H' a=none
section
variable {K:Frag}{a:Addr}{ys:List V}
theorem Kp.refl:Kp K p H H:=⟨λ_ _ h _=>h,λ_ _ h _=>h⟩
theorem Kp.trans (x:Kp K p H H1)(y:Kp K p H1 H2):Kp K p H H2:=⟨λq o h n=>y.keep q o (x.keep q o h n) n,λa xs h k=>y.mod a xs (x.mod a xs h k) k⟩
theorem Kp.upd (h:H p=some (.lst xs)):Kp K p H (upd H p o):=⟨λq u e n=>by rw[au n];exact e,λb ys e _=>by rw[au (λz=>by rw[z,h]at e;cases e)];exact e⟩
theorem Kp.new (h:L2.new K H q):Kp K p H (L2.upd H q o):=⟨λr u e _=>by rw[au (ay e h.1)];exact e,λb ys e k=>by rw[au (λz=>by rw[z,h.2]at k;cases k)];exact e⟩
theorem Kp.tup (x:Kp K p H H')(hp:H p=some (.lst ys))(h:tupQ K H a=some xs):tupQ K H' a=some xs:=by
 unfold tupQ at h ⊢;split at h
 . next e=>rw[x.keep _ _ e (QU e hp (by intro z;cases z))];exact h
 . cases h
 . next e=>rw[x.mod a xs e h];exact h
theorem Ext.new (h:L2.new K H q):Ext K H (L2.upd H q o):=⟨λb u e=>by rw[au (ay e h.1)];exact e,λb ys e k=>by rw[au (λz=>by rw[z,h.2]at k;cases k)];exact e⟩
theorem Kp.ext (x:Kp K p (L2.upd H p o) H')(h:L2.new K H p):Ext K H H':=by
 refine⟨λb u e=>?_,λb ys e k=>?_⟩
 . have n:b≠p:=ay e h.1;exact x.keep b u (by rw[au n];exact e) n
 . exact x.mod b ys (by rw[au (λz=>by rw[z,h.2]at k;cases k)];exact e) k
theorem Ext.kp (x:Ext K H H'):Kp K p H H':=⟨λq o e _=>x.same q o e,x.mod⟩
end
section
variable {K:Frag}{a:Addr}
end
def W7 (K:Frag)(H:Hp)(x:V)(t:Value):Prop:=pG K H x t∨∃a xs,x=.ref a/\tupQ K H a=some xs/\t=.type "tuple"
theorem W7.tup {K:Frag}{a:Addr}(h:tupQ K H a=some xs):W7 K H (.ref a) (.type "tuple"):=.inr ⟨a,xs,rfl,h,rfl⟩
theorem AS:dQ X (.builtin "isinstance") (λxs H Q=>∃x n t b,xs=[x,.ty n]/\W7 X.K H x t/\kitOne X.K t (.type n)=some b/\Q (.bl b) H):=by
 exists 1,xs,us,Q,I,r,h;obtain⟨x,n,t,b,rfl,ty,e,q⟩:=h;obtain⟨u,w',rfl,ru,rw'⟩:=vals2 r;cases rw';rcases ty with ty | ⟨a,ys,rfl,hq,rfl⟩
 . exact zf I ru ty e λtk=>⟨.bl b,H,I.tok tk,rfl,q⟩
 . cases(show u=Value.ref a from ru);obtain⟨br,_,⟨o,h1,h2,_⟩,_⟩:=I.tuple (jF hq);exact ka PySem.W.kitx_tuple I.qK ⟨o,h1,h2⟩ e (λz=>nomatch z) λtk=>⟨.bl b,H,I.tok tk,rfl,q⟩
def PD (K:Frag)(neg:Bool):R2:=λx y H Q=>∃p xs,y=.ref p/\jd K H p=some xs/\l9 x=true/\xs.all l9=true/\Q (.bl (if neg=true then !EG x xs else EG x xs)) H
theorem EV:i8 X (compareOp .In) (PD X.K false):=by
 exists 1,x,y,v,u,Q,I,rx,ry,h;obtain⟨p,xs,rfl,hq,fx,fs,q⟩:=h;exact Js pins s σ H x _ v u Q I rx ry ⟨p,xs,rfl,qZ hq,fx,fs,q⟩
theorem zE:i8 X (compareOp .NotIn) (PD X.K true):=by
 exists 1,x,y,v,u,Q,I,rx,ry,h;obtain⟨p,xs,rfl,hq,fx,fs,q⟩:=h;exact AI pins s σ H x _ v u Q I rx ry ⟨p,xs,rfl,qZ hq,fx,fs,q⟩
def iX (K:Frag)(H:Hp):Prop:=∀b xs,j5 K b=some xs->H b=none
theorem zF {K:Frag}{a:Addr}(h:j5 K a=some xs):∃o,K.lookup a=some o:=by
 cases e:K.lookup a with
 | none=>rw[zD e]at h;cases h
 | some o=>exact⟨o,rfl⟩
theorem dR.mod {K:Frag}{k:Nat}(len:∀vs H Q E,sp vs H Q E->vs.length=ps.length)
   (F:dR P w K mg base CX k f fd ps (λvs H Q E=>sp vs H Q E/\iX K H)):dR P w K mg base CX k f fd ps sp:=
 ⟨len,λA outer s H args us vs Q E hr e0 hb r h=>F.run A outer s H args us vs Q E hr e0 hb r ⟨h,λb xs hk=>by
   obtain⟨o,e⟩:=zF hk;exact(e0.bs b o (e0.mod.OS b o e)).2⟩⟩
section
variable {K:Frag}
theorem bT.okM {st:Stmt}{N:List Str}{k:Nat}(F:bT K x qual st f fd)(S:eU N ps (aN st))(len:∀vs H Q E,sp vs H Q E->vs.length=ps.length)
   (ja:∀(eW:Value) (A:Around) (outer:List Env) (s:Shared) (H:Hp) (vs:List V) (Q:VK) (E:XK),dJ k (A.deeper (envOfC qual (aN st) s.heap.objs.size f eW))->iX K H->sp vs H Q E->
     ∃t,JB (qT pH P w K mg base N qual (aN st) f eW A outer s H E).OB (aj st) t/\t { nx:=λ_ H'=>Q .bS H',rt:=Q } (start N vs) H):dR P w K mg base pH (k + 1) f fd ps sp:=
 dR.mod len (F.okJ S (λvs H Q E h=>len vs H Q E h.1) λeW A outer s H vs Q E hr h=>ja eW A outer s H vs Q E hr h.2 h.1)
end
theorem iX.tup {K:Frag}{a:Addr}(m:iX K H)(h:j5 K a=some xs):tupQ K H a=some xs:=by
 unfold tupQ;rw[m a xs h];exact h
theorem iX.ext {K:Frag}(m:iX K H)(x:Ext K H H'):iX K H':=λb xs h=>x.mod b xs (m b xs h) h
def W8 (lo st:Int)(n:Nat):It:=⟨λi _=>i < n,λi H x H'=>H'=H/\x=.int (lo + i * st),λi _=>n<=i⟩
def W9 (ta:TA):TI:=λσ H R=>ta σ H λvs H1=>∃(i j c:Int) (n:Nat),vs=[.int i,.int j,.int c]/\c≠0/\c.natAbs < 1073741824/\Builtin.Range.small i j c=true/\Builtin.Range.rangeSize i j c=(n:Int)/\R (W8 i c n) H1
section
variable {K:Frag}{D:Ends}{lo stp:Int}
theorem zG:pD (W9 ta) g tb D σ H=ta σ H (λvs H1=>∃(i j c:Int) (n:Nat),vs=[.int i,.int j,.int c]/\c≠0/\c.natAbs < 1073741824/\Builtin.Range.small i j c=true/\Builtin.Range.rangeSize i j c=(n:Int)/\Loop (W8 i c n) g tb D σ H1):=rfl
end
def PJ (K:Frag):V->Option Int->Option Int->Hp->VK->Prop:=λx lo hi H Q=>∃a xs,x=.ref a/\aQ K H a xs/\∀p,L2.new K H p->Q (.ref p) (upd H p (.lst (ql xs lo hi)))
theorem m7:Zh X (PJ X.K):=by
 exists 1,x,v,vl,vu,lo,hi,sl,Q,I,rx,hs,pl,pu,h;obtain⟨a,xs,rfl,hx,q⟩:=h;cases rx;obtain⟨br,r,ht,hz⟩:=I.list hx;have hlen:=r.length;refine⟨"list",_,slot_list_getitem.lookup,ht.isList.typeIs,?_⟩;refine wpAny_getItem_list_slice ht.isList hs pl pu .none Y2 ?_ (by rw[da] <;> omega);rw[yu,<- hlen];refine⟨.ref s.heap.objs.size,_,I.laid (t':=s.toks) (o:=.lst (ql xs lo hi)) (λb ob q=>ae _ q) (ag _) ?_,rfl,q _ I.new⟩;exact⟨cw (uq xs lo hi) hz,_,0,(r.drop (HT.BZ xs.length 0 lo)).take (HT.BZ xs.length xs.length hi - HT.BZ xs.length 0 lo),cn _ rfl⟩
def Cy (K:Frag)(n:Nat)(t:BY):TG:=λv σ H Q=>∃a xs,v=.ref a/\tupQ K H a=some xs/\xs.length=n/\t xs σ H Q
theorem dF {k:Nat}{t:BY}(hc:X.calm=true)(h:Q8 X es t)(hn:(assignEach es X.env).length=n:=by rfl)(Az:(assignEach es X.env).findIdx? (·.1)=none:=by rfl):JG X (.Tuple es k pos) (Cy X.K n t):=
 ⟨λpins s σ H v u Q I r ⟨a,xs,e,h1,h2,h3⟩=>Tg hc h.h hn Az pins s σ H v u Q I r ⟨a,xs,e,jF h1,h2,h3⟩⟩
theorem bw {c:Prop}[Decidable c]{a b:Prop}(h:c)(x:a):if c then a else b:=by rw[Hk h];exact x
theorem aK {c:Prop}[Decidable c]{a b:Prop}(h:¬ c)(x:b):if c then a else b:=by rw[He h];exact x
theorem PL {K:Frag}{a:Addr}{d:Option Addr}{br:Array Value}{k:Nat}(h:K.lookup a=some ⟨.type "tuple",d,.seq br k,sl⟩)(hz:br.size<=1000)(e:br.toList.mapM Eo=some xs):j5 K a=some xs:=by
 unfold j5;rw[h];simp only[QP];rw[Hk (Mf hz)];exact e
theorem sZ (xs:List V)(k:Nat):ql xs (some (k:Int)) none=xs.drop k:=by
 unfold ql;rw[HT.LJ,HT.Ph]
 by_cases h:k<=xs.length
 . rw[Nat.min_eq_left h,pE (by rw[km];exact ag _)]
 . rw[Nat.min_eq_right X2,List.drop_of_length_le (ag _),List.drop_of_length_le X2];simp
theorem Ext.at {K:Frag}{a:Addr}(x:Ext K H H')(h:H a=some o):H' a=some o:=x.same _ _ h
structure pO (K:Frag)(p q:Addr)(H H':Hp):Prop where
 keep:∀r o,H r=some o->r≠p->r≠q->H' r=some o
 mod:∀a xs,H a=none->j5 K a=some xs->H' a=none
section
variable {K:Frag}{o':HO}
theorem Kp.l (x:Kp K p H H'):pO K p q H H':=⟨λr o h n _=>x.keep r o h n,x.mod⟩
theorem Kp.r (x:Kp K q H H'):pO K p q H H':=⟨λr o h _ n=>x.keep r o h n,x.mod⟩
theorem Ext.Xa (x:Ext K H H'):pO K p q H H':=⟨λr o h _ _=>x.same r o h,x.mod⟩
theorem pO.trans (x:pO K p q H H1)(y:pO K p q H1 H2):pO K p q H H2:=⟨λr o h n m=>y.keep r o (x.keep r o h n m) n m,λa xs h k=>y.mod a xs (x.mod a xs h k) k⟩
theorem pO.ext (x:pO K p q (L2.upd (L2.upd H p o) q o') H')(hp:L2.new K H p)(hq:L2.new K (L2.upd H p o) q):Ext K H H':=by
 have y:Ext K H (L2.upd (L2.upd H p o) q o'):=(Ext.new hp).trans (Ext.new hq);refine⟨λb u e=>?_,λb ys e k=>x.mod b ys (y.mod b ys e k) k⟩;have n:b≠p:=ay e hp.1;have m:b≠q:=ay ((Ext.new hp).at e) hq.1;exact x.keep b u (y.at e) n m
end
def iD (env:Env):List (Str×NameKind)->List (Str×Addr)->List (Str×Addr)
 | [],cs=>cs
 | (n,k)::r,cs=>iD env r (if (k==NameKind.free)=true then (match env.cells.lookup n with | some a=>(n,a)::cs | none=>cs) else cs)
theorem ie (h:∀x∈scope.names,x.2=.free->∃c,env.cells.lookup x.1=some c):closureFor scope env=pure (iD env scope.names []):=by
 unfold closureFor;generalize scope.names=names at h ⊢;generalize([]:List (Str×Addr))=cs;induction names generalizing cs with
 | nil=>rfl
 | cons x r ih=>
   obtain⟨n,k⟩:=x;have ih':=λcs=>ih (cs:=cs) λx hx=>h x (bc _ hx);simp only[List.forIn_cons];cases hk:(k==NameKind.free) with
   | false=>
     simp only[iD,hk];exact ih' cs
   | true=>
     obtain⟨c,hc⟩:=h (n,k) (cb) (by simpa using hk);simp only[iD,hk,hc,cellOf];exact ih' _
theorem zH {env:Env}:∀{names:List (Str×NameKind)}{cs:List (Str×Addr)}{n:Str}{c:Addr},(n,c)∈iD env names cs->(n,c)∈cs∨env.cells.lookup n=some c
 | [],cs,n,c,h=>.inl h
 | (m,k)::r,cs,n,c,h=>by
   rw[iD]at h;rcases zH h with h | h
   . split at h
     . split at h
       . next a e=>
         rcases List.mem_cons.mp h with z | z
         . cases z;exact .inr e
         . exact .inl z
       . exact .inl h
     . exact .inl h
   . exact .inr h
theorem zI {env:Env}:∀{names:List (Str×NameKind)}{cs:List (Str×Addr)}{p:Str×Addr},p∈cs->p∈iD env names cs
 | [],cs,p,h=>h
 | (m,k)::r,cs,p,h=>by
   rw[iD];refine zI ?_;split
   . split
     . exact bc _ h
     . exact h
   . exact h
theorem zJ {env:Env}:∀{names:List (Str×NameKind)}{cs:List (Str×Addr)}{n:Str}{c:Addr},(n,NameKind.free)∈names->env.cells.lookup n=some c->(n,c)∈iD env names cs
 | (m,k)::r,cs,n,c,h,e=>by
   rw[iD];rcases List.mem_cons.mp h with z | z
   . cases z;rw[Hk Y1,e];exact zI cb
   . exact zJ z e
theorem lookup_mem {α:Type}:∀{l:List (Str×α)}{n:Str}{c:α},l.lookup n=some c->(n,c)∈l
 | (m,d)::r,n,c,h=>by
   rw[List.lookup_cons]at h;cases e:n==m with
   | true=>
     rw[e]at h;cases h;rw[eq_of_beq e];exact cb
   | false=>
     rw[e]at h;exact bc _ (lookup_mem h)
theorem mem_lookup {α:Type}:∀{l:List (Str×α)}{n:Str}{c:α},(n,c)∈l->∃d,l.lookup n=some d
 | (m,d)::r,n,c,h=>by
   rw[List.lookup_cons];cases e:n==m with
   | true=>exact⟨d,rfl⟩
   | false=>
     rcases List.mem_cons.mp h with z | z
     . cases z;rw[Hn]at e;cases e
     . exact mem_lookup z
theorem fB {names:List (Str×NameKind)}{n:Str}{c:Addr}(h:(iD env names []).lookup n=some c):env.cells.lookup n=some c:=by
 rcases zH (lookup_mem h)with z | z
 . cases z
 . exact z
theorem Cz {names:List (Str×NameKind)}{n:Str}{c:Addr}(h:(n,NameKind.free)∈names)(e:env.cells.lookup n=some c):(iD env names []).lookup n=some c:=by
 obtain⟨d,hd⟩:=mem_lookup (zJ (cs:=[]) h e);rw[hd];exact(fB hd).symm.trans e ▸ rfl
theorem rq {env:Env}:∀{names:List (Str×NameKind)}{x:Str},names.lookup x=some .free->
   (names.map λ(n,k)=>if 'u' then (n,NameKind.cell) else (n,k)).lookup x=some .cell∨
   (names.map λ(n,k)=>if 'u' then (n,NameKind.cell) else (n,k)).lookup x=some .free
 | [],_,h=>by simp at h
 | (n,k)::r,x,h=>by
   have ih:=@rq env r x;show List.lookup x ((if 'u'=true then (n,NameKind.cell) else (n,k))::_)=_∨List.lookup x ((if 'u'=true then (n,NameKind.cell) else (n,k))::_)=_;cases hx:x==n with
   | true=>
     simp only[List.lookup_cons,hx]at h;cases h;split
     . simp[List.lookup_cons,hx]
     . simp[List.lookup_cons,hx]
   | false=>
     simp only[List.lookup_cons,hx]at h;split
     . simp only[List.lookup_cons,hx];exact ih h
     . simp only[List.lookup_cons,hx];exact ih h
theorem m8 {env:Env}:∀{names:List (Str×NameKind)}{x:Str}{kk:NameKind},(∀y∈names,y.2≠.cell)->
   (names.map λ(n,k)=>if 'u' then (n,NameKind.cell) else (n,k)).lookup x=some kk->kk=.cell∨kk=.free->(x,NameKind.free)∈names
 | [],_,_,_,h,_=>by simp at h
 | (n,k)::r,x,kk,hc,h,hk=>by
   have ih:=@m8 env r x kk λy hy=>hc y (bc _ hy);change List.lookup x ((if 'u'=true then (n,NameKind.cell) else (n,k))::_)=_ at h;cases hx:x==n with
   | true=>
     have e:=eq_of_beq hx;subst e;split at h
     . next q=>
       simp only[cp,SU]at q;rw[q.1.1];exact cb
     . simp only[List.lookup_cons,hx]at h;cases h;rcases hk with z | z
       . exact absurd z (hc _ cb)
       . rw[z];exact cb
   | false=>
     refine bc _ (ih ?_ hk);split at h
     . simp only[List.lookup_cons,hx]at h;exact h
     . simp only[List.lookup_cons,hx]at h;exact h
def Cx.comp (X:Cx)(N:List Str)(scope:Scope)(C:Addr)(s:Shared)(H:Hp)(fp:List Addr):Cx:=
 { X with N:=N,s₀:=s,H₀:=H,env:=compEnvC scope (iD X.env scope.names []) C X.env,outer:=X.stack,ex:=fp,fn:=λ_=>false,pn:=[],xe:=λ_ _=>False }
def pick (σ:St)(src:List (Option Nat)):St:=src.map λo=>match o with | none=>none | some j=>(σ[j]?).join
def vW (NX:List Str)(Zm sc:Scope)(N:List Str)(src:List (Option Nat)):Bool:=
 sc.names.all (λx=>x.2 !=.cell)&&sc.names.all (λx=>x.2 !=.local||sc.names.lookup x.1==some .local)&&
 sc.names.all (λx=>x.2 !=.free||(Zm.names.lookup x.1==some .cell||Zm.names.lookup x.1==some .free))&&N.length==src.length&&
 (N.zip src).all (λp=>match p.2 with | none=>true | some j=>NX[j]?==some p.1&&(Zm.names.lookup p.1==some .cell||Zm.names.lookup p.1==some .free)&&sc.names.lookup p.1==some .free)
structure AU (X:Cx)(sc:Scope)(N:List Str)(src:List (Option Nat)):Prop where
 kind:sc.kind=.function
 ok:vW X.N X.env.scope sc N src=true
section
variable {N:List Str}
theorem AU.cell (c:AU X sc N src):∀y∈sc.names,y.2≠.cell:=λy hy=>by
 have h:=c.ok;simp only[vW,cp,eP]at h;simpa using h.1.1.1.1 y hy
theorem AU.names (c:AU X sc N src):∀y∈sc.names,y.2=.local->sc.names.lookup y.1=some .local:=λy hy e=>by
 have h:=c.ok;simp only[vW,cp,eP]at h;have q:=h.1.1.1.2 y hy;rw[e]at q;simpa using q
theorem AU.free (c:AU X sc N src)(hx:(x,NameKind.free)∈sc.names):X.env.kindOf x=some .cell∨X.env.kindOf x=some .free:=by
 have h:=c.ok;simp only[vW,cp,eP]at h;have q:=h.1.1.2 _ hx;simpa[Env.kindOf] using q
theorem AU.len (c:AU X sc N src):N.length=src.length:=by
 have h:=c.ok;simp only[vW,cp,eP]at h;simpa using h.1.2
theorem AU.at_ (c:AU X sc N src)(h1:N[i]?=some x)(h2:src[i]?=some (some j)):X.N[j]?=some x/\(X.env.kindOf x=some .cell∨X.env.kindOf x=some .free)/\sc.names.lookup x=some .free:=by
 have h:=c.ok;simp only[vW,cp,eP]at h;have m:(x,some j)∈N.zip src:=by
   refine bb (i:=i) ?_;rw[dr];exact⟨h1,h2⟩
 have q:=h.2 _ m;simp only[cp,Bool.or_eq_true,SU]at q;exact⟨q.1.1,q.1.2,q.2⟩
theorem JH {v:V}(h:(pick σ src)[i]?=some (some v)):∃j,src[i]?=some (some j)/\σ[j]?=some (some v):=by
 unfold pick at h;rw[ax]at h;cases e:src[i]? with
 | none=>rw[e]at h;cases h
 | some o=>
   rw[e]at h;cases o with
   | none=>simp at h
   | some j=>
     refine⟨j,rfl,?_⟩;simp only[Option.map_some,Option.some.injEq]at h;cases e2:σ[j]? with
     | none=>rw[e2]at h;cases h
     | some w=>
       rw[e2]at h;simp only[Option.join]at h;exact congrArg some h
theorem Cx.Ok.comp (I:Inv X pins σ H s)(c:AU X sc N src)(hf:∀b∈fp,mR X pins H b)(ho:∀b∈fp,∃o,s.heap.get? b=some o)(hC:s.heap.objs.size<=C):'e'.Ok where
 mod:=I.ok.mod
 kind:=c.kind
 glob:=I.ok.glob
 blt:=I.ok.blt
 above:=hC
 inj:=λx y a h h'=>I.ok.inj x y a (fB h) (fB h')
 has:=λx h=>by
   have m:(x,NameKind.free)∈sc.names:=by
     rcases h with h | h
     . exact m8 c.cell h (.inl rfl)
     . exact m8 c.cell h (.inr rfl)
   obtain⟨a,ha⟩:=I.ok.has x (c.free m);exact⟨a,Cz m ha⟩
 Vu:=λ_ _ h=>nomatch h
 hd:=I.ok.hd
 frames:=I.ok.frames
 Ww:=.inl rfl
 exf:=λb hb=>by
   obtain⟨o,e⟩:=ho b hb;exact⟨cv (cm (ba e) hC),λx a h=>(hf b hb).2.2.2.2.1 x a (fB h)⟩
 bs:=I.bs
 Oz:=cw I.ok.Oz I.sz
 Jd:=λb o e hb=>by
   rcases(hf b hb).2.2.2.1 with z | z
   . exact I.ok.Jd b o e z
   . exact absurd (cm (ba e) (cw I.ok.Oz z)) (hU _)
 Lh:=λb hb z=>by
   rcases List.mem_cons.mp (I.vA b z)with q | q
   . exact(hf b hb).2.1 q
   . exact(hf b hb).2.2.1 q
 sP:=I.stack
 QV:=I.Gn
theorem Inv.block {h1:Heap}(I:Inv X pins σ H s)(c:AU X sc N src)(hf:∀b∈fp,mR X pins H b)(ho:∀b∈fp,∃o,s.heap.get? b=some o)
   (hD:s.heap.objs.size<=D) (hC:s.heap.objs.size<=C) (Uk:D≠C) (k:∀b u,s.heap.get? b=some u->h1.get? b=some u) (hn:h1.Ns C λ_=>none) (new:cW X.prog X.w 'l' h1 D (.lst [])):
   Inv 'e' [] (pick σ src) 'l' { s with heap:=h1,toks:=t' } where
 ok:=Cx.Ok.comp I c hf ho hC
 os:=rfl
 bare:=I.bare
 base:=Un.laid k hD (I.dB.fresh hD)
 loc:=by
   refine⟨_,hn,λi x v e1 e2 e3=>?_⟩;obtain⟨j,ej,es⟩:=JH e2;obtain⟨n1,n2,n3⟩:=c.at_ e1 ej;obtain⟨m,_,hl⟩:=I.loc;have vis:Vt X.env.scope x:=n2.elim (λz=>.inr (.inl z)) λz=>.inr (.inr z);obtain⟨u,r,q⟩:=hl j x v n1 es vis;refine⟨u,r,.inr ⟨rq n3,?_⟩⟩;rcases q with ⟨z,_⟩ | ⟨_,a,ha,z⟩
   . rcases n2 with n2 | n2 <;> rw[n2]at z <;> cases z
   . obtain⟨o,e,d⟩:=z;exact⟨a,Cz (lookup_mem n3) ha,o,k _ _ e,d⟩
 cell:=λx a e=>by
   obtain⟨v,o,e,d⟩:=I.cell x a (fB e);exact⟨v,o,k _ _ e,d⟩
 free:=by
   show upd H D (.lst []) C=none;rw[au Uk.symm];exact I.dB.fresh hC
 l7:=λx a e=>by
   obtain⟨v,o,e',d⟩:=I.cell x a (fB e);rw[au (cv (cm (ba e') hD))];exact I.l7 x a (fB e)
 pin:=λp hp=>nomatch hp
 dB:=I.dB.laid k hD new
 len:=by
   show(pick σ src).length=N.length;rw[c.len,pick,ab]
theorem Inv.u7 {σ':St}(I:Inv X pins σ H s)(hf:∀b∈fp,mR X pins H b)(hC:s.heap.objs.size<=C)
   (J:Inv 'e' [] σ' H' s') (hs:∀b,b≠C->h'.get? b=s'.heap.get? b):Inv X pins σ H' { s' with heap:=h' }:=by
 have ne:∀b o,s.heap.get? b=some o->b≠C:=λb o e=>cv (cm (ba e) hC);have u:Un (D6 X.stack) fp H H' s.heap s'.heap:=J.base;have u':Un (D6 X.stack) fp H H' s.heap h':=⟨λb o e n a x=>(hs b (ne b o e)).trans (u.keep b o e n a x),λb o e n a x=>by
     obtain⟨sl,q⟩:=u.slot b o e n a x;exact⟨sl,(hs b (ne b o e)).trans q⟩,u.free,λb o e x=>by
     obtain⟨o',q⟩:=u.there b o e x;exact⟨o',(hs b (ne b o e)).trans q⟩,u.uL,u.sO,u.uM⟩
 refine I.Wz (s':={ s' with heap:=h' }) J.os u' (λb ob e=>?_) J.bare λb hb=>⟨(hf b hb).2.2.2.1,(hf b hb).2.1,(hf b hb).2.2.2.2.1,(hf b hb).2.2.2.2.2⟩
 have fr:H' C=none:=J.free;refine(J.dB b ob e).qh (λa w' ha q=>(hs a ?_).trans q) (λ_ q=>q) λ_ _ q=>q;rintro rfl;rcases ha with rfl | ha
 . rw[fr]at e;cases e
 . rw[fr]at ha;cases ha
end
abbrev F0:Value->Shared->Prop:=λ_ _=>False
theorem AV {target:Expr}{it acc:Value}(I:Nat->Shared->Prop)
   (turn:∀n s,I n s->wpAny 'g' A (pyNext it) (λr s₁=>match r with
     | none=>R (.ok .next) s₁
     | some v=>wpAny 'g' A (letOwnedTupleGo target it v) (λ_ s₁'=>wpAny 'g' A (assign target env v) (λ_ s₂=>
         wpAny 'g' A (forIn ifs true λc r=>if r=true then do let ok <- isTrue c env (eval c env);pure (ForInStep.yield ok) else pure (ForInStep.yield r)) (λok s₃=>
           if ok=true then wpAny 'g' A (eval elt env) (λx s₄=>
             wpAny 'g' A (call (.builtin "list.append") [acc,x]) (λ_ s₅=>∃m,m < n/\I m s₅) F0 s₄) F0 s₃
           else ∃m,m < n/\I m s₃) F0 s₂) F0 s₁') F0 s₁) F0 s)
   (n:Nat) (h:I n s):
   codeAny 'g' A (.compLoop (.ListComp elt [⟨target,iter,ifs,0⟩] scope pos) 0 it acc env) R s:=by
 refine codeAny_loop rfl I (λn s hI=>?_) n h;show wpAny _ A ((compTurn (.ListComp elt [⟨target,iter,ifs,0⟩] scope pos) 0 it acc env).onRaise (λx=>do noteFrame x env;theTreesLotGoes x)) _ _ s;refine wpAny_noted ?_;rw[compTurn_list];refine Hc (Md (Hc (HI (turn n s hI) (λr s₁ h₁=>?_) λ_ _ h'=>h'.elim)));cases r with
 | none=>exact Hd h₁
 | some v=>
   refine Hc (HI h₁ (λ_ s₁' h₁'=>?_) λ_ _ h'=>h'.elim);refine Hc (HI h₁' (λ_ s₂ h₂=>Hc (HI h₂ (λok s₃ h₃=>?_) λ_ _ h'=>h'.elim)) λ_ _ h'=>h'.elim);cases ok with
   | false=>exact Hd ⟨rfl,h₃⟩
   | true=>
     exact Hc (Hc (HI h₃ (λx s₄ h₄=>Hc (HI h₄ (λ_ s₅ h₅=>Hd (Hd ⟨rfl,h₅⟩)) λ_ _ h'=>h'.elim)) λ_ _ h'=>h'.elim))
def PF (X:Cx)(ifs:List Expr)(t:TT):Prop:=
 ∀(pins:List (Addr×Obj)) (s:Shared) (σ:St) (H:Hp) (Q:Bool->Hp->Prop),Inv X pins σ H s->t σ H Q->
   wpAny 'c' X.A (forIn ifs true λc r=>if r=true then do let ok <- isTrue c X.env (eval c X.env);pure (ForInStep.yield ok) else pure (ForInStep.yield r)) (TP X pins σ Q) X.xe s
structure JF (X:Cx)(ifs:List Expr)(t:TT):Prop where h:PF X ifs t
def pI:TT:=λ_ H Q=>Q true H
theorem cT :JF X [] pI:=⟨λ_ _ _ H _ I h=>wpAny_tests_nil ⟨H,I,h⟩⟩
theorem yv {c:Expr}{t:TT}(h:JT X c t):JF X [c] t:=⟨λpins s σ H Q I q=>wpAny_tests_one (h.h pins s σ H Q I q)⟩
def b7 (J:It)(g:TG)(tt:TT)(te:TE)(D:Addr)(Q:Hp->Prop)(σ:St)(H:Hp):Prop:=∃W:Nat->Nat->List V->St->Hp->Prop,(∃m,W 0 m [] σ H)/\∀i m acc σ H,W i m acc σ H->
 (J.stop i H/\Q H)∨(J.go i H/\∃N:List V->St->Hp->Prop,(∀acc' σ' H',N acc' σ' H'->∃m',m' < m/\W (i + 1) m' acc' σ' H')/\∀x H',J.OC i H x H'->g x σ H' λσ2 H2=>tt σ2 H2 λb H3=>
   if b=true then te σ2 H3 λv H4=>H4 D=some (.lst acc)/\acc.length < sizeLine/\N (acc++[v]) σ2 (upd H4 D (.lst (acc++[v])))
   else N acc σ2 H3)
def JJ (K:Frag)(wi:TI)(src:List (Option Nat))(g:TG)(tt:TT)(te:TE):TE:=λσ H Q=>wi σ H λJ H1=>∀D,L2.new K H1 D->b7 J g tt te D (λH'=>Q (.ref D) H') (pick σ src) (upd H1 D (.lst []))
section
variable {N:List Str}{tt:TT}
theorem CA {R:Value->Addr->Result->Shared->Prop}(c:AU X sc N src)(hc:X.calm=true)
   (hg:∀C s H fp,JG 'e' tg g) (ht:∀C s H fp,JF 'e' ifs tt) (he:∀C s H fp,JE 'e' elt te)
   {Q:V->Hp->Prop}(I:Inv X pins σ H s) (T:Turn X.prog X.w X.K tg J fp it tn) (st:tn 0 s.heap) (hf:∀b∈fp,mR X pins H b)
   (h:∀D,L2.new X.K H D->b7 J g tt te D (λH'=>Q (.ref D) H') (pick σ src) 'l')
   (hR:∀D C s' σ' H',s.heap.objs.size<=C->Inv 'e' [] σ' H' s'->Q (.ref D) H'->R (.ref D) C (.ok .next) s'):
   wpAny 'c' X.A (newList []) (λacc s₃=>wpAny 'c' X.A (newFunctionEnv sc X.env.globals (iD X.env sc.names []) [] X.env.qual none .none (some X.env)) (λcenv s₄=>
     codeAny 'c' X.A (.compStart (.ListComp elt [⟨tg,iter,ifs,0⟩] sc pos) 0 (.ref it) acc { cenv with scope:=relabel sc X.env }) (R acc cenv.locals) s₄) E s₃) E s:=by
 refine P2 (wpAny_newFunctionEnv c.cell (by intro y hy;simp at hy) (λh₁ hns₁ hsb₁=>?_) c.kind);dsimp only at hns₁ hsb₁ ⊢;generalize hH2:s.heap.push { cls:=.type "list",dict:=none,data:=.seq ([]:List Value).toArray }=H2 at hns₁ hsb₁ ⊢;have hC:H2.objs.size=s.heap.objs.size + 1:=by rw[<- hH2,eQ]
 have Uk:s.heap.objs.size≠H2.objs.size:=by rw[hC];exact cv (kf _)
 have Mn:s.heap.objs.size<=H2.objs.size:=by rw[hC];exact Nat.le_succ _
 have below:∀b,b < s.heap.objs.size->b≠H2.objs.size:=λb hb=>by rw[hC];exact cv (i4 hb)
 have old:∀b o,s.heap.get? b=some o->h₁.get? b=some o:=λb o e=>hsb₁.extBut b o (below b (ba e)) (ae _ (hH2 ▸ ae _ e));have Ul:h₁.get? s.heap.objs.size=some { cls:=.type "list",dict:=none,data:=.seq ([]:List Value).toArray }:=hsb₁.extBut _ _ Uk (ae _ (hH2 ▸ cn _ rfl));have ho:∀b∈fp,∃o,s.heap.get? b=some o:=λb hb=>let ⟨o,e,_⟩:=T.obj _ _ st b hb;⟨o,e⟩;have I0:=I.block (t':=s.toks + ([]:List (Str×Value)).length) c hf ho (ag _) Mn Uk old hns₁ ⟨gs _,[],0,.nil,Ul⟩;have Xb:tn 0 h₁:=T.keep _ _ _ st λb hb o e=>old b o e;obtain⟨W,⟨m0,w0⟩,turn⟩:=h _ I.new;have qi:∀{H':Hp},(∀b∈fp,H' b=none)->∀b∈fp,mR 'w' [] H' b:=λhn b hb=>by
   obtain⟨f0,f1,f2,f3,f4,f5⟩:=hf b hb;obtain⟨o,e⟩:=ho b hb;refine⟨hn b hb,below b (ba e),λz=>?_,.inl hb,λx a q=>f4 x a (fB q),λp hp=>nomatch hp⟩;rcases List.mem_cons.mp (I.vA b z)with q | q
   . exact f1 q
   . exact f2 q
 have fr0:∀b∈fp,(upd H s.heap.objs.size (.lst [])) b=none:=λb hb=>by
   obtain⟨o,e⟩:=ho b hb;rw[au (cv (ba e))];exact(hf b hb).1
 have loop:∀s₃:Shared,s₃={ s with heap:=h₁,toks:=s.toks + ([]:List (Str×Value)).length }->
     codeAny 'c' X.A (.compLoop (.ListComp elt [⟨tg,iter,ifs,0⟩] sc pos) 0 (.ref it) 'i' (compEnvC sc (iD X.env sc.names []) H2.objs.size X.env)) (R 'i' H2.objs.size) s₃:=by
   rintro s₃ rfl;refine AV (λn s'=>∃i acc σ' H',Inv 'w' [] σ' H' s'/\tn i s'.heap/\(∀b∈fp,H' b=none)/\W i n acc σ' H') ?_ m0 ⟨0,_,_,_,I0,Xb,fr0,w0⟩;rintro n s3 ⟨i,acc,σ3,H3,I3,st3,fr3,w3⟩;rcases turn i n acc σ3 H3 w3 with ⟨stop,qn⟩ | ⟨go,NN,hNN,step⟩
   . refine bH (T.done 'w' rfl rfl rfl hc i [] s3 σ3 H3 F0 I3 (qi fr3) st3 stop) λr s4=>?_;rintro⟨hr,I4⟩;subst hr;exact hR _ _ _ _ _ Mn I4 qn
   . refine bH (T.item 'w' rfl rfl rfl hc i [] s3 σ3 H3 F0 I3 (qi fr3) st3 go) λr s4=>?_;rintro⟨u,hr,h4⟩;subst hr;refine bH h4 λ_ s5=>?_;rintro⟨x,H5,I5,r5,y5,st5,fr5⟩;have Tt:=I5.pinned (qi fr5) (T.obj _ _ st5);refine bH ((hg _ _ _ _).h _ s5 σ3 H5 x u _ Tt r5 (step x H5 y5)) λ_ s6=>?_;rintro⟨σ6,H6,I6,q6⟩;refine bH ((ht _ _ _ _).h _ s6 σ6 H6 _ I6 q6) λb s7=>?_;rintro⟨H7,I7,q7⟩;have again:∀{vX:List V}{s8:Shared}{H8:Hp},Inv 'w' ([]++mS fp s5.heap) σ6 H8 s8->NN vX σ6 H8->∃m,m < n/\∃i acc σ' H',Inv 'w' [] σ' H' s8/\tn i s8.heap/\(∀b∈fp,H' b=none)/\W i m acc σ' H':=λ{vX s8 H8} I8 w=>by
       obtain⟨m',hm,w8⟩:=hNN _ _ _ w;refine⟨m',hm,i + 1,vX,σ6,H8,I8.iA,T.keep _ _ _ st5 λb hb o e=>(I8.pin (b,o) (cf _ (cf _ (fh hb e)))).1,λb hb=>?_,w8⟩;obtain⟨o,e,d⟩:=T.obj _ _ st5 b hb;exact(I8.pin (b,o) (cf _ (cf _ (fh hb e)))).2.1
     cases b with
     | false=>exact again I7 q7
     | true=>
       refine bH ((he _ _ _ _).h _ s7 σ6 H7 _ I7 q7) λy s8=>?_;rintro⟨v,H8,I8,r8,q8⟩;obtain⟨hx,hz,w8⟩:=q8;refine bH (fz (X:=X.comp N sc H2.objs.size s H fp) _ s8 σ6 H8 'i' [v] 'i' [y] (λ_ H9=>H9=upd H8 s.heap.objs.size (.lst (acc++[v]))) I8 rfl (.cons r8 .nil) ⟨_,acc,v,rfl,rfl,hx,hz,rfl⟩) λ_ s9=>?_;rintro⟨_,H9,I9,_,q9⟩;subst q9;exact again I9 w8
 exact codeAny_compStart_list (loop _ rfl) (T.self _ 0 _ _ _ Xb (loop _ rfl))
theorem pP (c:AU X sc N src)(hc:X.calm=true)(hi:JI X tg iter wi)
   (hg:∀C s H fp,JG 'e' tg g) (ht:∀C s H fp,JF 'e' ifs tt) (he:∀C s H fp,JE 'e' elt te)
   (hs:∀x,foldedSetIterable iter X.env x=pure x:=by intro _;rfl):JE X (.ListComp elt [⟨tg,iter,ifs,0⟩] sc pos) (JJ X.K wi src g tt te):=⟨by
 exists 1,Q,I,h;rw[eval_ListComp];refine Qr (use:=none) rfl hs (ie λx hx hk=>?_) c.kind c.names ?_
 . obtain⟨n,k⟩:=x;cases hk;exact I.ok.has _ (c.free hx)
 refine bH (hi.h pins s σ H _ I h) λv s1 h1=>bH h1 λTo s2 h2=>?_;obtain⟨it,fp,tn,J,H2,e,I2,T,st2,f2,h2⟩:=h2;subst e;refine CA (R:=λacc C=>compPost 'c' X.A X.xe none (EP X pins σ Q) acc C) (Q:=Q) c hc hg ht he I2 T st2 f2 h2 λD C s' σ' H' hC I' q=>?_;obtain⟨m,hn,_⟩:=id I'.loc;refine⟨m,hn,λh' sb=>?_⟩;exact⟨.ref D,H',I2.u7 f2 hC I' λb hb=>sb.2 b hb,rfl,q⟩⟩
theorem Zn {py Mp:Pos}(hN:X.N.Nodup)(hy:X.N[i]?=some y)(hx:Loc X.env.scope y)(c:AU X sc N src)(hc:X.calm=true)(hi:JI X tg iter wi)
   (hg:∀C s H fp,JG 'e' tg g) (ht:∀C s H fp,JF 'e' ifs tt) (he:∀C s H fp,JE 'e' elt te)
   (hsw:swapsWith (.ListComp elt [⟨tg,iter,ifs,0⟩] sc pos) (some (.Name y py)) Mp.line X.env=pure true:=by rfl)
   (hf:X.fn y=true∨X.env.scope.names.lookup y=some .local:=by first | exact .inl rfl | exact .inr rfl | assumption)
   (hs:∀x,foldedSetIterable iter X.env x=pure x:=by intro _;rfl):JS X (.Assign [.Name y py] (.ListComp elt [⟨tg,iter,ifs,0⟩] sc pos) Mp) (AA (JJ X.K wi src g tt te) (bI i)):=⟨by
 exists 1,D,I,h;rw[exec_Assign_Name_used _ _ _ _ hsw];refine Hc (Md (Hc ?_));show wpAny _ X.A (do let _ <- comprehension (.ListComp elt [⟨tg,iter,ifs,0⟩] sc pos) sc X.env _ (newList []) false (eval iter X.env) (some (assign (.Name y py) X.env))) _ _ s;refine Hc (HI (Qr (use:=some (assign (.Name y py) X.env)) (Q:=λ_ s'=>SP X pins D .next s') rfl hs (ie λx hx hk=>?_) c.kind c.names ?_) (λ_ s' hq=>Hd (Hd hq)) λ_ _ e=>e)
 . obtain⟨n,k⟩:=x;cases hk;exact I.ok.has _ (c.free hx)
 refine bH (hi.h pins s σ H _ I h) λv s1 h1=>bH h1 λTo s2 h2=>?_;obtain⟨it,fp,tn,J,H2,e,I2,T,st2,f2,h2⟩:=h2;subst e;refine CA (R:=λacc C=>compPost 'c' X.A X.xe (some (assign (.Name y py) X.env)) (λ_ s'=>SP X pins D .next s') acc C) (Q:=λv H'=>D.nx (σ.set i (some v)) H') c hc hg ht he I2 T st2 f2 h2 λL C s' σ' H' hC I' q=>?_;obtain⟨m,hn,_⟩:=id I'.loc;obtain⟨o,es,ep,ho,r⟩:=id hn;have I3:Inv X pins σ H' s':=I2.u7 (h':=s'.heap) f2 hC I' λ_ _=>rfl;have cL:C≠X.env.locals:=fI (cm I2.lt hC);have cC:∀x a,X.env.cells.lookup x=some a->a≠C:=λx a e=>by
   obtain⟨v,o,e',_⟩:=I2.cell x a e;exact cv (cm (ba e') hC)
 have cP:∀p∈X.pn++pins,p.1≠C:=λp hp=>cv (cm (ba (I2.pin p hp).1) hC);have fr:H' C=none:=I'.free;have I4:Inv X (pins++[(C,o)]) σ H' s':=I3.uX λp hp=>(de.mp hp).elim (λz=>I3.pin p (cf _ z)) λz=>by
   have e:p=(C,o):=by simpa using z
   subst e;exact⟨ho,fr,cL,I2.SS hC,λv z=>by
     have r1:=r
     simp_all⟩
 show wpAny 'c' X.A (assign (.Name y py) X.env (.ref L)) _ _ s';refine bH (Ay (pos:=py) hN hy hx hf _ s' σ H' (.ref L) (.ref L) (λσ1 H1=>D.nx σ1 H1/\H1=H') I4 rfl ⟨q,rfl⟩) λ_ s5=>?_;rintro⟨σ5,H5,I5,q5,e5⟩;subst e5;have pC:=(I5.pin (C,o) (cf _ (cf _ Y2))).1;refine⟨m,⟨o,es,ep,pC,r⟩,λh' sb=>?_⟩;exact⟨σ5,H5,I5.iA.turned (t':=s5.toks) (λb u hb e=>(sb.2 b hb).trans e) fr cL (.inr (cw I2.sz hC)) cC cP,q5⟩⟩
end
theorem CB :pick σ []=[]:=rfl
theorem CC {r:List (Option Nat)}:pick σ (none::r)=none::pick σ r:=rfl
theorem CD {r:List (Option Nat)}:pick σ (some j::r)=(σ[j]?).join::pick σ r:=rfl
theorem join_some {o:Option α}:(some o).join=o:=rfl
section
variable {K:Frag}{tt:TT}{a:Addr}{Q:Hp->Prop}{lo:Int}
theorem vY (Pv:Nat->List V->St->Hp->Prop)(h0:Pv 0 [] σ H)(hgo:∀i acc σ H,i < n->Pv i acc σ H->J.go i H)(Az:∀acc σ H,Pv n acc σ H->J.stop n H)
   (hs:∀i acc σ H x H',i < n->Pv i acc σ H->J.OC i H x H'->g x σ H' λσ2 H2=>tt σ2 H2 λb H3=>if b=true then te σ2 H3 λv H4=>H4 D=some (.lst acc)/\acc.length < sizeLine/\Pv (i + 1) (acc++[v]) σ2 (upd H4 D (.lst (acc++[v]))) else Pv (i + 1) acc σ2 H3)
   (hd:∀acc σ H,Pv n acc σ H->Q H):b7 J g tt te D Q σ H:=by
 refine⟨λi m acc σ H=>Pv i acc σ H/\i<=n/\m=n - i,⟨n,h0,gs _,by omega⟩,λi m acc σ H ⟨h,hi,hm⟩=>?_⟩
 by_cases c:i < n
 . right
   exact⟨hgo i acc σ H c h,Pv (i + 1),λacc' σ' H' q=>⟨n - (i + 1),by omega,q,by omega,rfl⟩,λx H' hy=>hs i acc σ H x H' c h hy⟩
 . left
   have e:i=n:=X2
   subst e;exact⟨Az acc σ H h,hd acc σ H h⟩
theorem nc (Pv:Nat->List V->St->Hp->Prop)(h0:Pv 0 [] σ H)
   (hs:∀i acc σ H,i < n->Pv i acc σ H->g (.int (lo + i)) σ H λσ2 H2=>tt σ2 H2 λb H3=>if b=true then te σ2 H3 λv H4=>H4 D=some (.lst acc)/\acc.length < sizeLine/\Pv (i + 1) (acc++[v]) σ2 (upd H4 D (.lst (acc++[v]))) else Pv (i + 1) acc σ2 H3)
   (hd:∀acc σ H,Pv n acc σ H->Q H):b7 (AD lo n) g tt te D Q σ H:=by
 refine vY (n:=n) Pv h0 (λi _ _ _ h _=>h) (λ_ _ _ _=>ag _) (λi acc σ H x H' hi h hy=>?_) hd;obtain⟨rfl,rfl⟩:=hy;exact hs i acc σ _ hi h
theorem fQ (Pv:Nat->List V->St->Hp->Prop)(h0:Pv 0 [] σ H)(hl:∀i acc σ H,i<=xs.length->Pv i acc σ H->aQ K H a xs)
   (hs:∀i x acc σ H,xs[i]?=some x->Pv i acc σ H->g x σ H λσ2 H2=>tt σ2 H2 λb H3=>if b=true then te σ2 H3 λv H4=>H4 D=some (.lst acc)/\acc.length < sizeLine/\Pv (i + 1) (acc++[v]) σ2 (upd H4 D (.lst (acc++[v]))) else Pv (i + 1) acc σ2 H3)
   (hd:∀acc σ H,Pv xs.length acc σ H->Q H):b7 (ug K a) g tt te D Q σ H:=by
 refine vY (n:=xs.length) Pv h0 (λi acc σ H hi h=>⟨xs,_,hl i acc σ H (fv hi) h,a9 hi⟩) (λacc σ H h=>⟨xs,hl _ acc σ H (ag _) h,ag _⟩) (λi acc σ H x H' hi h hy=>?_) hd;obtain⟨rfl,hy⟩:=hy;exact hs i x acc σ _ (hy xs (hl i acc σ _ (fv hi) h)) h
theorem CG {Q:VK}:JJ K (Cf ta) src g tt te σ H Q=ta σ H (λvs H1=>∃j:Int,vs=[.int j]/\-(2 ^ 62)<=j/\j < 2 ^ 62/\∀D,L2.new K H1 D->b7 (AD 0 j.toNat) g tt te D (λH'=>Q (.ref D) H') (pick σ src) (upd H1 D (.lst []))):=rfl
theorem CH {Q:VK}:JJ K (Cg ta) src g tt te σ H Q=ta σ H (λvs H1=>∃i j:Int,vs=[.int i,.int j]/\(-(2 ^ 62)<=i/\i < 2 ^ 62/\-(2 ^ 62)<=j/\j < 2 ^ 62)/\∀D,L2.new K H1 D->b7 (AD i (j - i).toNat) g tt te D (λH'=>Q (.ref D) H') (pick σ src) (upd H1 D (.lst []))):=rfl
theorem CJ {Q:VK}:JJ K (qQ K tl) src g tt te σ H Q=tl σ H (λx H1=>∃a,x=.ref a/\(∃xs,aQ K H1 a xs)/\∀D,L2.new K H1 D->b7 (ug K a) g tt te D (λH'=>Q (.ref D) H') (pick σ src) (upd H1 D (.lst []))):=rfl
theorem GR {Q:VK}:JJ K (Tp K tl) src g tt te σ H Q=tl σ H (λx H1=>∃a,x=.ref a/\(∃xs,yq K H1 a xs)/\∀D,L2.new K H1 D->b7 (Zc K a) g tt te D (λH'=>Q (.ref D) H') (pick σ src) (upd H1 D (.lst []))):=rfl
end
section
variable {t:TA}(K:Frag)
theorem GS (hk:X.K=K:=by rfl):Q4 X (Mm K):=by subst hk;exact je
theorem EW (hk:X.K=K:=by rfl):dQ X (.builtin "len") (λxs H Q=>∃p ys,xs=[.ref p]/\jd K H p=some ys/\Q (.int ys.length) H):=by subst hk;exact zC
theorem qm {k}(h:JA X es t)(hk:X.K=K:=by rfl):JE X (.Tuple es k pos) (Cv K t):=by subst hk;exact Rb h
theorem Mq (h:JA X es t)(hk:X.K=K:=by rfl):JE X (.List es pos) (Cw K t):=by subst hk;exact Rc h
theorem Mr (hk:X.K=K:=by rfl):i8 X (binaryOp .Add) (GQ K):=by subst hk;exact cR
theorem JL (hk:X.K=K:=by rfl):Zh X (PJ K):=by subst hk;exact m7
theorem iK {k:Nat}{t:BY}(hc:X.calm=true)(h:Q8 X es t)(hn:(assignEach es X.env).length=n:=by rfl)(Az:(assignEach es X.env).findIdx? (·.1)=none:=by rfl)(hk:X.K=K:=by rfl):JG X (.Tuple es k pos) (Cy K n t):=by subst hk;exact dF hc h hn Az
theorem Ms {l:Expr}(hl:JE X l te)(hk:X.K=K:=by rfl):JI X tg l (qQ K te):=by subst hk;exact bU hl
end
theorem Inv.kU (I:Inv X pins σ H s){a:Addr}(h:H a=some o):j5 X.K a=none:=by
 cases e:j5 X.K a with
 | none=>rfl
 | some xs=>
   obtain⟨ob,q⟩:=zF e;rw[(I.bs a ob (I.ok.mod.OS a ob q)).2]at h;cases h
theorem cg:dQ X (.type "list") (λxs H Q=>∃p ys,xs=[.ref p]/\jd X.K H p=some ys/\∀l,L2.new X.K H l->Q (.ref l) (upd H l (.lst ys))):=by
 exists 1,xs,us,Q,I,r,h;obtain⟨p,ys,e,hq,q⟩:=h;refine bH (AJ pins s σ H xs us (λv H'=>∃l,H l=none/\v=.ref l/\H'=upd H l (.lst ys)) I r ⟨p,ys,e,qZ hq,λl hl=>⟨l,hl,rfl,rfl⟩⟩) λu s'=>?_;rintro⟨v,H',I',rv,l,hl,e1,e2⟩;subst e1 e2;exact⟨_,_,I',rv,q l ⟨hl,I'.kU af⟩⟩
theorem gA (K:Frag)(hk:X.K=K:=by rfl):dQ X (.type "list") (λxs H Q=>∃p ys,xs=[.ref p]/\jd K H p=some ys/\∀l,L2.new K H l->Q (.ref l) (upd H l (.lst ys))):=by subst hk;exact cg
theorem pO.kp {K:Frag}(k:pO K p D (upd H D o) H')(n:L2.new K H D):Kp K p H H':=by
 refine⟨λq u e m=>?_,λb ys e m=>k.mod b ys ((Ext.new n).mod b ys e m) m⟩;have d:q≠D:=ay e n.1;exact k.keep q u (by rw[au d];exact e) m d
theorem pO.refl {K:Frag}:pO K p D H H:=⟨λ_ _ h _ _=>h,λ_ _ h _=>h⟩
def iE (es:Array DictEntry):Bool:=es.toList.all λe=>match e.key with | .str _ _=>true | _=>false
theorem EX {es:Array DictEntry}(h:iE es=true):StrKeys es:=λe he=>by
 have q:=eP.mp h e (by simpa using he);cases k:e.key <;> rw[k]at q <;> first | exact⟨_,_,rfl⟩ | cases q
theorem Mt {K:Frag}{args:Args}{binds:List (Str×Value)}{d:Addr}{v cls:Value}{es:Array DictEntry}{k:Option Value->Sem (List (Str×Value))}
   (hK:K.In s.heap) (l:K.lookup d=some ⟨cls,od,.dict es ep,sl⟩) (hs:iE es=true) (hf:nsFind es name=some v) (h₁:bindArgs fd args=nsGet d name >>=k) (h₂:k (some v)=pure binds):BindsTo s fd args binds:=
 λM A E Q hq=>by
   rw[h₁];have hn:s.heap.Ns d (λn=>nsFind es n):=⟨_,es,ep,hK d _ l,rfl,EX hs,λ_=>rfl⟩
   refine Hc (wpAny_nsGet hn ?_);rw[hf,h₂];exact Hd hq
def gk (n m:Nat)(us ws:List α):List α:=if us.length=n/\ws.length=m then us++ws else []
theorem Um {vs:List V}{zs:List V}{ws:List Value}(r:Vals vs us)(r':Vals zs ws):Vals (gk n m vs zs) (gk n m us ws):=by
 unfold gk;rw[r.length,r'.length];split
 . exact r.append r'
 . exact .nil
theorem Rg {a b:α}:gk 1 1 [a] [b]=[a,b]:=rfl
theorem Rh {a b c d:α}:gk 3 1 [a,b,c] [d]=[a,b,c,d]:=rfl
theorem Uo {K:Frag}{ks:List Str}(hn:ps.length=n + m)(hp:0 < n + m)(h:∀(s:Shared) (us ws:List Value),us.length=n->ws.length=m->BindsTo s fd ⟨us,ks.zip ws⟩ (ps.zip (us++ws))):sS K fd ps ks (gk n m) (gk n m) where
 to:=λs us ws _ hl=>by
   unfold gk at hl ⊢;split
   . next c=>exact h s us ws c.1 c.2
   . next c=>rw[He c]at hl;simp only[List.length_nil]at hl;omega
 rel:=Um
structure JK (X:Cx)(sG:List Keyword)(t:TA):Prop where h:PK X sG t
structure oX (P:Program)(w:World)(K:Frag)(mg:Str->Option Value)(base:Heap)(x:Str)(k:Nat)(ps:List Str)(ks:List Str)(n m:Nat)(sp:Sp):Prop where
 ex:∃(f:Addr) (fd:FuncData),dR P w K mg base pH k f fd ps sp/\sS K fd ps ks (gk n m) (gk n m)/\keepIn K (.ref f)=true/\mg x=some (.ref f)
structure PM (P:Program)(w:World)(K:Frag)(mg:Str->Option Value)(base:Heap)(x:Str)(k:Nat)(ps:List Str)(kM:List V)(sp:Sp):Prop where
 ex:∃(f:Addr) (fd:FuncData) (ds:List Value),dR P w K mg base pH k f fd ps sp/\Binds K fd ps ds/\Vals kM ds/\keepIn K (.ref f)=true/\mg x=some (.ref f)
section
variable {k:Nat}{ks:List Str}{kM:List V}{sG:List Keyword}{t tk:TA}{p TN:Pos}{nm:Option Str}
theorem JM:JK X [] vE:=⟨TQ⟩
theorem zK (ha:JE X e te)(hr:JK X sG t):JK X (⟨nm,e,TN⟩::sG) (pN te t):=⟨Pg ha.h hr.h⟩
theorem AW (C:oX X.prog X.w X.K X.mg X.base x k ps ks n m sp)(hr:dJ k X.A)(hg:Gl X x)(ha:JA X (e::es) t)(WL:JK X sG tk)(AG:'n'.all (·.1.isSome)=true:=by rfl)(LG:'n'.filterMap (·.1)=ks:=by rfl)
   (yt:'p'=false:=by decide) (he:starEach (e::es) X.env='t'::starEach es X.env:=by rfl)
   (oV:((backTo pos (starEach (e::es) X.env)).any (·.1)||'n'.any (·.1.isNone))=false:=by rfl):
   JE X (.Call (.Name x p) (e::es) sG pos) (AF sp (gk n m) E0 t tk):=⟨by
 exists 1,Q,I,h;obtain⟨f,fd,F,b,kp,mm⟩:=C.ex;exact LF F hr hg mm kp b zw ha.h WL.h AG LG yt he oV pins s σ H Q I h⟩
end
section
variable {K:Frag}{args:Args}{binds:List (Str×Value)}{d:Addr}{v cls:Value}{es:Array DictEntry}{β:Type}
theorem JN {f:Option Value->Sem α}{g:α->Sem (List (Str×Value))}
   (hK:K.In s.heap) (l:K.lookup d=some ⟨cls,od,.dict es ep,sl⟩) (hs:iE es=true) (hf:nsFind es name=some v) (h₁:bindArgs fd args=(nsGet d name >>=f) >>=g) (h₂:(f (some v) >>=g)=pure binds):BindsTo s fd args binds:=
 Mt (k:=λx=>f x >>=g) hK l hs hf (by rw[h₁,bind_assoc]) h₂
theorem iZ {f:Option Value->Sem α}{g:α->Sem β}{k:β->Sem (List (Str×Value))}
   (hK:K.In s.heap) (l:K.lookup d=some ⟨cls,od,.dict es ep,sl⟩) (hs:iE es=true) (hf:nsFind es name=some v) (h₁:bindArgs fd args=((nsGet d name >>=f) >>=g) >>=k) (h₂:((f (some v) >>=g) >>=k)=pure binds):BindsTo s fd args binds:=
 JN (f:=f) (g:=λx=>g x >>=k) hK l hs hf (by rw[h₁,bind_assoc]) (by rw[<- h₂,bind_assoc])
end
section
variable {o lo hi:Expr}{to th:TE}{p:Pos}
theorem Mu:∀{xs:List V}{us:List Value},Vals xs us->Vals xs.reverse us.reverse:=by
 intro xs us h;induction h with
 | nil=>exact .nil
 | cons r rr ih=>rw[List.reverse_cons,List.reverse_cons];exact ih.append (.cons r .nil)
def Uq (K:Frag)(te:TE):TE:=λσ H Q=>te σ H λx H1=>∃a xs,x=.ref a/\aQ K H1 a xs/\∀p,L2.new K H1 p->Q (.ref p) (upd H1 p (.lst xs.reverse))
theorem Ur {p1 p3:Pos}(he:JE X e te):JE X (.Subscript e (.Slice none none (some (.UnaryOp .USub (.Constant (.int 1) j1 p1) p2)) p3) pos) (Uq X.K te):=⟨by
 exists 1,Q,I,h;refine Subscript_ (bH (he.h pins s σ H _ I h) λv s1=>?_);rintro⟨x,H1,I1,r1,q1⟩;refine wpAny_Slice ?_;rw[evalPart_none];refine Hd (Hd ?_);rw[evalPart_some];refine bH ((Ue (pos:=p2) qj (ei (X:=X) (i:=1) (j:=j1) (pos:=p1))).h pins s1 σ H1 (λy H2=>y=.int (-1)/\H2=H1) I1 ⟨1,rfl,rfl,rfl⟩) λvs s2=>?_;rintro⟨y,H2,I2,r2,q2,q3⟩;subst q2 q3;obtain⟨tk,rfl⟩:=r2;obtain⟨a,xs,rfl,hx,q⟩:=q1;cases r1;have I4:Inv X pins σ H2 { s2 with heap:=s2.heap.push { cls:=.type "slice",data:=.fields #[.none,.none,.int (-1) tk] } }:=I2.kept (t':=s2.toks) λb ob q=>ae _ q;obtain⟨br,r,ht,hz⟩:=I4.list hx;have hlen:=r.length;show wpAny 'c' X.A (subscriptTail e (.Slice none none (some (.UnaryOp .USub (.Constant (.int 1) j1 p1) p2)) p3) (.ref a) (.ref s2.heap.objs.size)) (EP X pins σ Q) X.xe { s2 with heap:=s2.heap.push { cls:=.type "slice",data:=.fields #[.none,.none,.int (-1) tk] } };refine tail_any (ops:=[.ref a,.ref s2.heap.objs.size]) ht.isList.typeIs slot_list_getitem.lookup ?_ aab;refine wpAny_getItem_list_slice ht.isList (Heap.IsSliceOf.new ..) .none .none (.int _ _) Y1 ?_ (by rw[da] <;> omega);rw[PySem.W.krv_pick];exact⟨.ref _,_,I4.WV (t':=s2.toks) (Mu r) (by rw[fb];exact hz),rfl,q _ I4.new⟩⟩
end
abbrev Zo:=List V->St->Hp->(List V->St->Hp->Prop)->Prop
def fR (J:It)(g:TG)(tt:TT)(body:Zo)(CK:List V)(F:List V->St->Hp->Prop)(σ:St)(H:Hp):Prop:=∃W:Nat->Nat->List V->St->Hp->Prop,(∃m,W 0 m CK σ H)/\∀i m acc σ H,W i m acc σ H->
 (J.stop i H/\F acc σ H)∨(J.go i H/\∃N:List V->St->Hp->Prop,(∀acc' σ' H',N acc' σ' H'->∃m',m' < m/\W (i + 1) m' acc' σ' H')/\∀x H',J.OC i H x H'->g x σ H' λσ2 H2=>tt σ2 H2 λb H3=>
   if b=true then body acc σ2 H3 N else N acc σ2 H3)
def zL (te:TE)(D:Addr):Zo:=λacc σ H N=>te σ H λv H4=>H4 D=some (.lst acc)/\acc.length < sizeLine/\N (acc++[v]) σ (upd H4 D (.lst (acc++[v])))
def ur (wi:TI)(g:TG)(tt:TT)(te:TE)(D:Addr):Zo:=λacc σ H N=>wi σ H λJ H1=>fR J g tt (zL te D) acc N σ H1
def PN (K:Frag)(wi:TI)(src:List (Option Nat))(g:TG)(tt:TT)(GU:TI)(g1:TG)(GV:TT)(te:TE):TE:=λσ H Q=>wi σ H λJ H1=>∀D,L2.new K H1 D->fR J g tt (ur GU g1 GV te D) [] (λ_ _ H'=>Q (.ref D) H') (pick σ src) (upd H1 D (.lst []))
section
variable {mL bZ:Expr}{gj:List Expr}{it acc:Value}
theorem EY:compTurn 'b' 0 it acc env=(do
     standAt iter.pos
     match <- pyNext it with
     | none=>pure (.done .next)
     | some v=>
       letOwnedTupleGo tg it v
       assign tg env v
       let mut ok:=true
       for c in ifs do
         if ok then ok <- isTrue c env (eval c env)
       if ok then
         let x <- eval bZ env
         standAt bZ.pos
         let x <- foldedSetIterable bZ env x
         let _ <- runOwn (.compStart 'b' 1 (<- holding [x] (pyIter x)) acc env) env
       again (.compLoop 'b' 0 it acc env)):=by rfl
theorem EZ:compTurn 'b' 1 it acc env=(do
     standAt bZ.pos
     match <- pyNext it with
     | none=>pure (.done .next)
     | some v=>
       letOwnedTupleGo mL it v
       assign mL env v
       let mut ok:=true
       for c in gj do
         if ok then ok <- isTrue c env (eval c env)
       if ok then
         (do let _ <- call (.builtin "list.append") [acc,<- eval elt env])
       again (.compLoop 'b' 1 it acc env)):=by rfl
theorem E3 (I:Nat->Shared->Prop)
   (turn:∀n s,I n s->wpAny 'g' A (pyNext it) (λr s₁=>match r with
     | none=>R (.ok .next) s₁
     | some v=>wpAny 'g' A (letOwnedTupleGo mL it v) (λ_ s₁'=>wpAny 'g' A (assign mL env v) (λ_ s₂=>
         wpAny 'g' A (forIn gj true λc r=>if r=true then do let ok <- isTrue c env (eval c env);pure (ForInStep.yield ok) else pure (ForInStep.yield r)) (λok s₃=>
           if ok=true then wpAny 'g' A (eval elt env) (λx s₄=>
             wpAny 'g' A (call (.builtin "list.append") [acc,x]) (λ_ s₅=>∃m,m < n/\I m s₅) F0 s₄) F0 s₃
           else ∃m,m < n/\I m s₃) F0 s₂) F0 s₁') F0 s₁) F0 s)
   (n:Nat) (h:I n s):
   codeAny 'g' A (.compLoop 'b' 1 it acc env) R s:=by
 refine codeAny_loop rfl I (λn s hI=>?_) n h;show wpAny _ A ((compTurn 'b' 1 it acc env).onRaise (λx=>do noteFrame x env;theTreesLotGoes x)) _ _ s;refine wpAny_noted ?_;rw[EZ];refine Hc (Md (Hc (HI (turn n s hI) (λr s₁ h₁=>?_) λ_ _ h'=>h'.elim)));cases r with
 | none=>exact Hd h₁
 | some v=>
   refine Hc (HI h₁ (λ_ s₁' h₁'=>?_) λ_ _ h'=>h'.elim);refine Hc (HI h₁' (λ_ s₂ h₂=>Hc (HI h₂ (λok s₃ h₃=>?_) λ_ _ h'=>h'.elim)) λ_ _ h'=>h'.elim);cases ok with
   | false=>exact Hd ⟨rfl,h₃⟩
   | true=>
     exact Hc (Hc (HI h₃ (λx s₄ h₄=>Hc (HI h₄ (λ_ s₅ h₅=>Hd (Hd ⟨rfl,h₅⟩)) λ_ _ h'=>h'.elim)) λ_ _ h'=>h'.elim))
theorem E4 (I:Nat->Shared->Prop)(hs:∀x,foldedSetIterable bZ env x=pure x)
   (turn:∀n s,I n s->wpAny 'g' A (pyNext it) (λr s₁=>match r with
     | none=>R (.ok .next) s₁
     | some v=>wpAny 'g' A (letOwnedTupleGo tg it v) (λ_ s₁'=>wpAny 'g' A (assign tg env v) (λ_ s₂=>
         wpAny 'g' A (forIn ifs true λc r=>if r=true then do let ok <- isTrue c env (eval c env);pure (ForInStep.yield ok) else pure (ForInStep.yield r)) (λok s₃=>
           if ok=true then wpAny 'g' A (eval bZ env) (λx s₄=>wpAny 'g' A (pyIter x) (λit' s₅=>
             codeAny 'g' A (.compStart 'b' 1 it' acc env) (λr s₆=>match r with | .ok _=>∃m,m < n/\I m s₆ | .error _=>False) s₅) F0 s₄) F0 s₃
           else ∃m,m < n/\I m s₃) F0 s₂) F0 s₁') F0 s₁) F0 s)
   (n:Nat) (h:I n s):
   codeAny 'g' A (.compLoop 'b' 0 it acc env) R s:=by
 refine codeAny_loop rfl I (λn s hI=>?_) n h;show wpAny _ A ((compTurn 'b' 0 it acc env).onRaise (λx=>do noteFrame x env;theTreesLotGoes x)) _ _ s;refine wpAny_noted ?_;rw[EY];refine Hc (Md (Hc (HI (turn n s hI) (λr s₁ h₁=>?_) λ_ _ h'=>h'.elim)));cases r with
 | none=>exact Hd h₁
 | some v=>
   refine Hc (HI h₁ (λ_ s₁' h₁'=>?_) λ_ _ h'=>h'.elim);refine Hc (HI h₁' (λ_ s₂ h₂=>Hc (HI h₂ (λok s₃ h₃=>?_) λ_ _ h'=>h'.elim)) λ_ _ h'=>h'.elim);cases ok with
   | false=>exact Hd ⟨rfl,h₃⟩
   | true=>
     refine Hc (HI h₃ (λx s₄ h₄=>?_) λ_ _ h'=>h'.elim);refine Hc (Md (Hc (wpAny_of_eq (hs x) (Hc (IH (HI h₄ (λit' s₅ h₅=>?_) λ_ _ h'=>h'.elim))))));refine Hc (wpAny_runOwn (Qb h₅ λr s₆ h₆=>?_));cases r with
     | ok f=>exact Hd ⟨rfl,h₆⟩
     | error x=>exact h₆.elim
theorem CL
   (h0:codeAny 'g' A (.compLoop 'b' 1 it acc env) R s)
   (h:wpAny 'g' A (pyIter it) (λit' s'=>codeAny 'g' A (.compLoop 'b' 1 it' acc env) R s')
     (notedBy 'g' A env λx s'=>R (.error x) s') s):
   codeAny 'g' A (.compStart 'b' 1 it acc env) R s:=by
 refine Tx ?_;show wpAny _ _ ((compStart 'b' 1 it acc env).onRaise (λx=>do noteFrame x env;standAt theWindowsPlace)) _ _ s;refine wpAny_notedAt ?_;unfold compStart;show wpAny _ _ (ask >>=_) _ _ s;refine Hc (OK (wpAny_ite ?_));split
 . first
     | exact Hc (Hd (Hd (And.intro rfl h0)))
     | exact Hd (And.intro rfl h0)
 . first
     | exact Hc (Q1 (Hc (Md (Hc (HI h (λit' s' h'=>Hd (And.intro rfl h')) λ_ _ x=>x)))))
     | (refine Hc (Q1 ?_);show wpAny _ _ (standAt bZ.pos >>=_) _ _ s;exact Hc (Md (Hc (HI h (λit' s' h'=>Hd (And.intro rfl h')) λ_ _ x=>x))))
end
section
variable {Y:Cx}{mL bZ:Expr}{gj:List Expr}{tt:TT}
theorem JP (hc:Y.calm=true)(hg:JG Y mL g)(ht:JF Y gj tt)(he:JE Y elt te)(Zp:Y.xe=F0)
   (I:Inv Y pins σ H s) (T:Turn Y.prog Y.w Y.K mL J fp it tn) (st:tn 0 s.heap) (hf:∀b∈fp,mR Y pins H b)
   (h:fR J g tt (zL te D) CK F σ H)
   (hR:∀acc σ' H' s',Inv Y pins σ' H' s'->F acc σ' H'->R (.ok .next) s'):
   codeAny (model Y.prog Y.w) Y.A (.compStart 'b' 1 (.ref it) (.ref D) Y.env) R s:=by
 obtain⟨W,⟨m0,w0⟩,turn⟩:=h;have qi:∀{H':Hp},(∀b∈fp,H' b=none)->∀b∈fp,mR Y pins H' b:=λhn b hb=>by
   obtain⟨f0,f1,f2,f3,f4,f5⟩:=hf b hb;exact⟨hn b hb,f1,f2,f3,f4,f5⟩
 have loop:codeAny (model Y.prog Y.w) Y.A (.compLoop 'b' 1 (.ref it) (.ref D) Y.env) R s:=by
   refine E3 (λn s'=>∃i acc σ' H',Inv Y pins σ' H' s'/\tn i s'.heap/\(∀b∈fp,H' b=none)/\W i n acc σ' H') ?_ m0 ⟨0,_,_,_,I,st,λb hb=>(hf b hb).1,w0⟩;rintro n s3 ⟨i,acc,σ3,H3,I3,st3,fr3,w3⟩;rcases turn i n acc σ3 H3 w3 with ⟨stop,qn⟩ | ⟨go,NN,hNN,step⟩
   . refine bH (T.done Y rfl rfl rfl hc i pins s3 σ3 H3 F0 I3 (qi fr3) st3 stop) λr s4=>?_;rintro⟨hr,I4⟩;subst hr;exact hR _ _ _ _ I4 qn
   . refine bH (T.item Y rfl rfl rfl hc i pins s3 σ3 H3 F0 I3 (qi fr3) st3 go) λr s4=>?_;rintro⟨u,hr,h4⟩;subst hr;refine bH h4 λ_ s5=>?_;rintro⟨x,H5,I5,r5,y5,st5,fr5⟩;have Tt:=I5.pinned (qi fr5) (T.obj _ _ st5);have hgh:=hg.h _ s5 σ3 H5 x u _ Tt r5 (step x H5 y5);rw[Zp]at hgh;refine bH hgh λ_ s6=>?_;rintro⟨σ6,H6,I6,q6⟩;have hth:=ht.h _ s6 σ6 H6 _ I6 q6;rw[Zp]at hth;refine bH hth λb s7=>?_;rintro⟨H7,I7,q7⟩;have again:∀{vX:List V}{s8:Shared}{H8:Hp},Inv Y (pins++mS fp s5.heap) σ6 H8 s8->NN vX σ6 H8->∃m,m < n/\∃i acc σ' H',Inv Y pins σ' H' s8/\tn i s8.heap/\(∀b∈fp,H' b=none)/\W i m acc σ' H':=λ{vX s8 H8} I8 w=>by
       obtain⟨m',hm,w8⟩:=hNN _ _ _ w;refine⟨m',hm,i + 1,vX,σ6,H8,I8.iA,T.keep _ _ _ st5 λb hb o e=>(I8.pin (b,o) (cf _ (cf _ (fh hb e)))).1,λb hb=>?_,w8⟩;obtain⟨o,e,d⟩:=T.obj _ _ st5 b hb;exact(I8.pin (b,o) (cf _ (cf _ (fh hb e)))).2.1
     cases b with
     | false=>exact again I7 q7
     | true=>
       have heh:=he.h _ s7 σ6 H7 _ I7 q7;rw[Zp]at heh;refine bH heh λy s8=>?_;rintro⟨v,H8,I8,r8,q8⟩;obtain⟨hx,hz,w8⟩:=q8;have hmt:=fz (X:=Y) _ s8 σ6 H8 (.ref D) [v] (.ref D) [y] (λ_ H9=>H9=upd H8 D (.lst (acc++[v]))) I8 rfl (.cons r8 .nil) ⟨_,acc,v,rfl,rfl,hx,hz,rfl⟩;rw[Zp]at hmt;refine bH hmt λ_ s9=>?_;rintro⟨_,H9,I9,_,q9⟩;subst q9;exact again I9 w8
 exact CL loop (T.self _ 0 _ _ _ st loop)
end
section
variable {N:List Str}{mL bZ:Expr}{gj:List Expr}{GU:TI}{g1:TG}{tt GV:TT}
theorem zN {R:Value->Addr->Result->Shared->Prop}(c:AU X sc N src)(hc:X.calm=true)
   (hg:∀C s H fp,JG 'e' tg g) (ht:∀C s H fp,JF 'e' ifs tt)
   (Us:∀C s H fp,JI 'e' mL bZ GU) (Xc:∀C s H fp,JG 'e' mL g1) (Ri:∀C s H fp,JF 'e' gj GV) (he:∀C s H fp,JE 'e' elt te)
   (Xd:∀C s H fp x,foldedSetIterable bZ 'e'.env x=pure x)
   {Q:V->Hp->Prop}(I:Inv X pins σ H s) (T:Turn X.prog X.w X.K tg J fp it tn) (st:tn 0 s.heap) (hf:∀b∈fp,mR X pins H b)
   (h:∀D,L2.new X.K H D->fR J g tt (ur GU g1 GV te D) [] (λ_ _ H'=>Q (.ref D) H') (pick σ src) 'l')
   (hR:∀D C s' σ' H',s.heap.objs.size<=C->Inv 'e' [] σ' H' s'->Q (.ref D) H'->R (.ref D) C (.ok .next) s'):
   wpAny 'c' X.A (newList []) (λacc s₃=>wpAny 'c' X.A (newFunctionEnv sc X.env.globals (iD X.env sc.names []) [] X.env.qual none .none (some X.env)) (λcenv s₄=>
     codeAny 'c' X.A (.compStart (.ListComp elt [⟨tg,iter,ifs,0⟩,⟨mL,bZ,gj,0⟩] sc pos) 0 (.ref it) acc { cenv with scope:=relabel sc X.env }) (R acc cenv.locals) s₄) E s₃) E s:=by
 refine P2 (wpAny_newFunctionEnv c.cell (by intro y hy;simp at hy) (λh₁ hns₁ hsb₁=>?_) c.kind);dsimp only at hns₁ hsb₁ ⊢;generalize hH2:s.heap.push { cls:=.type "list",dict:=none,data:=.seq ([]:List Value).toArray }=H2 at hns₁ hsb₁ ⊢;have hC:H2.objs.size=s.heap.objs.size + 1:=by rw[<- hH2,eQ]
 have Uk:s.heap.objs.size≠H2.objs.size:=by rw[hC];exact cv (kf _)
 have Mn:s.heap.objs.size<=H2.objs.size:=by rw[hC];exact Nat.le_succ _
 have below:∀b,b < s.heap.objs.size->b≠H2.objs.size:=λb hb=>by rw[hC];exact cv (i4 hb)
 have old:∀b o,s.heap.get? b=some o->h₁.get? b=some o:=λb o e=>hsb₁.extBut b o (below b (ba e)) (ae _ (hH2 ▸ ae _ e));have Ul:h₁.get? s.heap.objs.size=some { cls:=.type "list",dict:=none,data:=.seq ([]:List Value).toArray }:=hsb₁.extBut _ _ Uk (ae _ (hH2 ▸ cn _ rfl));have ho:∀b∈fp,∃o,s.heap.get? b=some o:=λb hb=>let ⟨o,e,_⟩:=T.obj _ _ st b hb;⟨o,e⟩;have I0:=I.block (t':=s.toks + ([]:List (Str×Value)).length) c hf ho (ag _) Mn Uk old hns₁ ⟨gs _,[],0,.nil,Ul⟩;have Xb:tn 0 h₁:=T.keep _ _ _ st λb hb o e=>old b o e;obtain⟨W,⟨m0,w0⟩,turn⟩:=h _ I.new;have qi:∀{H':Hp},(∀b∈fp,H' b=none)->∀b∈fp,mR 'w' [] H' b:=λhn b hb=>by
   obtain⟨f0,f1,f2,f3,f4,f5⟩:=hf b hb;obtain⟨o,e⟩:=ho b hb;refine⟨hn b hb,below b (ba e),λz=>?_,.inl hb,λx a q=>f4 x a (fB q),λp hp=>nomatch hp⟩;rcases List.mem_cons.mp (I.vA b z)with q | q
   . exact f1 q
   . exact f2 q
 have fr0:∀b∈fp,(upd H s.heap.objs.size (.lst [])) b=none:=λb hb=>by
   obtain⟨o,e⟩:=ho b hb;rw[au (cv (ba e))];exact(hf b hb).1
 have loop:∀s₃:Shared,s₃={ s with heap:=h₁,toks:=s.toks + ([]:List (Str×Value)).length }->
     codeAny 'c' X.A (.compLoop (.ListComp elt [⟨tg,iter,ifs,0⟩,⟨mL,bZ,gj,0⟩] sc pos) 0 (.ref it) 'i' (compEnvC sc (iD X.env sc.names []) H2.objs.size X.env)) (R 'i' H2.objs.size) s₃:=by
   rintro s₃ rfl;refine E4 (λn s'=>∃i acc σ' H',Inv 'w' [] σ' H' s'/\tn i s'.heap/\(∀b∈fp,H' b=none)/\W i n acc σ' H') (Xd H2.objs.size s H fp) ?_ m0 ⟨0,_,_,_,I0,Xb,fr0,w0⟩;rintro n s3 ⟨i,acc,σ3,H3,I3,st3,fr3,w3⟩;rcases turn i n acc σ3 H3 w3 with ⟨stop,qn⟩ | ⟨go,NN,hNN,step⟩
   . refine bH (T.done 'w' rfl rfl rfl hc i [] s3 σ3 H3 F0 I3 (qi fr3) st3 stop) λr s4=>?_;rintro⟨hr,I4⟩;subst hr;exact hR _ _ _ _ _ Mn I4 qn
   . refine bH (T.item 'w' rfl rfl rfl hc i [] s3 σ3 H3 F0 I3 (qi fr3) st3 go) λr s4=>?_;rintro⟨u,hr,h4⟩;subst hr;refine bH h4 λ_ s5=>?_;rintro⟨x,H5,I5,r5,y5,st5,fr5⟩;have Tt:=I5.pinned (qi fr5) (T.obj _ _ st5);refine bH ((hg _ _ _ _).h _ s5 σ3 H5 x u _ Tt r5 (step x H5 y5)) λ_ s6=>?_;rintro⟨σ6,H6,I6,q6⟩;refine bH ((ht _ _ _ _).h _ s6 σ6 H6 _ I6 q6) λb s7=>?_;rintro⟨H7,I7,q7⟩;have again:∀{vX:List V}{s8:Shared}{σ8:St}{H8:Hp},Inv 'w' ([]++mS fp s5.heap) σ8 H8 s8->NN vX σ8 H8->∃m,m < n/\∃i acc σ' H',Inv 'w' [] σ' H' s8/\tn i s8.heap/\(∀b∈fp,H' b=none)/\W i m acc σ' H':=λ{vX s8 σ8 H8} I8 w=>by
       obtain⟨m',hm,w8⟩:=hNN _ _ _ w;refine⟨m',hm,i + 1,vX,σ8,H8,I8.iA,T.keep _ _ _ st5 λb hb o e=>(I8.pin (b,o) (cf _ (cf _ (fh hb e)))).1,λb hb=>?_,w8⟩;obtain⟨o,e,d⟩:=T.obj _ _ st5 b hb;exact(I8.pin (b,o) (cf _ (cf _ (fh hb e)))).2.1
     cases b with
     | false=>exact again I7 q7
     | true=>
       refine bH ((Us H2.objs.size s H fp).h ([]++mS fp s5.heap) s7 σ6 H7 _ I7 q7) λv s8 h8=>bH h8 λTo s9 h9=>?_;obtain⟨it9,fp9,tn9,J9,H9,e9,I9,T9,st9,f9,q9⟩:=h9;subst e9;exact JP (Y:=X.comp N sc H2.objs.size s H fp) hc (Xc _ _ _ _) (Ri _ _ _ _) (he _ _ _ _) rfl I9 T9 st9 f9 q9 λacc σ' H' s' I' w'=>again I' w'
 exact codeAny_compStart_list (loop _ rfl) (T.self _ 0 _ _ _ Xb (loop _ rfl))
theorem aaK (c:AU X sc N src)(hc:X.calm=true)(hi:JI X tg iter wi)
   (hg:∀C s H fp,JG 'e' tg g) (ht:∀C s H fp,JF 'e' ifs tt)
   (Us:∀C s H fp,JI 'e' mL bZ GU) (Xc:∀C s H fp,JG 'e' mL g1) (Ri:∀C s H fp,JF 'e' gj GV) (he:∀C s H fp,JE 'e' elt te)
   (hs:∀x,foldedSetIterable iter X.env x=pure x:=by intro _;rfl) (Xd:∀C s H fp x,foldedSetIterable bZ 'e'.env x=pure x:=by intros;rfl):JE X (.ListComp elt [⟨tg,iter,ifs,0⟩,⟨mL,bZ,gj,0⟩] sc pos) (PN X.K wi src g tt GU g1 GV te):=⟨by
 exists 1,Q,I,h;rw[eval_ListComp];refine Qr (use:=none) rfl hs (ie λx hx hk=>?_) c.kind c.names ?_
 . obtain⟨n,k⟩:=x;cases hk;exact I.ok.has _ (c.free hx)
 refine bH (hi.h pins s σ H _ I h) λv s1 h1=>bH h1 λTo s2 h2=>?_;obtain⟨it,fp,tn,J,H2,e,I2,T,st2,f2,h2⟩:=h2;subst e;refine zN (R:=λacc C=>compPost 'c' X.A X.xe none (EP X pins σ Q) acc C) (Q:=Q) c hc hg ht Us Xc Ri he Xd I2 T st2 f2 h2 λD C s' σ' H' hC I' q=>?_;obtain⟨m,hn,_⟩:=id I'.loc;refine⟨m,hn,λh' sb=>?_⟩;exact⟨.ref D,H',I2.u7 f2 hC I' λb hb=>sb.2 b hb,rfl,q⟩⟩
theorem aaL {py Mp:Pos}(hN:X.N.Nodup)(hy:X.N[i]?=some y)(hx:Loc X.env.scope y)(c:AU X sc N src)(hc:X.calm=true)(hi:JI X tg iter wi)
   (hg:∀C s H fp,JG 'e' tg g) (ht:∀C s H fp,JF 'e' ifs tt)
   (Us:∀C s H fp,JI 'e' mL bZ GU) (Xc:∀C s H fp,JG 'e' mL g1) (Ri:∀C s H fp,JF 'e' gj GV) (he:∀C s H fp,JE 'e' elt te)
   (hsw:swapsWith (.ListComp elt [⟨tg,iter,ifs,0⟩,⟨mL,bZ,gj,0⟩] sc pos) (some (.Name y py)) Mp.line X.env=pure true:=by rfl)
   (hf:X.fn y=true∨X.env.scope.names.lookup y=some .local:=by first | exact .inl rfl | exact .inr rfl | assumption)
   (hs:∀x,foldedSetIterable iter X.env x=pure x:=by intro _;rfl) (Xd:∀C s H fp x,foldedSetIterable bZ 'e'.env x=pure x:=by intros;rfl):JS X (.Assign [.Name y py] (.ListComp elt [⟨tg,iter,ifs,0⟩,⟨mL,bZ,gj,0⟩] sc pos) Mp) (AA (PN X.K wi src g tt GU g1 GV te) (bI i)):=⟨by
 exists 1,D,I,h;rw[exec_Assign_Name_used _ _ _ _ hsw];refine Hc (Md (Hc ?_));show wpAny _ X.A (do let _ <- comprehension (.ListComp elt [⟨tg,iter,ifs,0⟩,⟨mL,bZ,gj,0⟩] sc pos) sc X.env _ (newList []) false (eval iter X.env) (some (assign (.Name y py) X.env))) _ _ s;refine Hc (HI (Qr (use:=some (assign (.Name y py) X.env)) (Q:=λ_ s'=>SP X pins D .next s') rfl hs (ie λx hx hk=>?_) c.kind c.names ?_) (λ_ s' hq=>Hd (Hd hq)) λ_ _ e=>e)
 . obtain⟨n,k⟩:=x;cases hk;exact I.ok.has _ (c.free hx)
 refine bH (hi.h pins s σ H _ I h) λv s1 h1=>bH h1 λTo s2 h2=>?_;obtain⟨it,fp,tn,J,H2,e,I2,T,st2,f2,h2⟩:=h2;subst e;refine zN (R:=λacc C=>compPost 'c' X.A X.xe (some (assign (.Name y py) X.env)) (λ_ s'=>SP X pins D .next s') acc C) (Q:=λv H'=>D.nx (σ.set i (some v)) H') c hc hg ht Us Xc Ri he Xd I2 T st2 f2 h2 λL C s' σ' H' hC I' q=>?_;obtain⟨m,hn,_⟩:=id I'.loc;obtain⟨o,es,ep,ho,r⟩:=id hn;have I3:Inv X pins σ H' s':=I2.u7 (h':=s'.heap) f2 hC I' λ_ _=>rfl;have cL:C≠X.env.locals:=fI (cm I2.lt hC);have cC:∀x a,X.env.cells.lookup x=some a->a≠C:=λx a e=>by
   obtain⟨v,o,e',_⟩:=I2.cell x a e;exact cv (cm (ba e') hC)
 have cP:∀p∈X.pn++pins,p.1≠C:=λp hp=>cv (cm (ba (I2.pin p hp).1) hC);have fr:H' C=none:=I'.free;have I4:Inv X (pins++[(C,o)]) σ H' s':=I3.uX λp hp=>(de.mp hp).elim (λz=>I3.pin p (cf _ z)) λz=>by
   have e:p=(C,o):=by simpa using z
   subst e;exact⟨ho,fr,cL,I2.SS hC,λv z=>by
     have r1:=r
     simp_all⟩
 show wpAny 'c' X.A (assign (.Name y py) X.env (.ref L)) _ _ s';refine bH (Ay (pos:=py) hN hy hx hf _ s' σ H' (.ref L) (.ref L) (λσ1 H1=>D.nx σ1 H1/\H1=H') I4 rfl ⟨q,rfl⟩) λ_ s5=>?_;rintro⟨σ5,H5,I5,q5,e5⟩;subst e5;have pC:=(I5.pin (C,o) (cf _ (cf _ Y2))).1;refine⟨m,⟨o,es,ep,pC,r⟩,λh' sb=>?_⟩;exact⟨σ5,H5,I5.iA.turned (t':=s5.toks) (λb u hb e=>(sb.2 b hb).trans e) fr cL (.inr (cw I2.sz hC)) cC cP,q5⟩⟩
end
section
variable {K:Frag}{tt:TT}{body:Zo}{a:Addr}
theorem Ut (Pv:Nat->List V->St->Hp->Prop)(h0:Pv 0 CK σ H)(hgo:∀i acc σ H,i < n->Pv i acc σ H->J.go i H)(Az:∀acc σ H,Pv n acc σ H->J.stop n H)
   (hs:∀i acc σ H x H',i < n->Pv i acc σ H->J.OC i H x H'->g x σ H' λσ2 H2=>tt σ2 H2 λb H3=>if b=true then body acc σ2 H3 (Pv (i + 1)) else Pv (i + 1) acc σ2 H3)
   (hd:∀acc σ H,Pv n acc σ H->F acc σ H):fR J g tt body CK F σ H:=by
 refine⟨λi m acc σ H=>Pv i acc σ H/\i<=n/\m=n - i,⟨n,h0,gs _,by omega⟩,λi m acc σ H ⟨h,hi,hm⟩=>?_⟩
 by_cases c:i < n
 . right
   exact⟨hgo i acc σ H c h,Pv (i + 1),λacc' σ' H' q=>⟨n - (i + 1),by omega,q,by omega,rfl⟩,λx H' hy=>hs i acc σ H x H' c h hy⟩
 . left
   have e:i=n:=X2
   subst e;exact⟨Az acc σ H h,hd acc σ H h⟩
theorem u9 (Pv:Nat->List V->St->Hp->Prop)(h0:Pv 0 CK σ H)(hl:∀i acc σ H,i<=xs.length->Pv i acc σ H->aQ K H a xs)
   (hs:∀i x acc σ H,xs[i]?=some x->Pv i acc σ H->g x σ H λσ2 H2=>tt σ2 H2 λb H3=>if b=true then body acc σ2 H3 (Pv (i + 1)) else Pv (i + 1) acc σ2 H3)
   (hd:∀acc σ H,Pv xs.length acc σ H->F acc σ H):fR (ug K a) g tt body CK F σ H:=by
 refine Ut (n:=xs.length) Pv h0 (λi acc σ H hi h=>⟨xs,_,hl i acc σ H (fv hi) h,a9 hi⟩) (λacc σ H h=>⟨xs,hl _ acc σ H (ag _) h,ag _⟩) (λi acc σ H x H' hi h hy=>?_) hd;obtain⟨rfl,hy⟩:=hy;exact hs i x acc σ _ (hy xs (hl i acc σ _ (fv hi) h)) h
theorem zO {GU:TI}{g1:TG}{GV:TT}:PN K (qQ K tl) src g tt GU g1 GV te σ H Q=tl σ H (λx H1=>∃a,x=.ref a/\(∃xs,aQ K H1 a xs)/\∀D,L2.new K H1 D->fR (ug K a) g tt (ur GU g1 GV te D) [] (λ_ _ H'=>Q (.ref D) H') (pick σ src) (upd H1 D (.lst []))):=rfl
theorem zP :ur (Tp K tl) g tt te D acc σ H N=tl σ H (λx H1=>∃a,x=.ref a/\(∃xs,yq K H1 a xs)/\fR (Zc K a) g tt (zL te D) acc N σ H1):=rfl
theorem vZ :ur (qQ K tl) g tt te D acc σ H N=tl σ H (λx H1=>∃a,x=.ref a/\(∃xs,aQ K H1 a xs)/\fR (ug K a) g tt (zL te D) acc N σ H1):=rfl
theorem CM :zL te D acc σ H N=te σ H (λv H4=>H4 D=some (.lst acc)/\acc.length < sizeLine/\N (acc++[v]) σ (upd H4 D (.lst (acc++[v])))):=rfl
end
theorem wg:∀{ns:List Int}{us:List Value},Vals (ns.map V.int) us->IntsAre us ns
 | [],us,h=>by cases h;exact .nil
 | n::ns,us,h=>by
   cases h with
   | cons r rr=>
     obtain⟨t,rfl⟩:=r;exact .cons n t (wg rr)
theorem JQ:∀{us:List Value}{ns:List Int},IntsAre us ns->Vals (ns.map V.int) us:=by
 intro us ns h;exact zv h
theorem PR (h:Vals xs us):∀{i:Nat}{u:Value},us[i]?=some u->∃x,xs[i]?=some x/\RelV x u:=by
 induction h with
 | nil=>intro i u e;simp at e
 | cons r rr ih=>
   intro i u e;cases i with
   | zero=>simp only[List.getElem?_cons_zero,Option.some.injEq]at e ⊢;exact⟨_,rfl,e ▸ r⟩
   | succ i=>simp only[List.getElem?_cons_succ]at e ⊢;exact ih e
theorem range_all {bs:List Bool}:(List.range bs.length).all (λi=>bs.getD i true)=bs.all id:=by
 induction bs with
 | nil=>rfl
 | cons b bs ih=>
   rw[List.length_cons,List.range_succ_eq_map,List.all_cons,rf,List.all_cons];have e:((λi=>(b::bs).getD i true) ∘ Nat.succ)=λi=>bs.getD i true:=by funext i;simp
   rw[e,ih];rfl
theorem CN {bs:List Bool}(r:Vals (bs.map V.bl) us):TruthOf P w A (λi v=>us.toArray[i]?=some v) (λi=>bs.getD i true):=by
 intro i v s Q E hv hQ;rw[og]at hv;obtain⟨x,hx,rx⟩:=PR r hv;rw[ax]at hx;obtain⟨b,hb,rfl⟩:=bp.mp hx;cases rx;have e:bs.getD i true=b:=by rw[sk,hb];rfl
 dsimp only at hQ;rw[e]at hQ;exact Kj hQ
theorem kept_iter {l:Addr}(hk:∀b o,b∉[s.heap.objs.size]->(s.heap.push { cls:=.type "list_iterator",data:=.fields #[.ref l,.int 0 0] }).get? b=some o->h'.get? b=some o):∀b o,s.heap.get? b=some o->h'.get? b=some o:=λb o e=>by
 refine hk b o (λm=>?_) (ae _ e);have q:b=s.heap.objs.size:=by simpa using m
 exact hU _ (q ▸ ba e)
theorem cK (hc:X.calm=true):dQ X (.builtin "all") (λxs H Q=>∃(p:Addr) (bs:List Bool),xs=[.ref p]/\aQ X.K H p (bs.map V.bl)/\Q (.bl (bs.all id)) H):=by
 exists 1,xs,us,Q,I,r,h;obtain⟨p,bs,rfl,hx,q⟩:=h;obtain⟨u,rfl,ru⟩:=vals1 r;cases ru;obtain⟨br,rv,ht,hz⟩:=I.list hx;have hl:s.heap.IsList p br.toArray:=ht.isList;have iI:p < s.heap.objs.size:=by obtain⟨_,e,_⟩:=hl;exact ba e
 refine call_all_walk (Nw hl ?_);refine⟨_,_,_,_,_,_,λi=>bs.getD i true,rfl,Walks.list (A:=X.A.in1) (I.ok.hd hc) _ p (cv iI) br.toArray,⟨⟨_,cn _ rfl,rfl,rfl⟩,hl.push _⟩,CN rv,λh' tk hk=>?_⟩;have el:br.toArray.size=bs.length:=by rw[da,<- rv.length,ab]
 rw[el,range_all];exact⟨.bl _,H,I.kept (kept_iter hk),rfl,q⟩
section
variable {b0:Array Keyed}
end
def zQ (K:Frag)(t:TA):TE:=λσ H Q=>t σ H λvs H1=>∃(p:Addr) (ns:List Int),vs=[.ref p]/\aQ K H1 p (ns.map V.int)/\ns.Pairwise (·≥·)/\∀D,L2.new K H1 D->Q (.ref D) (upd H1 D (.lst (ns.map V.int)))
def wj (xs:Array Nat):Prop:=xs.toList.Pairwise (· < ·)
structure iQ (t:SetTable):Prop where
 bare:t.dummies=#[]
 rise:wj t.place
section
variable {xs:Array Nat}
theorem wj.lt (h:wj xs){k:Nat}(ik:i < k)(hk:k < xs.size):xs.getD i j < xs.getD k j:=by
 have hi:i < xs.size:=pf ik hk;rw[fo,fo,dn hi,dn hk];have q:=pb.mp h i k (by simpa using hi) (by simpa using hk) ik;simpa using q
theorem Mv (h:wj xs)(hm:xs.getD m j < j)(hi:i<=m):xs.getD i j < j:=by
 by_cases c:m < xs.size
 . by_cases e:i=m
   . rw[e];exact hm
   . have:=h.lt (j:=j) (show i < m by omega) c;omega
 . rw[fo,mn X2]at hm;exact absurd hm (hU _)
theorem PU (h:wj xs)(hm:¬ xs.getD m j < j)(hi:m<=i):¬ xs.getD i j < j:=λc=>hm (Mv h c hi)
theorem wk (h:wj xs):∀fuel lo hi,lo<=hi->hi<=xs.size->hi - lo<=fuel->(∀i,i < lo->xs.getD i j < j)->(∀i,hi<=i->¬ xs.getD i j < j)->
   SetTable.below.go xs j fuel lo hi<=xs.size/\(∀i,i < SetTable.below.go xs j fuel lo hi->xs.getD i j < j)/\∀i,SetTable.below.go xs j fuel lo hi<=i->¬ xs.getD i j < j
 | 0,lo,hi,h1,h2,h3,h4,h5=>by
   have e:lo=hi:=X2
   unfold SetTable.below.go;exact⟨by omega,h4,λi eY=>h5 i X2⟩
 | fuel + 1,lo,hi,h1,h2,h3,h4,h5=>by
   unfold SetTable.below.go
   by_cases c:lo < hi
   . rw[Hk c];dsimp only
     by_cases d:xs.getD ((lo + hi) / 2) j < j
     . rw[Hk d];exact wk h fuel _ _ X2 h2 X2 (λi eY=>Mv h d X2) h5
     . rw[He d];exact wk h fuel _ _ X2 X2 X2 h4 (λi eY=>PU h d eY)
   . rw[He c];exact⟨by omega,h4,λi eY=>h5 i X2⟩
theorem wm (h:wj xs)(j:Nat):SetTable.below xs j<=xs.size/\(∀i,i < SetTable.below xs j->xs.getD i j < j)/\∀i,SetTable.below xs j<=i->¬ xs.getD i j < j:=by
 unfold SetTable.below;refine wk h _ _ _ (gs _) (ag _) X2 (λi hi=>absurd hi (Nat.not_lt_zero _)) (λi hi=>?_);rw[fo,mn hi];exact hU _
theorem wj.insert (h:wj xs)(free:xs[SetTable.below xs j]?≠some j):wj (SetTable.insertAt xs (SetTable.below xs j) j):=by
 obtain⟨b1,b2,b3⟩:=wm h j;generalize SetTable.below xs j=p at *;have at_:∀i (hi:i < xs.size),xs.getD i j=xs.toList[i]'(by simpa using hi):=λi hi=>by
   rw[fo,dn hi];simp
 unfold wj SetTable.insertAt;rw[Array.toList_append,uk,Array.toList_extract,Array.toList_extract];simp only[List.extract_eq_drop_take,Nat.sub_zero,List.drop_zero];have e1:List.take (xs.size - p) (List.drop p xs.toList)=xs.toList.drop p:=pE (by rw[km];simp);rw[e1,gL];refine rg.mpr ⟨h.sublist (BM _ _),?_,?_⟩
 . refine rg.mpr ⟨Fu _ _,h.sublist (List.drop_sublist _ _),λa ha c hc=>?_⟩;have ea:a=j:=by simpa using ha
   subst ea;obtain⟨i,hi,rfl⟩:=fw.mp hc;rw[km]at hi;rw[B1];have iI:p + i < xs.size:=by simp at hi;omega
   have q:=b3 (p + i) X2;rw[at_ _ iI]at q
   by_cases z:i=0
   . subst z;have ne:xs.toList[p + 0]'(by simpa using iI)≠a:=λe=>free (by
       rw[dn (by simpa using iI)];simpa using e)
     omega
   . have hp:p < xs.size:=X2
     have q0:=b3 p (ag _);have q1:=h.lt (j:=a) (show p < p + i by omega) iI;rw[at_ _ iI]at q1;omega
 . intro a ha c hc;obtain⟨i,hi,rfl⟩:=fw.mp ha;rw[eC]at hi;rw[List.getElem_take];have iI:i < xs.size:=by simp at hi;omega
   have qa:=b2 i X2;rw[at_ _ iI]at qa;rcases de.mp hc with z | z
   . have e:c=j:=by simpa using z
     rw[e];exact qa
   . obtain⟨k,hk,rfl⟩:=fw.mp z;rw[km]at hk;rw[B1];exact pb.mp h i (p + k) _ _ X2
end
theorem has_none (j:Nat):SetTable.has #[] j=false:=by simp[SetTable.has]
theorem iQ.slot {t:SetTable}(h:iQ t)(e:t.slot j=.empty):t.place[SetTable.below t.place j]?≠some j:=by
 intro c;unfold SetTable.slot at e;simp only[c,Hn,QP]at e;cases e
theorem wu {t:SetTable}(h:iQ t){f:Nat->Int}{x:Int}:∀(fuel:Nat) (p:SetTable.Probe) {j:Nat}{d:Option Nat},p.dummy=none->SetTable.probe.go t f x fuel p=some (.empty j d)->d=none/\t.slot j=.empty
 | 0,p,j,d,hp,e=>by unfold SetTable.probe.go at e;cases e
 | fuel + 1,p,j,d,hp,e=>by
   unfold SetTable.probe.go at e;have adv:(t.advance p).dummy=none:=by unfold SetTable.advance;split <;> exact hp
   cases c:t.slot p.j with
   | empty=>
     rw[c]at e;dsimp only at e;cases e;exact⟨hp,c⟩
   | dummy=>
     exfalso
     unfold SetTable.slot at c;dsimp only at c;split at c
     . cases c
     . rw[h.bare,has_none]at c;simp at c
   | live i=>
     rw[c]at e;dsimp only at e;split at e
     . cases e
     . exact wu h fuel _ adv e
theorem iQ.standIn {t:SetTable}(n:Nat):iQ (t.standIn n):=⟨rfl,by
 show(Array.range n).toList.Pairwise (· < ·);rw[Array.toList_range];exact List.pairwise_lt_range⟩
theorem iQ.orStandIn {t:SetTable}(h:iQ t)(n:Nat):iQ (t.orStandIn n):=by
 unfold SetTable.orStandIn;split
 . exact h
 . exact .standIn n
theorem iQ.put {t:SetTable}(h:iQ t)(e:t.slot j=.empty):iQ (t.put j).1:=⟨by
 show(if SetTable.has t.dummies j then _ else t.dummies)=#[];rw[h.bare,has_none];rfl,h.rise.insert (h.slot e)⟩
theorem E5 {t:SetTable}(h:iQ t)(es:Array (Int×Value))(hv:Int)(x:Value):iQ (layNew t es hv x).2.1/\(layNew t es hv x).2.1.led=t.led:=by
 unfold layNew;cases c:t.freeSlot hv with
 | none=>exact⟨.standIn _,rfl⟩
 | some q=>
   obtain⟨sl,wd⟩:=q;have free:t.slot sl=.empty:=by
     unfold SetTable.freeSlot at c;split at c
     . next j d e=>
       unfold SetTable.probe at e;obtain⟨rfl,z⟩:=wu h _ _ rfl e;simp only[Dx,Option.isSome_none,Option.some.injEq,Prod.mk.injEq]at c;rw[<- c.1];exact z
     . cases c
   dsimp only;refine⟨(h.put free).orStandIn _,?_⟩;unfold SetTable.orStandIn;split
   . rfl
   . rfl
theorem zR (f:Nat->Option Nat):∀l:List Nat,l.Pairwise (· < ·)->((l.filterMap λj=>(f j).map (j,·)).map (·.1)).Pairwise (· < ·)/\∀a∈(l.filterMap λj=>(f j).map (j,·)).map (·.1),a∈l
 | [],_=>⟨List.Pairwise.nil,λa h=>nomatch h⟩
 | j::l,h=>by
   obtain⟨i1,i2⟩:=zR f l (List.pairwise_cons.mp h).2;cases c:f j with
   | none=>
     rw[List.filterMap_cons_none (by rw[c];rfl)];exact⟨i1,λa ha=>bc _ (i2 a ha)⟩
   | some k=>
     rw[List.filterMap_cons_some (b:=(j,k)) (by rw[c];rfl)];refine⟨List.pairwise_cons.mpr ⟨λa ha=>(List.pairwise_cons.mp h).1 a (i2 a ha),i1⟩,λa ha=>?_⟩;rcases List.mem_cons.mp ha with z | z
     . exact z ▸ cb
     . exact bc _ (i2 a z)
theorem AX {t:SetTable}(es:Array (Int×Value))(n:Nat):iQ (relayAll t es n).2.1/\(relayAll t es n).2.1.led=t.led:=by
 unfold relayAll;cases c:t.relaid (es.map (·.1)) n with
 | none=>exact⟨.standIn _,rfl⟩
 | some q=>
   obtain⟨t',order⟩:=q;dsimp only;split
   . unfold SetTable.relaid SetTable.laid at c;cases d:SetTable.layClean (SetTable.sizeAbove n - 1) (es.map (·.1)) with
     | none=>rw[d]at c;cases c
     | some owner=>
       rw[d]at c;simp only[Option.bind_eq_bind,Option.bind_some,Option.pure_def,Option.some.injEq,Prod.mk.injEq]at c;rw[<- c.1];refine⟨⟨rfl,?_⟩,rfl⟩;exact(zR (λj=>owner.getD j none) _ List.pairwise_lt_range).1
   . exact⟨.standIn _,rfl⟩
def rB (es:Array (Int×Value)):List Int:=es.toList.map λe=>numOf e.2
structure GW (P:Program)(w:World)(h:Heap)(a:Addr)(L:Bool)(M:Int->Prop)(n:Nat)(es:Array (Int×Value))(ep:Nat)(t:SetTable):Prop where
 at_:∃o,h.get? a=some o/\o.ExactSet/\o.data=.set es ep t
 elems:ElemsOf (intKind P w) es.toList
 nd:(rB es).Nodup
 mem:∀k,k∈rB es↔M k
 len:es.size<=n
 fits:t.fits es.size=true
 tab:iQ t
 led:t.led=L
def pJ (P:Program)(w:World)(h:Heap)(a:Addr)(L:Bool)(M:Int->Prop)(n:Nat):Prop:=∃es ep t,GW P w h a L M n es ep t
theorem pJ.keep {a:Addr}(q:pJ P w h a L M n)(k:∀o,h.get? a=some o->h'.get? a=some o):pJ P w h' a L M n:=by
 obtain⟨es,ep,t,x⟩:=q;obtain⟨o,h1,h2⟩:=x.at_;exact⟨es,ep,t,⟨⟨o,k o h1,h2⟩,x.elems,x.nd,x.mem,x.len,x.fits,x.tab,x.led⟩⟩
theorem E6 {k:Int}{v:Value}(h:(intKind P w).is k v=true):numOf v=k/\∃t,v=.int k t:=by
 obtain⟨t,rfl⟩:=Value.isInt_shape h;exact⟨rfl,t,rfl⟩
theorem wz {a:Addr}{o:Obj}{es0 es:Array (Int×Value)}{t0 t:SetTable}(ho:h.get? a=some o)(hx:o.ExactSet)(hd:o.data=.set es0 ep t0):
   ∃o',(h.update a (Obj.putSet es t)).get? a=some o'/\o'.ExactSet/\o'.data=.set es (ep + 1) t:=by
 refine⟨{ o with data:=.set es (ep + 1) t },?_,hx,rfl⟩;have g:=ip (Obj.putSet es t) ho (by rw[putSet_of es t hd];rfl)
 rwa [putSet_of es t hd]at g
theorem GX {g:Bool->Sem Unit}(hg:∀(b:Bool) (s1:Shared) (R:Unit->Shared->Prop),R () s1->wpAny (model P w) A (g b) R E s1){a:Addr}{o:Obj}{es0 es:Array (Int×Value)}{t0 t:SetTable}{wd:Bool}{R:Option Bool->Shared->Prop}
   (ho:s.heap.get? a=some o) (hx:o.ExactSet) (hd:o.data=.set es0 ep t0) (h1:ElemsOf (intKind P w) es.toList) (h2:(rB es).Nodup) (h3:∀k,k∈rB es↔M k) (h4:es.size<=n) (h5:t.fits es.size=true) (h6:iQ t) (h7:t.led=L) (hn:n < scanBound)
   (q:∀h',Heap.SameBut a s.heap h'->pJ P w h' a L M n->R (some true) { s with heap:=h' }):
   wpAny (model P w) A (do
     storeSet a es t
     if (!wd&&t.tooFull)=true then do
       g (relayAll t es (SetTable.grown es.size)).2.2
       storeSet a (relayAll t es (SetTable.grown es.size)).1 (relayAll t es (SetTable.grown es.size)).2.1
       pure (some true)
     else pure (some true)) R E s:=by
 refine Hc (wpAny_storeSet_of ho hd ?_ (fits_of_scanBound (eI h4 hn)));obtain⟨o1,g1,x1,d1⟩:=wz (es:=es) (t:=t) ho hx hd;have sb:=yn s.heap a (Obj.putSet es t);split
 . have pm:=relayAll_perm t es (SetTable.grown es.size);have ft:=relayAll_fits t es (SetTable.grown es.size);obtain⟨tb,ld⟩:=AX (t:=t) es (SetTable.grown es.size);generalize relayAll t es (SetTable.grown es.size)=W at pm ft tb ld ⊢;have kp:(rB W.1).Perm (rB es):=pm.map _;have sz:W.1.size=es.size:=by rw[<- dy,pm.length_eq,dy]
   refine Hc (hg _ _ _ ?_);refine Hc (wpAny_storeSet_of g1 d1 ?_ (fits_of_scanBound X2));obtain⟨o2,g2,x2,d2⟩:=wz (es:=W.1) (t:=W.2.1) g1 x1 d1;exact Hd (q _ (sb.trans (yn _ a _)) ⟨W.1,_,W.2.1,⟨⟨o2,g2,x2,d2⟩,h1.perm pm,kp.nodup_iff.mpr h2,λk=>kp.mem_iff.trans (h3 k),by omega,ft,tb,ld.trans h7⟩⟩)
 . exact Hd (q _ sb ⟨es,_,t,⟨⟨o1,g1,x1,d1⟩,h1,h2,h3,h4,h5,h6,h7⟩⟩)
theorem add_int {a:Addr}{k:Int}{tk:Tok}{R:Bool->Shared->Prop}(h:pJ P w s.heap a L M n)(hn:n + 1 < scanBound)
   (q:∀h' b,Heap.SameBut a s.heap h'->pJ P w h' a L (λj=>M j∨j=k) (n + 1)->R b { s with heap:=h' }):wpAny (model P w) A (setAddHashed a (.int k tk) (hashInt k)) R E s:=by
 obtain⟨es,ep,t,x⟩:=h;obtain⟨o,ho,hx,hd⟩:=x.at_;have lt:es.size < scanBound:=eI x.len X2;unfold setAddHashed setAddHashedIn;refine IH (Hc (Oy ho hd x.fits ?_));dsimp only;rw[byScan_of (knd:=intKind P w) (x:=.int k tk) rfl lt x.elems];simp only[↓reduceIte];unfold setAddByScan;refine Hc (Hc (Q1 (Hc (wpAny_setScan_of (intKind_is P w k tk) ho hd x.fits x.elems ?_))));cases c:es.toList.findIdx? (λe=>(intKind P w).is k e.2) with
 | some i=>
   obtain⟨hi,p,_⟩:=List.findIdx?_eq_some_iff_getElem.mp c;have there:M k:=(x.mem k).mp (fg.mpr ⟨_,ph hi,(E6 p).1⟩);exact Hd (Hd (q s.heap false (Heap.SameBut.refl a s.heap) ⟨es,ep,t,⟨⟨o,ho,hx,hd⟩,x.elems,x.nd,λj=>(x.mem j).trans ⟨.inl,λz=>z.elim id λe=>e ▸ there⟩,va x.len,x.fits,x.tab,x.led⟩⟩))
 | none=>
   have fresh:k∉rB es:=λm=>by
     obtain⟨e,he,ek⟩:=fg.mp m;have no:=List.findIdx?_eq_none_iff.mp c e he;obtain⟨⟨k',D9,_⟩,_⟩:=x.elems e he;rw[(E6 D9).1]at ek;subst ek;rw[D9]at no;cases no
   have E8:∀(b:Bool) {s1:Shared}{R':Unit->Shared->Prop},R' () s1->wpAny (model P w) A (match b with | true=>rule "set.scan.the-table-gave-way" | false=>pure ()) R' E s1:=λb {s1 R'} z=>by
     cases b with
     | true=>exact Q1 z
     | false=>exact Hd z
   have pm:=layNew_perm t es (hashInt k) (.int k tk);have ft:=layNew_fits t es (hashInt k) (.int k tk);obtain⟨tb,ld⟩:=E5 x.tab es (hashInt k) (.int k tk);dsimp only;generalize layNew t es (hashInt k) (.int k tk)=W at pm ft tb ld ⊢;obtain⟨es1,t1,wd,gv⟩:=W;dsimp only at pm ft tb ld ⊢;rw[uk]at pm;have e1:ElemsOf (intKind P w) es1.toList:=(x.elems.push (intKind_is P w k tk) rfl).perm pm;have kp:(rB es1).Perm (rB es++[k]):=by
     have z:=pm.map λe=>numOf e.2
     rwa [bj]at z
   have n1:(rB es1).Nodup:=kp.nodup_iff.mpr (oy.mpr ⟨x.nd,by simp,λa ha b hb=>by
     have e:b=k:=by simpa using hb
     subst e;exactλz=>fresh (z ▸ ha)⟩)
   have m1:∀j,j∈rB es1↔(M j∨j=k):=λj=>by
     rw[kp.mem_iff,de,x.mem j];simp
   have s1:es1.size<=n + 1:=by
     rw[<- dy,pm.length_eq,ar,dy];exact Nat.succ_le_succ x.len
   refine Hc (E8 _ ?_);have Xe:t1.led=L:=ld.trans x.led;split
   . refine Hc ?_;rw[hashByValue_scannable 8 (x:=.int k tk) rfl];refine Hd ?_;refine GX ?_ ho hx hd e1 n1 m1 s1 ft tb Xe hn λh' z1 z2=>?_
     . intro b s2 R' z;exact E8 b z
     . exact Hd (q h' true z1 z2)
   . refine Hc (Hd ?_);refine GX ?_ ho hx hd e1 n1 m1 s1 ft tb Xe hn λh' z1 z2=>?_
     . intro b s2 R' z;exact E8 b z
     . exact Hd (q h' true z1 z2)
theorem pJ.to {a:Addr}{M':Int->Prop}{n':Nat}(q:pJ P w h a L M n)(e:∀k,M k↔M' k)(le:n<=n'):pJ P w h a L M' n':=by
 obtain⟨es,ep,t,x⟩:=q;exact⟨es,ep,t,⟨x.at_,x.elems,x.nd,λk=>(x.mem k).trans (e k),cw x.len le,x.fits,x.tab,x.led⟩⟩
section
variable {I:Addr}{wr:List Addr}{G:Array GenState->Array GenState->Prop}{Pv:Nat->Value->Prop}{St:Nat->Shared->Prop}
theorem CO (W:WalksS P w A.in1 I fp wr G n Pv St)(out:S∉fp)(val:Nat->Int)(nums:∀i v,Pv i v->∃t,v=.int (val i) t)(i0:n + 1 < scanBound):
   ∀(d i:Nat) (s:Shared),n - i=d->i<=n->St i s->pJ P w s.heap S L (λj=>∃m,m < i/\j=val m) i->
     (∀s',Moved (S::wr) G s s'->pJ P w s'.heap S L (λj=>∃m,m < n/\j=val m) n->R (.ok (.ret .none)) s')->
     codeAny (model P w) A (.builtin "set.update.loop" ⟨[.ref S,.ref I],[]⟩) R s
 | 0,i,s,hd,hi,st,hS,hR=>by
   have e:i=n:=X2
   subst e;refine Kx tq ?_;rw[ke oa _];show wpAny _ A.in1 (pyNext (.ref I) >>=_) _ _ s;refine Hc (W.done s _ _ st λs1 mv=>Hd (hR s1 (mv.mono λb hb=>bc _ hb) (hS.keep λo=>mv.heap S o λz=>out (W.sub _ z))))
 | d + 1,i,s,hd,hi,st,hS,hR=>by
   have lt:i < n:=X2
   refine Kx tq ?_;rw[ke oa _];show wpAny _ A.in1 (pyNext (.ref I) >>=_) _ _ s;refine Hc (W.item i s _ _ lt st λv s1 pv st1 mv=>?_);obtain⟨t,rfl⟩:=nums i v pv;have hS1:=hS.keep λo=>mv.heap S o λz=>out (W.sub _ z);show wpAny _ A.in1 (holding [Value.int (val i) t] (setAdd S (.int (val i) t)) >>=_) _ _ s1;refine Hc (IH ?_);unfold setAdd;refine IH (Hc ((intKind P w).pyHash (k:=val i) (intKind_is _ _ _ _) ?_));refine add_int (s:={ s1 with toks:=s1.toks + 1 }) hS1 X2 λh2 b sb hS2=>?_;have same:∀b o,b≠S->s1.heap.get? b=some o->h2.get? b=some o:=λb o z e=>(sb.2 b z).trans e;refine Hd ⟨PQ oa _,CO W out val nums i0 d (i + 1) _ X2 lt (W.frame _ s1 _ _ st1 (Nat.le_succ _) λb hb o e=>same b o (λz=>out (z ▸ hb)) e) (hS2.to (λk=>?_) (ag _)) λs2 mv2 hS3=>hR s2 ?_ hS3⟩
   . constructor
     . rintro(⟨m,hm,e⟩ | e)
       . exact⟨m,by omega,e⟩
       . exact⟨i,by omega,e⟩
     . rintro⟨m,hm,e⟩
       by_cases c:m=i
       . exact .inr (c ▸ e)
       . exact .inl ⟨m,by omega,e⟩
   . refine Moved.trans W.gtrans ((mv.mono λb hb=>bc _ hb).then_heap (Nat.le_succ _) λb o hb e=>same b o (λz=>hb (z ▸ cb)) e) mv2
end
abbrev fY (w:World):Bool:=!w.params.followText "set-order"
theorem Mw (v:Value){R:Value->Shared->Prop}(h:R 'i' { s with heap:=s.heap.push { cls:=.type "set",dict:=none,data:=.set #[] 0 (.fresh 0 0 (fY w)) } }):
   codeAny (model P w) A (.call (.builtin "set.__new__") ⟨[.type "set",v],[]⟩) (wants R E) s:=by
 refine Tx ?_;show wpAny _ A.in1 (do checkBuiltinCall "set.__new__" ⟨[.type "set",v],[]⟩;again (.builtin "set.__new__" ⟨[.type "set",v],[]⟩)) _ _ s;refine Hc (wpAny_of_eq (PySem.F.newCall_set_1 v) (Hd ⟨PQ PySem.F.plain_set_new _,Kx PySem.F.entry_set_new ?_⟩));rw[ke PySem.F.plain_set_new _];unfold Builtin.«set.__new__» Builtin.Frozenset.newClass;have sub:=PySem.sub_set_self;obtain⟨hp,g,d,tk,os⟩:=s;dsimp only
 wp_walk
 refine OK (Hd ?_);dsimp only;simp only[newObj];exact Hc (wpAny_alloc (Hd (Hd h)))
theorem JR {a:Addr}(g:h.get? a=some { cls:=.type "set",dict:=none,data:=.set #[] 0 (.fresh 0 0 (fY w)) }):pJ P w h a (fY w) (λ_=>False) 0:=
 ⟨#[],0,_,⟨⟨_,g,⟨rfl,rfl,rfl⟩,rfl⟩,λe he=>by simp at he,List.Pairwise.nil,λk=>⟨λz=>by simp[rB]at z,False.elim⟩,ag _,by simp[SetTable.fits,SetTable.fresh,SetTable.fill],⟨rfl,List.Pairwise.nil⟩,rfl⟩⟩
theorem Mx {j:Int}:(∃m,m < ns.length/\j=ns.getD m 0)↔j∈ns:=by
 constructor
 . rintro⟨m,hm,rfl⟩;rw[sk,a9 hm];exact ph hm
 . intro z;obtain⟨m,hm,rfl⟩:=fw.mp z;exact⟨m,hm,by rw[sk,a9 hm];rfl⟩
theorem JU {l:Addr}{items:Array Value}{R:Value->Shared->Prop}(calm:A.handled=none)(hl:s.heap.IsList l items)(hi:IntsAre items.toList ns)(i0:items.size + 1 < scanBound)
   (q:∀(h':Heap) (tk:Nat),pJ P w h' s.heap.objs.size (fY w) (·∈ns) ns.length->(∀b o,s.heap.get? b=some o->h'.get? b=some o)->R 'i' { s with heap:=h',toks:=tk }):
   wpAny (model P w) A (call (.type "set") [.ref l]) R E s:=by
 have len:items.size=ns.length:=by rw[<- hi.nums,ab,dy]
 obtain⟨c0,c1,mro⟩:=PySem.F.called_set.mro;have made:=PySem.F.called_set.made;have subs:=PySem.F.called_set.sub;refine wpAny_call (Tx ?_);show wpAny _ _ (callAny (.type "set") _) _ _ _;refine Hd ⟨Code.quiet_builtin _ X9,Kx PySem.F.entry_type_call ?_⟩;rw[Around.under_plain (weight_type_call_type "set" [.ref l] []) rfl];have k1:=PySem.F.called_set.notType;have k2:=PySem.F.called_set.canCreate;have k3:=PySem.F.typeCall_set_1 (.ref l)
 repeat (any_goals (first | assumption | wp_step))
 refine Qb (Mw (P:=P) (.ref l) (E:=E) (R:=λu s1=>u=.ref s.heap.objs.size/\s1={ s with heap:=s.heap.push { cls:=.type "set",dict:=none,data:=.set #[] 0 (.fresh 0 0 (fY w)) } }) ⟨rfl,rfl⟩) λr s1 hr=>?_;cases r with
 | error e=>exact hr
 | ok fl=>
   cases fl with
   | ret u=>
     obtain⟨rfl,rfl⟩:=hr;have gS:(s.heap.push { cls:=.type "set",dict:=none,data:=.set #[] 0 (.fresh 0 0 (fY w)) }).get? s.heap.objs.size=some { cls:=.type "set",dict:=none,data:=.set #[] 0 (.fresh 0 0 (fY w)) }:=cn _ rfl;have tS:Shared.TypeIs { s with heap:=s.heap.push { cls:=.type "set",dict:=none,data:=.set #[] 0 (.fresh 0 0 (fY w)) } } 'i' "set":=⟨_,gS,rfl⟩
     have i1:=PySem.F.called_set.init.lookup;have i2:=PySem.F.called_set.init.bind 'i'
     repeat (any_goals (first | assumption | wp_step))
     refine Qb (codeAny_call_builtin (R:=wants (λr s2=>r=.none/\∃h' tk,s2={ s with heap:=h',toks:=tk }/\pJ P w h' s.heap.objs.size (fY w) (·∈ns) ns.length/\∀b o,s.heap.get? b=some o->h'.get? b=some o) E) PySem.F.called_set.init.plain PySem.F.entry_set_init (check_set_init_1 tS ?_)) λr2 s2 Rj=>?_
     . obtain⟨ol,gl,cl,nl,dl⟩:=hl;obtain⟨ocls,odict,odata,oslots⟩:=ol;simp only at cl dl;subst cl;subst dl;have gl':(s.heap.push { cls:=.type "set",dict:=none,data:=.set #[] 0 (.fresh 0 0 (fY w)) }).get? l=some { cls:=.type "list",dict:=odict,data:=.seq items nl,slots:=oslots }:=ae _ gl;have n1:=PySem.F.sub_list_set;have n2:=PySem.F.sub_list_frozenset;have n3:(Value.type "list"==Value.type "dict")=false:=Y1
       have My:(s.heap.push { cls:=.type "set",dict:=none,data:=.set #[] 0 (.fresh 0 0 (fY w)) }).IsList l items:=⟨_,gl',rfl,nl,rfl⟩
       unfold Builtin.«set.__init__» noKeywords Builtin.Frozenset.updateFrom;generalize hP:pyIter=PI
       wp_walk
       subst hP;refine Nw My (Hc (wpAny_runValue ?_));have lS:l < s.heap.objs.size:=ba gl;have Xf:A.in1.in1.in1.handled=none:=by simp[calm]
       have szI:(s.heap.push { cls:=.type "set",dict:=none,data:=.set #[] 0 (.fresh 0 0 (fY w)) }).objs.size=s.heap.objs.size + 1:=eQ ..;have lI:l≠(s.heap.push { cls:=.type "set",dict:=none,data:=.set #[] 0 (.fresh 0 0 (fY w)) }).objs.size:=by rw[szI];exact cv (i4 lS)
       have nS:s.heap.objs.size∉[(s.heap.push { cls:=.type "set",dict:=none,data:=.set #[] 0 (.fresh 0 0 (fY w)) }).objs.size,l]:=by
         rw[szI];simp only[List.mem_cons,List.not_mem_nil,Jn,NM];exact⟨cv (kf _),fI lS⟩
       refine CO (L:=fY w) ((Walks.list Xf _ l lI items).toS) nS (λi=>ns.getD i 0) (λi v hv=>IntsAre.int_at hi i v (by rw[vy];exact hv)) i0 (items.size - 0) 0 _ X2 (gs _) ⟨⟨_,cn _ rfl,rfl,rfl⟩,My.push _⟩ ?_ ?_
       . refine(JR (P:=P) (ae _ gS)).to (λk=>⟨False.elim,?_⟩) (ag _);rintro⟨m,hm,_⟩;exact absurd hm (Nat.not_lt_zero _)
       . intro s3 mv hS;obtain⟨h3,g3,d3,tk3,os3⟩:=s3;have e1:g3=s.gens:=mv.gens;have e2:d3=s.drawn:=mv.drawn;have e3:os3=s.os:=mv.os;subst e1;subst e2;subst e3;refine Hd (Hd ⟨rfl,h3,tk3,rfl,hS.to (λk=>by rw[len];exact Mx) (nz len),λb o e=>?_⟩);have lt:b < s.heap.objs.size:=ba e;refine mv.heap b o ?_ (ae _ (ae _ e));rw[szI];simp only[List.mem_cons,List.not_mem_nil,Jn,NM];exact⟨cv lt,cv (i4 lt)⟩
     . cases r2 with
       | error e=>exact Rj
       | ok fl2=>
         cases fl2 with
         | ret r=>
           obtain⟨rfl,h',tk,rfl,hS,hk⟩:=Rj
           repeat (any_goals (first | assumption | wp_step))
           exact q _ _ hS hk
         | next=>exact Rj.elim
         | brk=>exact Rj.elim
         | cont=>exact Rj.elim
   | next=>exact hr.elim
   | brk=>exact hr.elim
   | cont=>exact hr.elim
theorem bV:Slot "set_iterator" "__next__" "set_iterator.__next__":=
 .of (owner:="set_iterator") (n:="__next__") (by rw[Sr,Pt];kernel_rfl) X9 X9 X9 (by first | exact .inl X9 | exact .inr X9) (by rw[isSubtype_type];kernel_rfl)
theorem rD:Slot "set_iterator" "__iter__" "set_iterator.__iter__":=
 .of (owner:="set_iterator") (n:="__iter__") (by rw[Sr,Pt];kernel_rfl) X9 X9 X9 (by first | exact .inl X9 | exact .inr X9) (by rw[isSubtype_type];kernel_rfl)
theorem ig:entryFor table "set_iterator.__next__"=some Builtin.«set_iterator.__next__»:=entryFor_of_tree (by kernel_rfl)
theorem iY (a:Value):argsOk "set_iterator.__next__" ⟨[a],[]⟩:=by unfold argsOk;kernel_rfl
theorem AY:entryFor table "set.__iter__"=some Builtin.«frozenset.__iter__»:=entryFor_alias (id':="frozenset.__iter__") (by kernel_rfl) rfl X9 (by kernel_rfl)
theorem yw:entryFor table "set_iterator.__iter__"=some Builtin.«dict_keyiterator.__iter__»:=entryFor_alias (id':="dict_keyiterator.__iter__") (by kernel_rfl) rfl X9 (by kernel_rfl)
theorem AZ (a:Value):argsOk "set_iterator.__iter__" ⟨[a],[]⟩:=by unfold argsOk;kernel_rfl
def pQ (h:Heap)(it S:Addr)(f:Value)(i n ep:Nat):Prop:=h.get? it=some { cls:=.type "set_iterator",dict:=none,data:=.fields #[f,.int i 0,.ref S,.int n 0,.int ep 0],slots:=#[] }
def mJ (h:Heap)(S:Addr)(es:Array (Int×Value))(ep:Nat)(t:SetTable):Prop:=∃o,h.get? S=some o/\o.data=.set es ep t
section
variable {es:Array (Int×Value)}{t:SetTable}{R:Option Value->Shared->Prop}
theorem jf (hS:mJ s.heap S es ep t)(ft:t.fits es.size=true){Q:Array (Int×Value)->Shared->Prop}(q:Q es s):wpAny (model P w) A (setEntries S) Q E s:=by
 obtain⟨o,h1,h2⟩:=hS;unfold setEntries;exact Hc (Oy h1 h2 ft (Hd q))
theorem oY {vs:Array Value}{o:Obj}(h:s.heap.get? it=some o)(d:o.data=.fields vs){Q:Array Value->Shared->Prop}(q:Q vs s):wpAny (model P w) A (fieldsOf (.ref it)) Q E s:=by
 unfold fieldsOf;refine Hc (wpAny_load h ?_);rw[d];exact Hd q
theorem uu {s1:Shared}{F:Fin->Shared->Prop}(calm:A.handled=none)(q:∀h',(∀b o,s1.heap.get? b=some o->h'.get? b=some o)->R none { s1 with heap:=h' }):
   wpAny (model P w) A.in1 (newExc (.type "StopIteration") [] >>=λx=>raiseNew x) F (λe s'=>wpAny (model P w) A (do let __do_lift <- isInstance e (.type "StopIteration");if __do_lift=true then pure none else throw e) R E s') s1:=by
 refine Hc ?_;simp only[newExc,newTuple];refine Hc (P2 (Hc (m:=firstArgMember _ _) (wpAny_of_eq (a:=Value.none) (by first | rfl | (simp only[firstArgMember];rfl)) (P2 ?_ (by size_fits)))) (by size_fits));refine wpAny_raiseNew_none (show A.in1.handled=none from calm) ?_;refine Hc (Tb (T:="StopIteration") (b:=true) ⟨_,cn _ rfl,rfl⟩ isSubtype_stop ?_);exact Hd (q _ λb o e=>ae _ (ae _ e))
theorem JV {sl nx:Nat}{x:Value}(hit:pQ s.heap it S (.int sl 0) i n ep)(hS:mJ s.heap S es ep t)(ft:t.fits es.size=true)(hn:es.size=n)
   (step:∀(Q:Option (Value×Nat)->Shared->Prop) (E:Value->Shared->Prop),Q (some (x,nx)) s->wpAny (model P w) A.in1 (setNext S sl i ep) Q E s)
   (q:∀h',pQ h' it S (.int nx 0) (i + 1) n ep->Heap.SameBut it s.heap h'->R (some x) { s with heap:=h' }):wpAny (model P w) A (pyNext (.ref it)) R E s:=by
 have ty:s.TypeIs (.ref it) "set_iterator":=⟨_,hit,rfl⟩
 unfold pyNext;refine Hc (RF (Mo (name:=Str.ofString "__next__") ty bV (L9 bV ty ig ?_ (iY _))));unfold Builtin.«set_iterator.__next__»;refine Hc (m:=slotArgs "__next__" 0 _) (Hd ?_);refine Hc (oY hit rfl ?_);dsimp only;refine Hc (jf hS ft ?_);rw[hn,He Y2];simp only[my];refine Hc (step _ _ ?_);refine Hc (Ki hit Y2 λh1 g1 b1=>?_);refine Hc (Ki (s:={ s with heap:=h1 }) g1 Y2 λh2 g2 b2=>?_);exact Hd ⟨x,rfl,Hd (q h2 g2 (b1.trans b2))⟩
theorem JX {sl:Nat}(calm:A.handled=none)(hit:pQ s.heap it S (.int sl 0) i n ep)(hS:mJ s.heap S es ep t)(ft:t.fits es.size=true)(hn:es.size=n)
   (step:∀(Q:Option (Value×Nat)->Shared->Prop) (E:Value->Shared->Prop),Q none s->wpAny (model P w) A.in1 (setNext S sl i ep) Q E s)
   (q:∀h',Heap.ExtBut it s.heap h'->R none { s with heap:=h' }):wpAny (model P w) A (pyNext (.ref it)) R E s:=by
 have ty:s.TypeIs (.ref it) "set_iterator":=⟨_,hit,rfl⟩
 unfold pyNext;refine Hc (RF (Mo (name:=Str.ofString "__next__") ty bV (L9 bV ty ig ?_ (iY _))));unfold Builtin.«set_iterator.__next__»;refine Hc (m:=slotArgs "__next__" 0 _) (Hd ?_);refine Hc (oY hit rfl ?_);dsimp only;refine Hc (jf hS ft ?_);rw[hn,He Y2];simp only[my];refine Hc (step _ _ ?_);refine Hc (Ki hit Y2 λh1 g1 b1=>?_);exact uu (s1:={ s with heap:=h1 }) calm λh2 k=>q h2 λb o ne e=>k b o (b1.extBut b o ne e)
theorem JY {ps:Array Value}{k:Nat}{hv:Int}{x:Value}(hit:pQ s.heap it S (.ref T) i n ep)(hS:mJ s.heap S es ep t)(ft:t.fits es.size=true)(hn:es.size=n)
   (hT:∃o m,s.heap.get? T=some o/\o.data=.seq ps m) (hp:ps[i]?=some (.int k 0)) (hx:es[k]?=some (hv,x))
   (q:∀h',pQ h' it S (.ref T) (i + 1) n ep->Heap.SameBut it s.heap h'->R (some x) { s with heap:=h' }):wpAny (model P w) A (pyNext (.ref it)) R E s:=by
 have ty:s.TypeIs (.ref it) "set_iterator":=⟨_,hit,rfl⟩
 obtain⟨oT,mT,gT,dT⟩:=hT;unfold pyNext;refine Hc (RF (Mo (name:=Str.ofString "__next__") ty bV (L9 bV ty ig ?_ (iY _))));unfold Builtin.«set_iterator.__next__»;refine Hc (m:=slotArgs "__next__" 0 _) (Hd ?_);refine Hc (oY hit rfl ?_);dsimp only;refine Hc (jf hS ft ?_);rw[hn,He Y2];simp only[my];refine Hc (Pl gT dT ?_);dsimp only;rw[hp];dsimp only;obtain⟨oS,gS,dS⟩:=hS;unfold setNextDrawn;refine Hc (Hc (Oy gS dS ft ?_));dsimp only;rw[He Y2,my,hx];refine Hd (Hc (Ki hit Y2 λh1 g1 b1=>?_));exact Hd ⟨x,rfl,Hd (q h1 g1 b1)⟩
theorem JZ {ps:Array Value}(calm:A.handled=none)(hit:pQ s.heap it S (.ref T) i n ep)(hS:mJ s.heap S es ep t)(ft:t.fits es.size=true)(hn:es.size=n)
   (hT:∃o m,s.heap.get? T=some o/\o.data=.seq ps m) (hp:ps[i]?=none)
   (q:∀h',Heap.ExtBut it s.heap h'->R none { s with heap:=h' }):wpAny (model P w) A (pyNext (.ref it)) R E s:=by
 have ty:s.TypeIs (.ref it) "set_iterator":=⟨_,hit,rfl⟩
 obtain⟨oT,mT,gT,dT⟩:=hT;unfold pyNext;refine Hc (RF (Mo (name:=Str.ofString "__next__") ty bV (L9 bV ty ig ?_ (iY _))));unfold Builtin.«set_iterator.__next__»;refine Hc (m:=slotArgs "__next__" 0 _) (Hd ?_);refine Hc (oY hit rfl ?_);dsimp only;refine Hc (jf hS ft ?_);rw[hn,He Y2];simp only[my];refine Hc (Pl gT dT ?_);dsimp only;rw[hp];dsimp only;refine Hc (Ki hit Y2 λh1 g1 b1=>?_);refine Hc (Ki (s:={ s with heap:=h1 }) g1 Y2 λh2 g2 b2=>?_);exact uu (s1:={ s with heap:=h2 }) calm λh3 k=>q h3 λb o ne e=>k b o ((b1.trans b2).extBut b o ne e)
theorem zS {sl:Nat}(tx:w.params.followText "set-order"=true)(hS:mJ s.heap S es ep t)(ft:t.fits es.size=true)(Q:Option (Value×Nat)->Shared->Prop)
   (q:Q (((pickOrder (w.params.setOrder S ep) es)[i]?).map λe=>(e.2,sl)) s):wpAny (model P w) A (setNext S sl i ep) Q E s:=by
 obtain⟨o,g,d⟩:=hS;unfold setNext;refine Hc (Oy g d ft ?_);dsimp only;refine Hc (m:=setsByText) (Hc (OK (Hd ?_)));rw[Hk (show(model P w).w.params.followText "set-order"=true from tx),He Y2];unfold setWalk;refine Hc (Hc (Oy g d ft ?_));dsimp only;refine Hc (m:=setsByText) (Hc (OK (Hd ?_)));rw[Hk (show(model P w).w.params.followText "set-order"=true from tx)];exact Hc (OK (Hd (Hd q)))
theorem CP {sl:Nat}(tx:w.params.followText "set-order"=false)(pl:(!t.plain&&decide (es.size > 1))=false)(led:t.led=true)(hS:mJ s.heap S es ep t)(ft:t.fits es.size=true)(Q:Option (Value×Nat)->Shared->Prop)
   (q:Q (match es[SetTable.below t.place sl]?,t.place[SetTable.below t.place sl]? with | some (_,x),some j=>some (x,j + 1) | _,_=>none) s):wpAny (model P w) A (setNext S sl i ep) Q E s:=by
 obtain⟨o,g,d⟩:=hS;unfold setNext;refine Hc (Oy g d ft ?_);dsimp only;refine Hc (m:=setsByText) (Hc (OK (Hd ?_)));rw[He (show ¬ (model P w).w.params.followText "set-order"=true by rw[show(model P w).w.params.followText "set-order"=false from tx];decide)];split
 . next c=>exact absurd (show(!t.plain&&decide (es.size > 1))=true from c) (by rw[pl];decide)
 refine Hc ?_;show wpAny _ _ (if (!t.led&&!es.isEmpty)=true then unsupported _ else pure ()) _ _ _;rw[led,He Y2];exact Hd (Hd q)
end
section
variable {es:Array (Int×Value)}{t:SetTable}
theorem mJ.keep (x:mJ h S es ep t)(k:∀o,h.get? S=some o->h'.get? S=some o):mJ h' S es ep t:=by
 obtain⟨o,g,d⟩:=x;exact⟨o,k o g,d⟩
theorem GY {f:Value}{Q:Value->Shared->Prop}(hit:pQ s.heap it S f i n ep)(q:Q (.ref it) s):wpAny (model P w) A (pyIter (.ref it)) Q E s:=by
 have ty:s.TypeIs (.ref it) "set_iterator":=⟨_,hit,rfl⟩
 refine wpAny_pyIter_slot ty rD (L9 rD ty yw ?_ (AZ _));show wpAny _ _ (ret (.ref it)) _ _ s;exact Hd ⟨_,rfl,"set_iterator",_,ty,bV.lookup,q⟩
theorem Mz (calm:A.handled=none)(ne:it≠S)(ft:t.fits es.size=true)(vals:Array Value)(len:vals.size=es.size)(sl:Nat->Nat)
   (step:∀(i:Nat) (x:Value) (s:Shared) (Q:Option (Value×Nat)->Shared->Prop) (E:Value->Shared->Prop),vals[i]?=some x->mJ s.heap S es ep t->Q (some (x,sl (i + 1))) s->wpAny (model P w) A.in1 (setNext S (sl i) i ep) Q E s)
   (last:∀(s:Shared) (Q:Option (Value×Nat)->Shared->Prop) (E:Value->Shared->Prop),mJ s.heap S es ep t->Q none s->wpAny (model P w) A.in1 (setNext S (sl vals.size) vals.size ep) Q E s):
   Walks P w A it [it,S] [it] vals.size (λi v=>vals[i]?=some v) (λi h=>pQ h it S (.int (sl i) 0) i es.size ep/\mJ h S es ep t) where
 sub:=λb hb=>by simp at hb;simp[hb]
 frame:=λi h h' st k=>⟨k it Y2 _ st.1,st.2.keep λo=>k S Y2 o⟩
 item:=λi s Q E hi st q=>by
   have e:vals[i]?=some vals[i]:=dn hi;refine JV st.1 st.2 ft rfl (λQ' E' q'=>step i _ s Q' E' e st.2 q') λh' g b=>?_;exact q _ h' s.toks e ⟨g,st.2.keep λo=>b.extBut S o (Ne.symm ne)⟩ λc o hc=>b.extBut c o (by simpa using hc)
 done:=λs Q E st q=>by
   refine JX calm st.1 st.2 ft rfl (λQ' E' q'=>last s Q' E' st.2 q') λh' b=>?_;exact q h' s.toks λc o hc=>b c o (by simpa using hc)
 self:=λi s Q E st q=>GY st.1 q
theorem J0 (calm:A.handled=none)(ne:it≠S)(neT:it≠T)(ft:t.fits es.size=true)(ps:List Nat)(len:ps.length=es.size)(lt:∀k∈ps,k < es.size):
   Walks P w A it [it,S,T] [it] ps.length (λi v=>((ps.map λk=>(es.getD k (0,.none)).2).toArray)[i]?=some v) (λi h=>pQ h it S (.ref T) i es.size ep/\mJ h S es ep t/\∃o m,h.get? T=some o/\o.data=.seq ((ps.map λk=>Value.int (k:Nat) 0).toArray) m) where
 sub:=λb hb=>by simp at hb;simp[hb]
 frame:=λi h h' st k=>⟨k it Y2 _ st.1,st.2.1.keep λo=>k S Y2 o,let ⟨o,m,g,d⟩:=st.2.2;⟨o,m,k T Y2 _ g,d⟩⟩
 item:=λi s Q E hi st q=>by
   have e:ps[i]?=some ps[i]:=a9 hi;have lk:=lt _ (ph hi);have ee:es[ps[i]]?=some (es[ps[i]].1,es[ps[i]].2):=dn lk;refine JY (k:=ps[i]) st.1 st.2.1 ft rfl st.2.2 (by rw[og,ax,e];rfl) ee λh' g b=>?_;refine q _ h' s.toks ?_ ⟨g,st.2.1.keep λo=>b.extBut S o (Ne.symm ne),let ⟨o,m,g,d⟩:=st.2.2;⟨o,m,b.extBut T o (Ne.symm neT) g,d⟩⟩ λc o hc=>b.extBut c o (by simpa using hc);rw[og,ax,e,Option.map_some,fo,dn lk];rfl
 done:=λs Q E st q=>by
   refine JZ calm st.1 st.2.1 ft rfl st.2.2 (by rw[og,ax,List.getElem?_eq_none (ag _)];rfl) λh' b=>?_;exact q h' s.toks λc o hc=>b c o (by simpa using hc)
 self:=λi s Q E st q=>GY st.1 q
end
theorem qo {α:Type}:∀(l:List α) (i:Nat) (h:i < l.length),(l[i]::l.eraseIdx i).Perm l
 | a::l,0,_=>List.Perm.refl _
 | a::l,i + 1,h=>by
   have hi:i < l.length:=by simpa using h
   have ih:=qo l i hi;show(l[i]::a::l.eraseIdx i).Perm (a::l);exact(List.Perm.swap _ _ _).trans (List.Perm.cons a ih)
theorem zT {α:Type}(nx:Nat->Nat):∀(fuel k:Nat) (left:List α) (out:Array α),fuel=left.length->(pickOrder.go nx fuel k left out).toList.Perm (out.toList++left)
 | 0,k,left,out,h=>by
   have e:left=[]:=px.mp h.symm;subst e;unfold pickOrder.go;simp
 | fuel + 1,k,left,out,h=>by
   have lt:nx k % left.length < left.length:=Nat.mod_lt _ X2;unfold pickOrder.go;rw[a9 lt];dsimp only;refine(zT nx fuel (k + 1) _ _ (by rw[Bi lt];omega)).trans ?_;rw[uk,gL];exact List.Perm.append_left _ (qo _ _ lt)
theorem ng (nx:Nat->Nat)(xs:Array α):(pickOrder nx xs).toList.Perm xs.toList:=by
 have h:=zT nx xs.size 0 xs.toList #[] Y2;simpa[pickOrder] using h
theorem zU {P:Program}{w:World}{A:Around}{E:Value->Shared->Prop}{α:Type}:∀(n:Nat) (xs:List α) (s:Shared) (Q:List α->Shared->Prop),n=xs.length->(∀ys d,ys.Perm xs->Q ys { s with drawn:=d })->wpAny (model P w) A (drawOrder n xs) Q E s
 | 0,xs,s,Q,h,q=>by
   have e:xs=[]:=px.mp h.symm;subst e;exact Hd (q [] s.drawn (List.Perm.refl _))
 | n + 1,[],s,Q,h,q=>by simp at h
 | n + 1,x::xs,s,Q,h,q=>by
   unfold drawOrder;refine Hc ?_;have ch:∀(R:Nat->Shared->Prop),(∀i d,i < (x::xs).length->R i { s with drawn:=d })->wpAny (model P w) A (choose .order (x::xs).length) R E s:=λR hR Γ p hΓ=>by
     refine⟨by simp,?_⟩;exact hR _ _ (Nat.mod_lt _ Y2)
   refine ch _ λi d hi=>?_;rw[a9 hi];dsimp only;refine Hc (zU n _ _ _ (by rw[Bi hi];simp at h ⊢;omega) λys d2 p=>Hd (q _ _ ?_));exact(List.Perm.cons _ p).trans (qo _ _ hi)
structure PV (P:Program)(w:World)(A:Around)(s s':Shared)(S it:Addr)(fp:List Addr)(vals:Array Value)(St:Nat->Heap->Prop):Prop where
 walk:Walks P w A it fp [it] vals.size (λi v=>vals[i]?=some v) St
 st:St 0 s'.heap
 below:∀b∈fp,b < s'.heap.objs.size
 new:∀b∈fp,b=S∨s.heap.objs.size<=b
 old:s.heap.objs.size<=it
 gens:s'.gens=s.gens
 os:s'.os=s.os
 keep:∀b o,s.heap.get? b=some o->s'.heap.get? b=some o
section
variable {es:Array (Int×Value)}{t:SetTable}
theorem CQ (x:GW P w s.heap S L M n es ep t):∀i,i<=es.size->SetTable.below t.place (if i=0 then 0 else t.place.getD (i - 1) 0 + 1)=i:=λi hi=>by
 have sz:t.place.size=es.size:=by
   have:=x.fits;simp only[SetTable.fits,cp,SU]at this;exact this.1
 obtain⟨b1,b2,b3⟩:=wm x.tab.rise (if i=0 then 0 else t.place.getD (i - 1) 0 + 1);generalize hj:(if i=0 then 0 else t.place.getD (i - 1) 0 + 1)=j at *;generalize SetTable.below t.place j=p at *;have dflt:∀k a b,k < t.place.size->t.place.getD k a=t.place.getD k b:=λk a b hk=>by
   rw[fo,fo,dn hk];rfl
 by_cases c:p < i
 . exfalso
   have h1:=b3 p (ag _);rw[He X2]at hj;have h2:t.place.getD p j<=t.place.getD (i - 1) j:=by
     by_cases e:p=i - 1
     . rw[e];exact ag _
     . exact fv (x.tab.rise.lt X2 X2)
   rw[dflt (i - 1) j 0 X2]at h2;omega
 . by_cases d:i < p
   . exfalso
     have h1:=b2 i d
     by_cases z:i=0
     . rw[Hk z]at hj;omega
     . rw[He z]at hj;have lt:i < t.place.size:=X2
       have h2:=x.tab.rise.lt (j:=j) (show i - 1 < i by omega) lt;rw[dflt (i - 1) j 0 X2]at h2;omega
   . omega
theorem MA (calm:A.handled=none)(x:GW P w s.heap S (fY w) M n es ep t)(i0:es.size<=sizeLine){R:Value->Shared->Prop}
   (q:∀it fp (vals:Array Value) St s',PV P w A s s' S it fp vals St->vals.toList.Perm (es.toList.map (·.2))->it∈fp->R (.ref it) s'):wpAny (model P w) A (pyIter (.ref S)) R E s:=by
 obtain⟨o,g,ex,d⟩:=x.at_;have ty:s.TypeIs (.ref S) "set":=⟨o,g,ex.1⟩
 have Uu:S < s.heap.objs.size:=ba g;have hS:mJ s.heap S es ep t:=⟨o,g,d⟩
 refine wpAny_pyIter_slot ty PySem.F.slot_set_iter (L9 PySem.F.slot_set_iter ty AY ?_ (PySem.F.args_set_iter_1 _));unfold Builtin.«frozenset.__iter__» Builtin.Frozenset.slot0 Builtin.Frozenset.sizeOf;refine Hc (Hc (m:=slotArgs "__iter__" 0 _) (Hd ?_));refine Hd (Hc (Hc (jf hS x.fits (Hd ?_))));have made:∀(f:Value) (s1:Shared) (F:Fin->Shared->Prop),mJ s1.heap S es ep t->(∀it s2,s2={ s1 with heap:=s1.heap.push { cls:=.type "set_iterator",dict:=none,data:=.fields #[f,.int 0 0,.ref S,.int es.size 0,.int ep 0],slots:=#[] } }->it=s1.heap.objs.size->pQ s2.heap it S f 0 es.size ep->F (.done (.ret (.ref it))) s2)->
     wpAny (model P w) A.in1 (do let e <- setEpoch S;let v <- newFields "set_iterator" [f,rawInt 0,.ref S,rawInt es.size,rawInt e];ret v) F E s1:=λf s1 F h1 h2=>by
   obtain⟨o1,g1,d1⟩:=h1;refine Hc (wpAny_setEpoch_of g1 d1 x.fits (Hc (P2 ?_ (by size_fits))));exact Hd (h2 _ _ rfl rfl (cn _ rfl))
 have sz:t.place.size=es.size:=by
   have:=x.fits;simp only[SetTable.fits,cp,SU]at this;exact this.1
 have CS:∀(vals:Array Value) (sl:Nat->Nat),vals.size=es.size->sl 0=0->vals.toList.Perm (es.toList.map (·.2))->
     (∀(i:Nat) (x:Value) (s:Shared) (Q:Option (Value×Nat)->Shared->Prop) (E:Value->Shared->Prop),vals[i]?=some x->mJ s.heap S es ep t->Q (some (x,sl (i + 1))) s->wpAny (model P w) A.in1 (setNext S (sl i) i ep) Q E s)->
     (∀(s:Shared) (Q:Option (Value×Nat)->Shared->Prop) (E:Value->Shared->Prop),mJ s.heap S es ep t->Q none s->wpAny (model P w) A.in1 (setNext S (sl vals.size) vals.size ep) Q E s)->
     wpAny (model P w) A.in1 (do let f <- pure (rawInt 0);let e <- setEpoch S;let v <- newFields "set_iterator" [f,rawInt 0,.ref S,rawInt es.size,rawInt e];ret v)
       (λfin s'=>∃v,fin=.done (.ret v)/\∃T' r,s'.TypeIs v T'/\typeLookup (.type T') (Str.ofString "__next__")=pure (some r)/\R v s') E s:=λvals sl len h0 pm step last=>by
   refine Hc (Hd (made _ s _ hS λit s2 e2 e1 si=>?_));subst e2 e1;refine⟨_,rfl,"set_iterator",_,⟨_,si,rfl⟩,bV.lookup,q _ [s.heap.objs.size,S] vals _ _ ⟨Mz calm (fI Uu) x.fits vals len sl step last,⟨by rw[h0];exact si,hS.keep λo=>ae _⟩,λb hb=>?_,λb hb=>?_,ag _,rfl,rfl,λb o=>ae _⟩ pm Y2⟩
   rotate_left
   . simp only[List.mem_cons,List.not_mem_nil,Jn]at hb;rcases hb with rfl | rfl
     . exact .inr (ag _)
     . exact .inl rfl
   show b < (s.heap.push _).objs.size;rw[eQ];simp only[List.mem_cons,List.not_mem_nil,Jn]at hb;rcases hb with rfl | rfl
   . exact kf _
   . exact i4 Uu
 unfold setDrawn;refine Hc (Hc (Oy g d x.fits ?_));dsimp only;refine Hc (m:=setsByText) (Hc (OK (Hd (Hd ?_))));cases tx:w.params.followText "set-order" with
 | true=>
   rw[He (by rw[show(model P w).w.params.followText "set-order"=true from tx];simp)];refine CS ((pickOrder (w.params.setOrder S ep) es).map (·.2)) (λ_=>0) ?_ rfl ?_ ?_ ?_
   . rw[FX,<- dy,(ng _ es).length_eq,dy]
   . rw[Array.toList_map];exact(ng _ es).map _
   . intro i v s1 Q' E' hv h1 q';refine zS tx h1 x.fits Q' ?_;rw[Array.getElem?_map]at hv;obtain⟨e,he,rfl⟩:=bp.mp hv;rw[he];exact q'
   . intro s1 Q' E' h1 q';refine zS tx h1 x.fits Q' ?_;rw[mn (by rw[FX];exact ag _)];exact q'
 | false=>
   have led:t.led=true:=by rw[x.led,fY,tx];rfl
   by_cases pl:(!t.plain&&decide (es.size > 1))=true
   . rw[Hk (by rw[show(model P w).w.params.followText "set-order"=false from tx];exact pl)];refine Hc (zU es.size (List.range es.size) s _ Y2 λys dd pm=>?_);have lY:ys.length=es.size:=by rw[pm.length_eq,List.length_range]
     have ltY:∀k∈ys,k < es.size:=λk hk=>List.mem_range.mp (pm.mem_iff.mp hk);refine Hc (wpAny_newTuple ?_ (by rw[ab,lY];exact i0));refine made _ _ _ (hS.keep λo=>ae _) λit s2 e2 e1 si=>?_;subst e2 e1;have Vv:(s.heap.push { cls:=.type "tuple",data:=.seq ((ys.map λk=>rawInt (k:Nat)).toArray) }).objs.size=s.heap.objs.size + 1:=eQ ..;have it1:(s.heap.push { cls:=.type "tuple",data:=.seq ((ys.map λk=>rawInt (k:Nat)).toArray) }).objs.size≠S:=by rw[Vv];exact fI (i4 Uu)
     have it2:(s.heap.push { cls:=.type "tuple",data:=.seq ((ys.map λk=>rawInt (k:Nat)).toArray) }).objs.size≠s.heap.objs.size:=by rw[Vv];exact fI (kf _)
     have W:=J0 (P:=P) (w:=w) (A:=A) (ep:=ep) calm it1 it2 x.fits ys lY ltY;have len:((ys.map λk=>(es.getD k (0,.none)).2).toArray).size=ys.length:=Y2
     rw[<- len]at W;refine⟨_,rfl,"set_iterator",_,⟨_,si,rfl⟩,bV.lookup,q _ _ _ _ _ ⟨W,⟨si,hS.keep λo z=>ae _ (ae _ z),_,_,ae _ (cn _ rfl),rfl⟩,λb hb=>?_,λb hb=>?_,by rw[Vv];exact Nat.le_succ _,rfl,rfl,λb o z=>ae _ (ae _ z)⟩ ?_ Y2⟩
     . show b < ((s.heap.push _).push _).objs.size;rw[eQ];simp only[List.mem_cons,List.not_mem_nil,Jn]at hb;rcases hb with rfl | rfl | rfl
       . exact kf _
       . rw[Vv];exact i4 (i4 Uu)
       . rw[Vv];exact i4 (kf _)
     . simp only[List.mem_cons,List.not_mem_nil,Jn]at hb;rcases hb with rfl | rfl | rfl
       . exact .inr (by rw[Vv];exact Nat.le_succ _)
       . exact .inl rfl
       . exact .inr (ag _)
     . have e:(List.range es.size).map (λk=>(es.getD k (0,.none)).2)=es.toList.map (·.2):=by
         apply List.ext_getElem
         . simp
         . intro i h1 h2;simp only[ab,List.length_range]at h1;simp[Array.getD,h1]
       show(ys.map λk=>(es.getD k (0,.none)).2).Perm _;rw[<- e];exact pm.map _
   . rw[He (by rw[show(model P w).w.params.followText "set-order"=false from tx];exact pl)];have pl':(!t.plain&&decide (es.size > 1))=false:=by simpa using pl
     refine CS (es.map (·.2)) (λi=>if i=0 then 0 else t.place.getD (i - 1) 0 + 1) Y2 rfl (by rw[Array.toList_map]) ?_ ?_
     . intro i v s1 Q' E' hv h1 q';refine CP tx pl' led h1 x.fits Q' ?_;rw[Array.getElem?_map]at hv;obtain⟨e,he,rfl⟩:=bp.mp hv;have lt:i < es.size:=(Array.getElem?_eq_some_iff.mp he).1;rw[CQ x i X2,he,dn X2];have e1:t.place.getD (i + 1 - 1) 0=t.place[i]'X2:=by
         rw[Nat.add_sub_cancel,fo,dn X2];rfl
       dsimp only at q' ⊢;rw[He (Nat.succ_ne_zero i),e1]at q';exact q'
     . intro s1 Q' E' h1 q';refine CP tx pl' led h1 x.fits Q' ?_;rw[FX,CQ x es.size (ag _),mn (ag _)];exact q'
end
theorem CT:typeLookup (.type "set") "__len__"=pure (some (.builtin "set.__len__")):=by rw[Sr,Pt];kernel_rfl
theorem PX {es:Array (Int×Value)}(h:ElemsOf (intKind P w) es.toList)(pm:us.Perm (es.toList.map (·.2))):IntsAre us (us.map numOf)/\(us.map numOf).Perm (rB es):=by
 refine⟨intsAre_map us λv hv=>?_,?_⟩
 . obtain⟨e,he,rfl⟩:=fg.mp (pm.mem_iff.mp hv);obtain⟨⟨k,hk,_⟩,_⟩:=h e he;obtain⟨_,t,z⟩:=E6 hk;exact⟨k,t,z⟩
 . have z:=pm.map numOf
   rwa [dq]at z
theorem CU (calm:A.handled=none)(h:pJ P w s.heap S (fY w) M n)(i0:n<=1000){Q:List Value->Shared->Prop}
   (q:∀(us:List Value) (ks:List Int) (s':Shared),IntsAre us ks->ks.Nodup->(∀k,k∈ks↔M k)->ks.length<=n->s'.gens=s.gens->s'.os=s.os->(∀b o,s.heap.get? b=some o->s'.heap.get? b=some o)->s.heap.objs.size<=s'.heap.objs.size->Q us s'):
   wpAny (model P w) A (collect (.ref S)) Q E s:=by
 obtain⟨es,ep,t,x⟩:=h;obtain⟨o,g,ex,d⟩:=x.at_;have Uu:S < s.heap.objs.size:=ba g;have line:n<=sizeLine:=cw i0 Y1;unfold collect;refine Hc (wpAny_runValue (Kx PySem.F.entry_proto_collect ?_));rw[ke PySem.F.plain_proto_collect _];show wpAny _ A.in1 (newList [] >>=λl=>again (.builtin "list.__iadd__" ⟨[l,.ref S],[]⟩)) _ _ s;refine Hc (P2 (Hd ⟨PQ PySem.F.plain_list_iadd _,Kx PySem.F.entry_list_iadd ?_⟩));rw[ke PySem.F.plain_list_iadd _];have gD:(s.heap.push { cls:=.type "list",data:=.seq ([]:List Value).toArray }).get? s.heap.objs.size=some { cls:=.type "list",data:=.seq ([]:List Value).toArray }:=cn _ rfl;have x1:GW P w (s.heap.push { cls:=.type "list",data:=.seq ([]:List Value).toArray }) S (fY w) M n es ep t:=⟨⟨o,ae _ g,ex,d⟩,x.elems,x.nd,x.mem,x.len,x.fits,x.tab,x.led⟩
 have szD:(s.heap.push { cls:=.type "list",data:=.seq ([]:List Value).toArray }).objs.size=s.heap.objs.size + 1:=eQ ..;show wpAny _ A.in1 (Builtin.List.listExtendWith 'i' (.ref S) 'i') _ _ { s with heap:=s.heap.push { cls:=.type "list",data:=.seq ([]:List Value).toArray } };have ty1:Shared.TypeIs { s with heap:=s.heap.push { cls:=.type "list",data:=.seq ([]:List Value).toArray } } (.ref S) "set":=⟨o,ae _ g,ex.1⟩
 have apart:Builtin.List.listSameRef 'i' (.ref S)=false:=by
   simp only[Builtin.List.listSameRef,beq_eq_false_iff_ne];exact fI Uu
 unfold Builtin.List.listExtendWith;refine Hc (Ta ty1 ?_);rw[He (by rw[apart];decide)];refine Hc (MA (A:=A.in1) (by simpa using calm) x1 (cw x.len line) λit fp vals St s2 W pm hit=>?_);have ty2:s2.TypeIs (.ref S) "set":=⟨o,W.keep S o (ae _ g),ex.1⟩
 refine Hc (IH ?_);unfold Builtin.List.listLengthHint;refine Hc (RR ty2 CT ?_)
 wp_delta
 refine Hc (Tb (T:="set") (b:=true) ty2 (by rw[isSubtype_type];kernel_rfl) ?_);show wpAny _ _ (typeOf (Value.ref S) >>=_) _ _ _;refine Hc (Ta ty2 ?_);refine Hd ?_;rw[Hk Y1];refine Hc (Q1 ?_);have gD2:=W.keep _ _ gD;have nD:s.heap.objs.size∉fp:=λz=>by
   rcases W.new _ z with e | e
   . exact fI Uu e
   . have e':(s.heap.push { cls:=.type "list",data:=.seq ([]:List Value).toArray }).objs.size<=s.heap.objs.size:=e;rw[szD]at e';exact Nat.not_succ_le_self _ e'
 refine Hc ?_;show wpAny _ A.in1 (updateSeq s.heap.objs.size (·.push .none) >>=λ_=>updateSeq s.heap.objs.size (·.pop)) _ _ s2;refine Hc (PH gD2 rfl ?_);have gD3:=ip (Obj.mapSeq (·.push Value.none)) gD2 rfl;refine PH gD3 rfl ?_;have gD4:=ip (Obj.mapSeq (·.pop)) gD3 rfl;have other:∀b o,b≠s.heap.objs.size->s2.heap.get? b=some o->((s2.heap.update s.heap.objs.size (Obj.mapSeq (·.push Value.none))).update s.heap.objs.size (Obj.mapSeq (·.pop))).get? b=some o:=
   λb o hb e=>(ky _ _ (Ne.symm hb)).trans ((ky _ _ (Ne.symm hb)).trans e)
 have vl:vals.size=es.size:=by rw[<- dy,pm.length_eq,ab,dy]
 refine Hd ⟨PQ PySem.F.plain_extend_loop _,codeAny_extend_loopS W.walk.toS (by rw[vl];exact cw x.len line) _ nD _ vals.size 0 _ _ _ rfl (gs _) (W.walk.frame 0 _ _ W.st λb hb o=>other b o λz=>nD (z ▸ hb)) gD4 (ItemsOf.nil _) λs3 acc c mv gD5 br=>?_⟩;show wpAny _ A (load s.heap.objs.size >>=_) _ _ s3;refine Hc (wpAny_load gD5 ?_);have same:acc=vals:=by
   apply Array.ext_getElem?;intro i
   by_cases c:i < acc.size
   . have e:=dn c;rw[e];exact(br.2 i _ e).symm
   . rw[mn X2,mn (by rw[<- br.1];omega)]
 subst same;obtain⟨i1,i2⟩:=PX x.elems pm;refine Hd (q _ _ _ i1 (i2.nodup_iff.mpr x.nd) (λk=>i2.mem_iff.trans (x.mem k)) ?_ (show s3.gens=s.gens from(show s3.gens=s2.gens from mv.gens).trans W.gens) (mv.os.trans W.os) (λb ob e=>?_) (fv (ba gD5)))
 . rw[i2.length_eq,rB,ab,dy];exact x.len
 . have lt:b < s.heap.objs.size:=ba e;refine mv.heap b ob (λz=>?_) (other b ob (cv lt) (W.keep b ob (ae _ e)));rcases List.mem_cons.mp z with z | z
   . exact cv lt z
   . have zi:b=it:=by simpa using z
     subst zi;have e':(s.heap.push { cls:=.type "list",data:=.seq ([]:List Value).toArray }).objs.size<=b:=W.old;rw[szD]at e';exact hU _ (cm (i4 lt) e')
theorem Fb (calm:A.handled=none)(h:pJ P w s.heap S (fY w) M n)(i0:n < 64){R:Value->Shared->Prop}
   (q:∀(D:Addr) (out:List Value) (ks:List Int) (m:Nat) (s':Shared),IntsAre out ks->ks.Pairwise (· < ·)->(∀k,k∈ks↔M k)->ks.length<=n->s'.gens=s.gens->s'.os=s.os->(∀b o,s.heap.get? b=some o->s'.heap.get? b=some o)->s.heap.objs.size<=D->s'.heap.get? D=some (seqObj "list" out.toArray m)->R (.ref D) s'):
   wpAny (model P w) A (call (.builtin "sorted") [.ref S]) R E s:=by
 refine Calls.call_function_entry kind_sorted plain_sorted entry_sorted (args_sorted1 _) ?_;unfold Builtin.«sorted»;refine Hc (m:=checkCount "sorted" 1 1 _) (Hd ?_);refine Hc (CU (A:=A.in1) (by simpa using calm) h X2 λus ks s2 i1 nd mem len e1 e2 kp big=>?_);have lU:us.length=ks.length:=by rw[<- i1.nums,ab]
 have fU:us.length<=sizeLine:=by rw[lU];exact cw len (cw (fv i0) Y1)
 refine Hc (wpAny_newList ?_ fU);have g2:(s2.heap.push (seqObj "list" us.toArray 0)).get? s2.heap.objs.size=some (seqObj "list" us.toArray 0):=cn _ rfl;show wpAny _ _ _ _ _ { s2 with heap:=s2.heap.push (seqObj "list" us.toArray 0) };refine Hc (IH (L9 slot_list_sort ⟨_,g2,rfl⟩ entry_list_sort (list_sort_tree g2 i1 X2 λout ks' a1 a2 a3=>⟨_,rfl,?_⟩) (args_list_sort _)));obtain⟨m,g3⟩:=sortedHeap_at (out:=out) g2;refine Hd ⟨_,rfl,q s2.heap.objs.size out.toList ks' m _ a1 ?_ (λk=>a2.mem_iff.trans (mem k)) (by rw[a2.length_eq];exact len) e1 e2 (λb o z=>?_) big (by simpa using g3)⟩
 . have nd':ks'.Nodup:=a2.nodup_iff.mpr nd;have both:=List.Pairwise.and a3 nd';exact both.imp λz=>by omega
 . have lt:b < s2.heap.objs.size:=ba (kp b o z);have lt':b < (s2.heap.push (seqObj "list" us.toArray 0)).objs.size:=by rw[eQ];exact i4 lt
   exact(sortedHeap_old (cv lt) lt').trans (ae _ (kp b o z))
theorem Inv.aaQ (I:Inv X pins σ H s)(e1:s'.gens=s.gens)(e2:s'.os=s.os)(e3:s'.heap=s.heap):Inv X pins σ H s':=by
 obtain⟨hp,g,d,tk,os⟩:=s;obtain⟨Uv,g',d',tk',os'⟩:=s';dsimp only at e1 e2 e3;subst e1 e2 e3;exact⟨I.ok,I.os,I.bare,I.base,I.loc,I.cell,I.free,I.l7,I.pin,I.dB,I.len⟩
def wA (K:Frag)(t:TA):TE:=λσ H Q=>t σ H λvs H1=>∃(p:Addr) (ns:List Int),vs=[.ref p]/\aQ K H1 p (ns.map V.int)/\ns.length < 64/\∀(D:Addr) (ks:List Int),L2.new K H1 D->ks.Pairwise (· < ·)->(∀k,k∈ks↔k∈ns)->ks.length<=ns.length->Q (.ref D) (upd H1 D (.lst (ks.map V.int)))
theorem qp {t:TA}{p jz:Pos}(hc:X.calm=true)(hg:Gl X "sorted")(hm:X.mg "sorted"=none)(Xg:Gl X "set")(Xh:X.mg "set"=none)(ha:JA X [e] t)
   (he:starEach [.Call (.Name "set" p2) [e] [] jz] X.env=(false,eval (.Call (.Name "set" p2) [e] [] jz) X.env)::starEach [] X.env:=by rfl)
   (Ka:starEach [e] X.env='t'::starEach [] X.env:=by rfl):
   JE X (.Call (.Name "sorted" p) [.Call (.Name "set" p2) [e] [] jz] [] pos) (wA X.K t):=⟨by
 exists 1,Q,I,h;refine Kb (gw I hg hm JC (wq ?_ he rfl));rw[he];show wpAny _ _ (spliced ((false,eval (.Call (.Name "set" p2) [e] [] jz) X.env)::backTo pos (starEach [] X.env))) _ _ s;refine Calls.spliced_cons ?_;refine Kb (gw I Xg Xh Ud (dC (bH (ha.h jz pins s σ H _ I h) λus s1=>?_) Ka rfl));rintro⟨vs,H1,I1,r1,q1⟩;obtain⟨a,ns,rfl,hx,i0,q⟩:=q1;obtain⟨u,rfl,ru⟩:=vals1 r1;cases ru;obtain⟨br,rv,ht,hz⟩:=I1.list hx;have li:br.length=ns.length:=by rw[<- rv.length,ab]
 have calm:=I1.ok.hd hc;refine JU calm ht.isList (by simpa using wg rv) (by rw[da,li];exact cm (Nat.succ_lt_succ i0) Y1) λh2 tk hS kp=>?_;refine Calls.spliced_nil ?_;refine Fb (s:={ s1 with heap:=h2,toks:=tk }) calm hS i0 λD out ks m s3 i1 up mem len e1 e2 kp3 big g=>?_;have szS:s1.heap.objs.size<=D:=by
   obtain⟨es,ep,tb,x⟩:=hS;obtain⟨o,go,_⟩:=x.at_;exact cw (fv (ba go)) big
 have lk:ks.length<=sizeLine:=cw len (cw (fv i0) Y1);have I3:Inv X pins σ (upd H1 D (.lst (ks.map V.int))) { s1 with heap:=s3.heap,toks:=s3.toks }:=I1.laid (t':=s3.toks) (o:=.lst (ks.map V.int)) (λb o z=>kp3 b o (kp b o z)) szS ⟨by rw[ab];exact lk,out,m,JQ i1,by simpa[seqObj] using g⟩;have I4:=I3.aaQ (s':=s3) e1 e2 rfl;exact⟨.ref D,_,I4,rfl,q D ks ⟨I1.dB.fresh szS,I4.kU af⟩ up mem len⟩⟩
theorem Inv.Hf (I:Inv X pins σ H s)(k:∀b u,b∉ch->s.heap.get? b=some u->h'.get? b=some u)(hf:∀b∈ch,mR X pins H b)
   (hp:s.heap.objs.size<=T) (new:cW X.prog X.w (upd H T o) h' T o):Inv X pins σ (upd H T o) { s with heap:=h',toks:=t' }:=by
 have fr:=I.dB.fresh hp;have out:∀b u,H b=some u->b∉ch:=λb u e z=>by rw[(hf b z).1]at e;cases e
 refine I.step (g':=s.gens) (d':=s.drawn) (ch:=ch) (λb hb=>⟨(hf b hb).2.2.2.1,(hf b hb).2.1,(hf b hb).2.2.2.2.1,(hf b hb).2.2.2.2.2⟩) (λb u _ _ hc e _=>k b u hc e) (λb u _ _ hc e _=>⟨u.slots,k b u hc e⟩)
   (λb u _ e z=>by rw[au (cv (cm (ba e) hp))];exact z) (λb u hc e=>⟨u,k b u hc e⟩) (λb xs e=>by rw[au (ay e fr)];exact e) (λb u v e=>by rw[au (ay e fr)];exact e)
   (λb ps e=>⟨#[],by rw[au (ay e fr),e];simp⟩) (λm hm=>?_) (λb u e=>?_) I.bare
 . obtain⟨ob,es,ep,ho,r⟩:=hm;exact⟨ob,es,ep,k _ ob (λz=>(hf _ z).2.1 rfl) ho,r⟩
 . by_cases hb:b=T
   . subst hb;rw[af]at e;cases e;exact new
   . rw[au hb]at e;refine(I.dB b u e).qh (λc v hc q=>k c v ?_ q) (λc q=>by rw[au (ay q fr)];exact q) λc xs q=>by rw[au (ay q fr)];exact q
     rcases hc with z | z
     . rw[z];exact out b u e
     . exact out c _ z
def OF (K:Frag)(a:Addr):It:=⟨λi H=>∃xs x,aQ K H a xs/\xs[i]?=some x,λi H x H'=>∃T v,L2.new K H T/\(∀xs,aQ K H a xs->xs[i]?=some v)/\x=.ref T/\H'=upd H T (.tup [.int i,v]),λi H=>∃xs,aQ K H a xs/\xs.length<=i⟩
theorem Kc {K:Frag}{k:Nat}(a e it:Addr)(ne:e≠it):Turn P w K (.Tuple es k tp) (OF K a) [e,it] e (λi h=>(∃old,IsEnum h e it ((i:Nat):Int) old)/\h.IsListIter it a i) where
 mem:=Y2
 obj:=λi h st b hb=>by
   simp only[List.mem_cons,List.not_mem_nil,Jn]at hb;rcases hb with rfl | rfl
   . obtain⟨⟨old,g⟩,_⟩:=st;exact⟨_,g,λv z=>by cases z⟩
   . obtain⟨_,o,g,c,d⟩:=st;exact⟨o,g,λv z=>by rw[d]at z;cases z⟩
 keep:=λi h h' st kk=>⟨let ⟨old,g⟩:=st.1;⟨old,kk e Y2 _ g⟩,st.2.at λo g=>kk it Y2 o g⟩
 item:=by
   intro X hP hw hK hc i pins s σ H E I hf st hg;subst hP hw hK;obtain⟨xs,x,hq,hx⟩:=hg;obtain⟨br,rv,p,hz⟩:=I.list hq;obtain⟨u,hu,ru⟩:=rv.get hx;obtain⟨⟨old,he⟩,hit⟩:=st;refine wpAny_pyNext_enum_item he hit p.isList (x:=u) (by simpa using hu) ne λh1 Zq hit1 gT sz kp=>?_;refine⟨_,rfl,wpAny_letOwnedTupleGo_enum Zq λh2 Ka sb=>?_⟩;have ltE:e < s.heap.objs.size:=ba he;have gT2:h2.get? s.heap.objs.size=some { cls:=.type "tuple",data:=.seq #[.int i s.toks,u] }:=(sb.2 _ (fI ltE)).trans gT;have I1:Inv X pins σ (upd H s.heap.objs.size (.tup [.int i,x])) { s with heap:=h2,toks:=s.toks + 1 }:=by
     refine I.Hf (ch:=[e,it]) (λb o hb g=>?_) hf (ag _) ⟨(show 2<=sizeLine by decide),[.int i s.toks,u],.cons ⟨_,rfl⟩ (.cons ru .nil),_,gT2,rfl,_,rfl⟩;simp only[List.mem_cons,List.not_mem_nil,Jn,NM]at hb;exact(sb.2 b hb.1).trans (kp b o hb.1 hb.2 g)
   refine⟨.ref s.heap.objs.size,_,I1,rfl,⟨_,x,⟨I.dB.fresh (ag _),I1.kU af⟩,λys hy=>by rw[I.mP hy hq];exact hx,rfl,rfl⟩,⟨⟨_,by simpa using Ka⟩,hit1.at λo g=>(sb.2 it (Ne.symm ne)).trans g⟩,λb hb=>?_⟩;have ltb:b < s.heap.objs.size:=by
     simp only[List.mem_cons,List.not_mem_nil,Jn]at hb;rcases hb with rfl | rfl
     . exact ltE
     . obtain⟨o,g,_⟩:=hit;exact ba g
   rw[au (cv ltb)];exact(hf b hb).1
 done:=by
   intro X hP hw hK hc i pins s σ H E I hf st hg;subst hP hw hK;obtain⟨xs,hq,hx⟩:=hg;obtain⟨br,rv,p,hz⟩:=I.list hq;obtain⟨⟨old,he⟩,hit⟩:=st;obtain⟨f0,f1,f2,f3,f4,f5⟩:=hf it Y2;have hl:=rv.length;exact wpAny_pyNext_enum_end (I.ok.hd hc) he hit p.isList aaa λh' eb=>⟨rfl,I.turned (t':=s.toks) (λb o hb g=>eb b o hb g) f0 f1 f3 f4 f5⟩
 self:=λ_ _ _ _ _ st h=>let ⟨_,g⟩:=st.1;wpAny_pyIter_enum g h
def Hg (K:Frag)(tl:TA):TI:=λσ H R=>tl σ H λvs H1=>∃a,vs=[.ref a]/\(∃xs,aQ K H1 a xs)/\R (OF K a) H1
theorem MB {l:Expr}{t:TA}{k:Nat}{p:Pos}(hg:Gl X "enumerate")(hm:X.mg "enumerate"=none)(ha:JA X [l] t)(hs:starEach [l] X.env=(false,eval l X.env)::starEach [] X.env:=by rfl):
   JI X (.Tuple es k tp) (.Call (.Name "enumerate" p) [l] [] pos) (Hg X.K t):=⟨by
 exists 1,R,I,h;refine Call_ (gw I hg hm AO (dC (bH (ha.h pos pins s σ H _ I h) λus s1=>?_) hs rfl));rintro⟨vs,H1,I1,r1,q1⟩;obtain⟨a,rfl,⟨xs,hx⟩,q⟩:=q1;obtain⟨u,rfl,ru⟩:=vals1 r1;cases ru;obtain⟨br,rv,ht,hz⟩:=I1.list hx;refine call_enumerate_list ht.isList λh2 he hit sz kp=>?_;have I2:Inv X pins σ H1 { s1 with heap:=h2 }:=I1.kept (t':=s1.toks) kp;refine wpAny_pyIter_enum he ⟨_,[s1.heap.objs.size + 1,s1.heap.objs.size],_,OF X.K a,H1,rfl,I2,Kc a _ _ (Nat.succ_ne_self _),⟨⟨_,he⟩,hit⟩,λb hb=>?_,q⟩;simp only[List.mem_cons,List.not_mem_nil,Jn]at hb;have le:s1.heap.objs.size<=b:=by
   rcases hb with rfl | rfl
   . exact Nat.le_succ _
   . exact ag _
 exact I1.Lo le (I1.dB.fresh le)⟩
section
variable {K:Frag}{tt:TT}{a:Addr}{Q:Hp->Prop}
theorem CV {Q:VK}:JJ K (Hg K ta) src g tt te σ H Q=ta σ H (λvs H1=>∃a,vs=[.ref a]/\(∃xs,aQ K H1 a xs)/\∀D,L2.new K H1 D->b7 (OF K a) g tt te D (λH'=>Q (.ref D) H') (pick σ src) (upd H1 D (.lst []))):=rfl
theorem PY (Pv:Nat->List V->St->Hp->Prop)(h0:Pv 0 [] σ H)(hl:∀i acc σ H,i<=xs.length->Pv i acc σ H->aQ K H a xs)
   (hs:∀i x acc σ H T,xs[i]?=some x->Pv i acc σ H->L2.new K H T->g (.ref T) σ (upd H T (.tup [.int i,x])) λσ2 H2=>tt σ2 H2 λb H3=>if b=true then te σ2 H3 λv H4=>H4 D=some (.lst acc)/\acc.length < sizeLine/\Pv (i + 1) (acc++[v]) σ2 (upd H4 D (.lst (acc++[v]))) else Pv (i + 1) acc σ2 H3)
   (hd:∀acc σ H,Pv xs.length acc σ H->Q H):b7 (OF K a) g tt te D Q σ H:=by
 refine vY (n:=xs.length) Pv h0 (λi acc σ H hi h=>⟨xs,_,hl i acc σ H (fv hi) h,a9 hi⟩) (λacc σ H h=>⟨xs,hl _ acc σ H (ag _) h,ag _⟩) (λi acc σ H x H' hi h hy=>?_) hd;obtain⟨T,v,nT,hv,rfl,rfl⟩:=hy;exact hs i v acc σ _ T (hv xs (hl i acc σ _ (fv hi) h)) h nT
end
theorem Inv.PZ (I:Inv X pins σ H s)(k:∀b u,b∉ch->s.heap.get? b=some u->h'.get? b=some u)(hf:∀b∈ch,mR X pins H b):
   Inv X pins σ H { s with heap:=h',toks:=t' }:=by
 have out:∀b u,H b=some u->b∉ch:=λb u e z=>by rw[(hf b z).1]at e;cases e
 refine I.step (g':=s.gens) (d':=s.drawn) (ch:=ch) (λb hb=>⟨(hf b hb).2.2.2.1,(hf b hb).2.1,(hf b hb).2.2.2.2.1,(hf b hb).2.2.2.2.2⟩) (λb u _ _ hc e _=>k b u hc e) (λb u _ _ hc e _=>⟨u.slots,k b u hc e⟩)
   (λ_ _ _ _ z=>z) (λb u hc e=>⟨u,k b u hc e⟩) (λ_ _ e=>e) (λ_ _ _ e=>e)
   (λb ps e=>⟨#[],by rw[e];simp⟩) (λm hm=>?_) (λb u e=>?_) I.bare
 . obtain⟨ob,es,ep,ho,r⟩:=hm;exact⟨ob,es,ep,k _ ob (λz=>(hf _ z).2.1 rfl) ho,r⟩
 . refine(I.dB b u e).qh (λc v hc q=>k c v ?_ q) (λ_ q=>q) λ_ _ q=>q;rcases hc with z | z
   . rw[z];exact out b u e
   . exact out c _ z
def Uw (K:Frag)(a b:Addr):It:=⟨λi H=>∃xs ys x y,aQ K H a xs/\aQ K H b ys/\xs[i]?=some x/\ys[i]?=some y,λi H x H'=>∃T v u,L2.new K H T/\(∀xs,aQ K H a xs->xs[i]?=some v)/\(∀ys,aQ K H b ys->ys[i]?=some u)/\x=.ref T/\H'=upd H T (.tup [v,u]),λi H=>∃xs ys,aQ K H a xs/\aQ K H b ys/\(xs.length<=i∨ys.length<=i)⟩
theorem MC {K:Frag}{k:Nat}(a b z TI TO i1 i2:Addr)(D:ZipApart z TI TO i1 i2 a b):Turn P w K (.Tuple es k tp) (Uw K a b) [z,TI,TO,i1,i2] z
   (λi h=>IsZip h z TI TO .none/\IsPair h TI (.ref i1) (.ref i2)/\(∃p q,IsPair h TO p q)/\h.IsListIter i1 a i/\h.IsListIter i2 b i) where
 mem:=Y2
 obj:=λi h st c hc=>by
   obtain⟨g1,g2,⟨p,q,g3⟩,⟨o4,g4,c4,d4⟩,⟨o5,g5,c5,d5⟩⟩:=st;simp only[List.mem_cons,List.not_mem_nil,Jn]at hc;rcases hc with rfl | rfl | rfl | rfl | rfl
   . exact⟨_,g1,λv z=>by cases z⟩
   . exact⟨_,g2,λv z=>by cases z⟩
   . exact⟨_,g3,λv z=>by cases z⟩
   . exact⟨o4,g4,λv z=>by rw[d4]at z;cases z⟩
   . exact⟨o5,g5,λv z=>by rw[d5]at z;cases z⟩
 keep:=λi h h' st kk=>by
   obtain⟨g1,g2,⟨p,q,g3⟩,g4,g5⟩:=st;exact⟨kk z Y2 _ g1,kk TI Y2 _ g2,⟨p,q,kk TO Y2 _ g3⟩,g4.at λo g=>kk i1 Y2 o g,g5.at λo g=>kk i2 Y2 o g⟩
 item:=by
   intro X hP hw hK hc i pins s σ H E I hf st hg;subst hP hw hK;obtain⟨xs,ys,x,y,hq,hq',hx,hy⟩:=hg;obtain⟨br,rv,p,hz⟩:=I.list hq;obtain⟨its',rv',p',hz'⟩:=I.list hq';obtain⟨u,hu,ru⟩:=rv.get hx;obtain⟨u',Ea,ru'⟩:=rv'.get hy;obtain⟨g1,g2,⟨a',b',g3⟩,g4,g5⟩:=st;refine wpAny_pyNext_zip_item D g1 g2 g3 g4 g5 p.isList p'.isList (x:=u) (y:=u') (by simpa using hu) (by simpa using Ea) λh1 Zr hTO1 Us hi2 gT sz kp=>?_;refine⟨_,rfl,wpAny_letOwnedTupleGo_zip Zr λh2 hz2 sb=>?_⟩;have ltZ:z < s.heap.objs.size:=ba g1;have gT2:h2.get? s.heap.objs.size=some { cls:=.type "tuple",data:=.seq #[u,u'] }:=(sb.2 _ (fI ltZ)).trans gT;have I1:Inv X pins σ (upd H s.heap.objs.size (.tup [x,y])) { s with heap:=h2,toks:=s.toks }:=by
     refine I.Hf (ch:=[z,TI,TO,i1,i2]) (λb o hb g=>?_) hf (ag _) ⟨(show 2<=sizeLine by decide),[u,u'],.cons ru (.cons ru' .nil),_,gT2,rfl,_,rfl⟩;simp only[List.mem_cons,List.not_mem_nil,Jn,NM]at hb;exact(sb.2 b hb.1).trans (kp b o hb.1 hb.2.2.1 hb.2.2.2.1 hb.2.2.2.2 g)
   have kT:∀c o,c≠z->h1.get? c=some o->h2.get? c=some o:=λc o n g=>(sb.2 c n).trans g;refine⟨.ref s.heap.objs.size,_,I1,rfl,⟨_,x,y,⟨I.dB.fresh (ag _),I1.kU af⟩,λys hy=>by rw[I.mP hy hq];exact hx,λzs Po=>by rw[I.mP Po hq'];exact hy,rfl,rfl⟩,
     ⟨hz2,kT _ _ D.TIz (kp _ _ D.TIz D.TITO D.TIi1 D.TIi2 g2),⟨_,_,kT _ _ D.TOz hTO1⟩,Us.at λo g=>kT _ o D.i1z g,hi2.at λo g=>kT _ o D.i2z g⟩,λc hc=>?_⟩
   have ltc:c < s.heap.objs.size:=by
     obtain⟨o4,e4,_⟩:=g4;obtain⟨o5,e5,_⟩:=g5;simp only[List.mem_cons,List.not_mem_nil,Jn]at hc;rcases hc with rfl | rfl | rfl | rfl | rfl
     . exact ltZ
     . exact ba g2
     . exact ba g3
     . exact ba e4
     . exact ba e5
   rw[au (cv ltc)];exact(hf c hc).1
 done:=by
   intro X hP hw hK hc i pins s σ H E I hf st hg;subst hP hw hK;obtain⟨xs,ys,hq,hq',hx⟩:=hg;obtain⟨br,rv,p,hz⟩:=I.list hq;obtain⟨its',rv',p',hz'⟩:=I.list hq';obtain⟨g1,g2,⟨a',b',g3⟩,g4,g5⟩:=st;have hl:=rv.length;have Xi:=rv'.length;refine wpAny_pyNext_zip_end (I.ok.hd hc) D g1 g2 g3 g4 g5 p.isList p'.isList ?_ λh' kp=>⟨rfl,I.PZ (t':=s.toks) (ch:=[z,TI,TO,i1,i2]) (λb o hb g=>?_) hf⟩
   . rcases hx with e | e
     . exact .inl aaa
     . exact .inr aaa
   . simp only[List.mem_cons,List.not_mem_nil,Jn,NM]at hb;exact kp b o hb.1 hb.2.2.1 hb.2.2.2.1 hb.2.2.2.2 g
 self:=λ_ _ _ _ _ st h=>Ts st.1 h
def P0 (K:Frag)(tl:TA):TI:=λσ H R=>tl σ H λvs H1=>∃a b,vs=[.ref a,.ref b]/\(∃xs,aQ K H1 a xs)/\(∃ys,aQ K H1 b ys)/\R (Uw K a b) H1
theorem aaT {l l':Expr}{t:TA}{k:Nat}{p:Pos}(hg:Gl X "zip")(hm:X.mg "zip"=none)(ha:JA X [l,l'] t)(hs:starEach [l,l'] X.env=(false,eval l X.env)::starEach [l'] X.env:=by rfl)(Lq:(backTo pos (starEach [l'] X.env)).any (·.1)=false:=by rfl):
   JI X (.Tuple es k tp) (.Call (.Name "zip" p) [l,l'] [] pos) (P0 X.K t):=⟨by
 exists 1,R,I,h;refine Call_ (gw I hg hm ER (dC (bH (ha.h pos pins s σ H _ I h) λus s1=>?_) hs Lq));rintro⟨vs,H1,I1,r1,q1⟩;obtain⟨a,b,rfl,⟨xs,hx⟩,⟨ys,hy⟩,q⟩:=q1;obtain⟨u,u',rfl,ru,ru'⟩:=vals2 r1;cases ru;cases ru';obtain⟨br,rv,ht,hz⟩:=I1.list hx;obtain⟨its',rv',Xj,hz'⟩:=I1.list hy;have la:a < s1.heap.objs.size:=by obtain⟨_,e,_⟩:=ht.isList;exact ba e
 have lb:b < s1.heap.objs.size:=by obtain⟨_,e,_⟩:=Xj.isList;exact ba e
 refine call_zip_2 ht.isList Xj.isList λh2 g1 g2 g3 g4 g5 sz kp=>?_;have I2:Inv X pins σ H1 { s1 with heap:=h2 }:=I1.kept (t':=s1.toks) kp;refine Ts g1 ⟨_,[s1.heap.objs.size + 4,s1.heap.objs.size + 2,s1.heap.objs.size + 3,s1.heap.objs.size,s1.heap.objs.size + 1],_,Uw X.K a b,H1,rfl,I2,MC a b _ _ _ _ _ (zipApart_new la lb),⟨g1,g2,⟨_,_,g3⟩,g4,g5⟩,λb hb=>?_,q⟩;simp only[List.mem_cons,List.not_mem_nil,Jn]at hb;have le:s1.heap.objs.size<=b:=by
   rcases hb with rfl | rfl | rfl | rfl | rfl
   . exact ma _ _
   . exact ma _ _
   . exact ma _ _
   . exact ag _
   . exact ma _ _
 exact I1.Lo le (I1.dB.fresh le)⟩
section
variable {K:Frag}{D:Ends}{a b:Addr}{ys:List V}
theorem CW:pD (P0 K ta) g tb D σ H=ta σ H (λvs H1=>∃a b,vs=[.ref a,.ref b]/\(∃xs,aQ K H1 a xs)/\(∃ys,aQ K H1 b ys)/\Loop (Uw K a b) g tb D σ H1):=rfl
end
theorem gQ (hg:X.A.guards=some [])(hu:X.A.units + 64 < cLine):dQ X (.builtin "repr") (λxs H Q=>∃(p:Addr) (d:PyData),xs=[.ref p]/\Is X.K H d (.ref p)/\d.showable=true/\d.hasDict=false/\d.depth<=60/\d.shown.length<=sizeLine/\Q (.str d.shown) H):=by
 exists 1,xs,us,Q,I,r,h;obtain⟨p,d,rfl,hd,hs,hnd,hdp,hl,q⟩:=h;obtain⟨u,rfl,ru⟩:=vals1 r;cases ru;obtain⟨as,rd⟩:=hd.reads I (u:=.ref p) rfl;refine repr_of_reads' rd hs (PyData.noDict_hsm hnd) hg X2 (λ_ _ e=>e) (λh' u tk hk=>?_) hl;exact⟨.str d.shown,H,I.kept (t':=tk) hk,⟨u,rfl⟩,q⟩
mutual
def wt:PyData->Nat
 | .none=>1
 | .bool _=>1
 | .int _=>1
 | .str _=>1
 | .list ds=>dG ds + 1
 | .tuple ds=>dG ds + 1
 | .dict _=>1
def dG:List PyData->Nat
 | []=>0
 | d::ds=>wt d + dG ds
end
mutual
def bare:PyData->Bool
 | .none=>true
 | .int i=>decide (i.natAbs.log2 < 1920)
 | .list ds=>A1 ds
 | .tuple ds=>A1 ds
 | _=>false
def A1:List PyData->Bool
 | []=>true
 | d::ds=>bare d&&A1 ds
end
theorem CY (ts:List Str):(listText ts).length<=piled ts + 2:=by
 cases ts with
 | nil=>exact nz rfl
 | cons t r=>
   have h:=textFrom_length_pos r 1 (("[":Str)++(if (0:Nat) > 0 then ", " else "":String)++t) (Nat.succ_pos 0);have e:((("[":Str)++(if (0:Nat) > 0 then ", " else "":String)++t)).length=1 + t.length:=by
     rw[SF,SF];rfl
   have hX:(listText (t::r)).length=(textFrom 0 "[" (t::r)).length + 1:=by
     show(textFrom 0 "[" (t::r)++"]").length=_;rw[SF];rfl
   have hY:(textFrom 0 "[" (t::r)).length=(textFrom 1 (("[":Str)++(if (0:Nat) > 0 then ", " else "":String)++t) r).length:=rfl;rw[hX,hY,h,e,piled_cons];omega
theorem rE (ts:List Str):(tupleText ts).length<=piled ts + 3:=by
 unfold tupleText;rw[SF,SF];have e1:((("(":String):Str)).length=1:=rfl;have e3:(((if ts.length==1 then ",)" else ")":String):Str)).length<=2:=by split <;> decide
 rw[e1]
 by_cases h:ts=[]
 . subst h;have:(Str.join ", " []).length=0:=rfl;omega
 . have:=join_length_add ts h;omega
theorem MD {i:Int}(h:i.natAbs < 10 ^ 60):bare (.int i)=true:=by
 simp only[bare,Iy]
 by_cases z:i.natAbs=0
 . rw[z];decide
 . exact(FR z).mpr (pf h X9)
end L2
namespace PySem
open Sem (wp)
theorem wB:typeLookup (.type "list") "keys"=pure none:=am_miss_of_fast X9
theorem qt {prog:Program}{w:World}{A:Around}{E:Value->Shared->Prop}{s:Shared}{a:Addr}{o:Obj}{xs:Array Value}{k:Nat}{name:Str}{Q:Option Value->Shared->Prop}
   (hx:s.heap.get? a=some o) (hc:o.cls=.type "list") (Xk:o.data=.seq xs k) (hd:o.dict=none) (Xl:typeLookup (.type "list") name=pure none) (Xm:(["__module__","__name__","__qualname__","__doc__","__annotations__"]:List Str).contains name=false) (hA:A.handled=none)
   (h:∀h' tk e,Heap.NewExcOf s.heap h' e "AttributeError"->Q none { s with heap:=h',toks:=tk }) (hsz:name.length + 100<=sizeLine:=by size_fits):
   wpAny 'g' A (getAttr? (.ref a) name) Q E s:=by
 obtain⟨c,dct,dat,sl⟩:=o;simp only at hc Xk hd;subst hc Xk hd;obtain⟨hp,g,d,tk,os⟩:=s;have hT:∀tk',(⟨hp,g,d,tk',os⟩:Shared).TypeIs (.ref a) "list":=λ_=>⟨_,hx,rfl⟩
 have f1:=sub_AttributeError;have f3:=tJ.lookup;have f4:=tJ.bind (.ref a);have f5:=am_list_getattr_none;unfold getAttr? getAttrBy? getAttrBy
 repeat (any_goals (first | assumption | exact hT _ | ((with_reducible show wpAny _ _ (call (Value.builtin "list.__getattribute__") _ _) _ _ _);refine call_meets tJ (hT _) am_entry_list_getattribute (F.args_list_getattribute_2 _ _) (meets_getattribute_miss_list a xs k sl name _ Xl Xm hsz) ⟨hx,hA,λh' tk' e hx'=>?_⟩) | wp_step))
 obtain⟨t',u',he⟩:=hx'.there;show wpAny _ _ (getattributeRaised _ _ _ _ _ _ _) _ _ _;unfold getattributeRaised
 repeat (any_goals (first | assumption | wp_step))
 exact h _ _ _ hx'.of
end PySem
namespace PySem
namespace F
theorem gB:entryFor table "dict.update.loop"=some Builtin.«dict.update.loop»:=entryFor_of_tree (by kernel_rfl)
theorem cE:plainId "dict.update.loop"=true:=X9
end F
variable{A:Around}{prog:Program}{w:World}
section
variable {E:Value->Shared->Prop}{s:Shared}
theorem uQ {t:Addr}{k v:Value}{Q:List Value->Shared->Prop}(h:∃o,s.heap.get? t=some o/\o.cls=.type "tuple"/\∃n,o.data=.seq #[k,v] n)(q:Q [k,v] s):wpAny 'g' A (Builtin.Dict.pairItems (.ref t)) Q E s:=by
 obtain⟨o,ho,hc,n,hd⟩:=h;obtain⟨c,dct,dat,sl⟩:=o;simp only at hc hd;subst hc hd;obtain⟨hp,g,d,tk,os⟩:=s;have hT:(⟨hp,g,d,tk,os⟩:Shared).TypeIs (.ref t) "tuple":=⟨_,ho,rfl⟩
 unfold Builtin.Dict.pairItems;refine Hc (Ta hT ?_);rw[Hk Y1];refine Hc (Pl ho rfl ?_);exact Hd q
end
section
variable {R:Result->Shared->Prop}{I:Addr}{fp wr:List Addr}{G:Array GenState->Array GenState->Prop}{n:Nat}{P:Nat->Value->Prop}{St:Nat->Shared->Prop}{K:Type}[DecidableEq K]{knd:KeyKind prog w K}
end
end PySem
namespace PySem
section
variable {prog:Program}{w:World}{K:Type}[DecidableEq K]{knd:KeyKind prog w K}{A:Around}{E:Value->Shared->Prop}{s:Shared}
end
end PySem
namespace L2
open PySem PySem.Spec PyProof.Rows
variable{A:Around}{X:Cx}{H:Hp}{src:List (Option Nat)}{ifs:List Expr}{N:List Str}{pos:Pos}{P prog:Program}{sc:Scope}{s:Shared}{σ:St}{td te:TE}{g:TG}{E:Value->Shared->Prop}{w:World}
theorem gJ {o i:Expr}{ty:TE}(hu:X.A.units + 64 < cLine)(ho:JE X o td)(hi:JE X i ty)(hs:Ua i):JE X (.Subscript o i pos) (Cp td ty):=⟨Pq X2 ho.h hi.h hs⟩
section
variable {pins:List (Addr×Obj)}
end
def Itd (d:Addr)(od:Obj)(aB:List (Key×V)):It:=
 ⟨λi H=>H d=some (.uf od (.dK aB))/\i < aB.length,λi H x H'=>H'=H/\∃p,aB[i]?=some p/\x=kV p.1,λi H=>H d=some (.uf od (.dK aB))/\aB.length<=i⟩
def Xn (K:Frag)(td:TE)(src:List (Option Nat))(g:TG)(tt:TT)(te:TE):TE:=λσ H Q=>td σ H λx H1=>∃a aB,x=.ref a/\H1 a=some (.dK aB)/\∀od D,L2.new K (upd H1 a (.uf od (.dK aB))) D->
 b7 (Itd a od aB) g tt te D (λH'=>H' a=some (.uf od (.dK aB))/\Q (.ref D) (upd H' a (.dK aB))) (pick σ src) (upd (upd H1 a (.uf od (.dK aB))) D (.lst []))
section
variable {tg iter elt:Expr}{tt:TT}
end
section
variable {R:Result->Shared->Prop}
end
def Fc (J:It)(g:TG)(tt:TT)(tk tv:TE)(D:Addr)(Q:Hp->Prop)(σ:St)(H:Hp):Prop:=∃W:Nat->Nat->List (Key×V)->St->Hp->Prop,(∃m,W 0 m [] σ H)/\∀i m acc σ H,W i m acc σ H->
 (J.stop i H/\Q H)∨(J.go i H/\∃N:List (Key×V)->St->Hp->Prop,(∀acc' σ' H',N acc' σ' H'->∃m',m' < m/\W (i + 1) m' acc' σ' H')/\∀x H',J.OC i H x H'->g x σ H' λσ2 H2=>tt σ2 H2 λb H3=>
   if b=true then tk σ2 H3 λy H4=>tv σ2 H4 λv H5=>∃k:Key,y=kV k/\H5 D=some (.dK acc)/\acc.length < sizeLine/\N (putK acc k v) σ2 (upd H5 D (.dK (putK acc k v)))
   else N acc σ2 H3)
def tDc (K:Frag)(wi:TI)(src:List (Option Nat))(g:TG)(tt:TT)(tk tv:TE):TE:=λσ H Q=>wi σ H λJ H1=>∀D,L2.new K H1 D->Fc J g tt tk tv D (λH'=>Q (.ref D) H') (pick σ src) (upd H1 D (.dK []))
section
variable {tg iter kx vx:Expr}{wi:TI}{tt:TT}{tk tv:TE}
end
section
variable {S:Addr}{vs:List (Key×Value)}{ep:Nat}
end
theorem Hh {o i value:Expr}{ty tv:TE}{pos':Pos}(hu:X.A.units + 64 < cLine)(ho:JE X o td)(hi:JE X i ty)(hv:JE X value tv)(hs:swapsWith value (some (.Subscript o i pos')) pos.line X.env=pure false:=by rfl):JS X (.Assign [.Subscript o i pos'] value pos) (GJ td ty tv):=⟨Pr X2 ho.h hi.h hv.h hs⟩
def Rk (K:Frag):V->List V->Hp->VK->Prop:=λx vs H Q=>∃a b,x=.str a/\vs=[.str b]/\(b.length==0)=false/\a.length<=sizeLine/\∀D,L2.new K H D->Q (.ref D) (upd H D (.tup [.str (Txt.partition a b).1,.str (Txt.partition a b).2.1,.str (Txt.partition a b).2.2]))
def Xo:V->Option Int->Option Int->Hp->VK->Prop:=λx lo hi H Q=>∃a,x=.str a/\a.length<=sizeLine/\Q (.str (Txt.slice a lo hi)) H
def Ux (sep:Str)(ts:List Str):Nat:=ts.foldl (λn x=>n + x.length + sep.length) 0
def rJoin (K:Frag):V->List V->Hp->VK->Prop:=λx vs H Q=>∃(sep:Str) (p:Addr) (ts:List Str),x=.str sep/\vs=[.ref p]/\aQ K H p (ts.map V.str)/\Ux sep ts<=sizeLine/\(Str.join sep ts).length<=sizeLine/\Q (.str (Str.join sep ts)) H
def Hi (K:Frag)(t:TA):TE:=λσ H Q=>t σ H λvs H1=>∃j:Int,vs=[.int j]/\0<=j/\j < 100000/\∀D,L2.new K H1 D->Q (.ref D) (upd H1 D (.lst ((List.range j.toNat).map λi:Nat=>V.int (i:Int))))
def ME (K:Frag)(tk tv:TE):TE:=λσ H Q=>∀p,L2.new K H p->tk σ (upd H p (.dK [])) λx H1=>tv σ H1 λy H2=>H2 p=some (.dK [])/\∃kv:Key×V,[(x,y)]=[(kV kv.1,kv.2)]/\Q (.ref p) (upd H2 p (.dK [kv]))
def Hj:V->List V->Hp->VK->Prop:=λx vs H Q=>∃(a:Addr) (aB:List (Key×V)),x=.ref a/\vs=[]/\H a=some (.dK aB)/\Q .bS (upd H a (.dK []))
def Fd (K:Frag):TE:=λ_ H Q=>∀p,L2.new K H p->Q (.ref p) (upd H p (.dK []))
theorem MF :JE X (.Dict [] [] pos) (Fd X.K):=⟨λpins s σ H Q I h=>
 wpAny_Dict_empty ⟨.ref s.heap.objs.size,_,I.laid (a:=s.heap.objs.size) (o:=.dK []) (t':=s.toks) (λ_ _ q=>ae _ q) (ag _) (Cq s.heap I.big),rfl,h _ I.new⟩⟩
section
variable {K:Frag}{tt:TT}{D:Addr}{Q:Hp->Prop}{a b:Addr}{xs ys:List V}
theorem Uy (Pv:Nat->List V->St->Hp->Prop)(el:xs.length=ys.length)(h0:Pv 0 [] σ H)(hl:∀i acc σ H,i<=xs.length->Pv i acc σ H->aQ K H a xs/\aQ K H b ys)
   (hs:∀i x y acc σ H T,xs[i]?=some x->ys[i]?=some y->Pv i acc σ H->L2.new K H T->g (.ref T) σ (upd H T (.tup [x,y])) λσ2 H2=>tt σ2 H2 λb H3=>if b=true then te σ2 H3 λv H4=>H4 D=some (.lst acc)/\acc.length < sizeLine/\Pv (i + 1) (acc++[v]) σ2 (upd H4 D (.lst (acc++[v]))) else Pv (i + 1) acc σ2 H3)
   (hd:∀acc σ H,Pv xs.length acc σ H->Q H):b7 (Uw K a b) g tt te D Q σ H:=by
 refine vY (n:=xs.length) Pv h0 (λi acc σ H hi h=>?_) (λacc σ H h=>?_) (λi acc σ H x H' hi h hy=>?_) hd
 . obtain⟨q1,q2⟩:=hl i acc σ H (fv hi) h;exact⟨xs,ys,xs[i],ys[i]'X2,q1,q2,by simp[hi],by simp[<- el,hi]⟩
 . obtain⟨q1,q2⟩:=hl _ acc σ H (ag _) h;exact⟨xs,ys,q1,q2,.inl (ag _)⟩
 . obtain⟨q1,q2⟩:=hl i acc σ H (fv hi) h;obtain⟨T,v,u,nT,hv,hu,rfl,rfl⟩:=hy;exact hs i v u acc σ H T (hv xs q1) (hu ys q2) h nT
end
def CXO (P:Program)(w:World):Cj:=λouter H s E e s'=>∃(a:Addr) (cls a0:Value) (B:Heap) (H':Hp),e=.ref a/\s'.os=s.os/\AllBare s'.gens/\Heap.FlyingW B outer a cls a0 s'.heap/\Un (D6 outer) [] H H' s.heap s'.heap/\
 (∀b o,s.heap.get? b=some o->H b=none->b∉D6 outer->B.get? b=some o)/\(∀b o,s.heap.get? b=some o->b∉D6 outer->∃o',B.get? b=some o')/\qg P w H' B/\s.heap.get? a=none/\E cls none H'
section
variable {E:XK}
def Cx.aaU (X:Cx)(E:XK):Prop:=X.xe=λe s'=>wpAny 'c' X.A (leaving X.env e) (λ_ s''=>CXO X.prog X.w X.outer X.H₀ X.s₀ E e s'') (λe' s''=>CXO X.prog X.w X.outer X.H₀ X.s₀ E e' s'') s'
end
section
variable {K:Frag}{mg:Str->Option Value}{base:Heap}{qual:Str}{scope:Scope}{f:Addr}{cd:Value}{outer:List Env}{s0:Shared}{H0:Hp}{E:XK}{CX:Cj}
def MG (E:XK)(c:Value):TS:=λ_ _ H=>E c none H
end
end L2
namespace L2
open PySem PySem.Spec PyProof.Rows PySem.W PySem.Calls PySem.Builtin PySem.Builtin.ObjectAttr PySem.Builtin.Getset_descriptor
structure Uz (K:Frag)(C:Addr):Prop where
 ga:findIn K (.ref C) "__getattribute__"=some (some (.builtin "BaseException.__getattribute__"))
 gh:findIn K (.ref C) "__getattr__"=some none
 cl:findIn K (.ref C) "__class__"=some (some (.builtin "object.__class__"))
 mo:mroIn K C (.type "object")=some true
 mb:mroIn K C (.type "BaseException")=some true
 gt:specialIn K (.builtin "object.__class__") "__get__"=some (some (.builtin "getset_descriptor.__get__"))
 tk:takesIn K (.builtin "object.__class__")=some true
 is:(clsIn K C).isSome=true
def Zs (a C:Addr)(h:Heap):Prop:=∃o,h.get? a=some o/\o.cls=.ref C
section
variable {K:Frag}{prog:Program}{w:World}{A:Around}{E:Value->Shared->Prop}{s:Shared}{a C:Addr}
theorem Zs.ty {M:Model}{h:Heap}(x:Zs a C h):Looks M h (typeOf (.ref a)) (.ref C):=by
 obtain⟨o,e,c⟩:=x;exact c ▸ (Looks.ld e).andThen .now
end
end L2
namespace L2
open PySem PySem.Spec PyProof.Rows
variable{f:Addr}{A:Around}{X:Cx}{body:Expr}{base:Heap}{H:Hp}{pins:List (Addr×Obj)}{cl:List (Str×Addr)}{N:List Str}{pos:Pos}{P:Program}{scope:Scope}{s:Shared}{σ:St}{qual:Str}{mg:Str->Option Value}{te:TE}{w:World}{E:XK}
section
variable {adb:List (Addr×Obj)}{H':Hp}{xe:Value->Shared->Prop}
end
def Ends.gone (D:Ends)(i:Nat):Ends:={ nx:=λσ H=>D.nx (σ.set i none) H,rt:=D.rt,bk:=λσ H=>D.bk (σ.set i none) H,ct:=λσ H=>D.ct (σ.set i none) H }
def Xp (K:Frag)(CF:Addr)(len i:Nat)(tb:XK->TS)(ts:TS):TS:=λD σ H=>
 tb (λcls _ H'=>∃C,cls=.ref C/\Uz K C/\exmOne K (.ref C) (.ref CF)=some true/\∀a,L2.new K H' a->ts (D.gone i) ((List.replicate len none).set i (some (.ref a))) (upd H' a (.ext (Zs a C)))) D σ H
section
variable {K:Frag}{name:Str}{c':Addr}{outer:List Env}{params:Arguments}{pm ctv:Value}{Q:VK}{k:Nat}
end
section
variable {name:Str}{c':Addr}{params:Arguments}{pm ctv:Value}{σl:St}{k i:Nat}{x:Str}{p:Pos}
end
def P1 (H:Hp)(ps:Array Value)(qual:Str):Prop:=TriplesOk ps.toList/\∀q v,codeAmong q ps.toList=some v->∃c',v=.ref c'/\H c'=some (.ext λh=>h.CodeRec (.ref c') qual)
section
variable {c P:Addr}{ps:Array Value}{params:Arguments}{E:Value->Shared->Prop}{Q:Value->Shared->Prop}
end
section
variable {H':Hp}{s':Shared}{P c':Addr}{params:Arguments}{pm ctv:Value}{src:List (Option Nat)}
end
section
variable {K:Frag}{x:Str}{st:Stmt}{fd:FuncData}{ps:List Str}{k:Nat}
end
end L2
namespace L2
open PySem PySem.Spec PyProof.Rows HT
variable{A:Around}{X:Cx}{s:Shared}{w:World}
section
variable {prog:Program}{E:Value->Shared->Prop}
end
theorem aq {all rest:List Stmt}{t2:TS}{G:TS->Prop}(h2:JB X rest t2)(k:∀r,JB X rest r->r=t2->∃t,JB X all t/\G t):∃t,JB X all t/\G t:=k t2 h2 rfl
theorem cxN {CX:Cj}{P:Program}{K:Frag}{mg:Str->Option Value}{base:Heap}{N:List Str}{qual:Str}{scope:Scope}{f:Addr}{cd:Value}{outer:List Env}{H:Hp}{E:XK}:(qT CX P w K mg base N qual scope f cd A outer s H E).N=N:=rfl
def Rl (K:Frag):V->Option Int->Option Int->Hp->VK->Prop:=λx lo hi H Q=>∃a xs,x=.ref a/\tupQ K H a=some xs/\∀q H',tupQ K H' q=some (ql xs lo hi)->Ext K H H'->Q (.ref q) H'
def MH (K:Frag):R2:=λx y H Q=>∃a b xs ys,x=.ref a/\y=.ref b/\tupQ K H a=some xs/\tupQ K H b=some ys/\xs≠[]/\xs.length + ys.length<=sizeLine/\∀q H',tupQ K H' q=some (xs++ys)->Ext K H H'->Q (.ref q) H'
structure XT (K:Frag)(T:Addr)(q:Str)(H H':Hp):Prop where
 was:∃ps,H T=some (.Lf ps)
 tab:∃ps,H' T=some (.Lf ps)/\P1 H' ps q
 keep:∀b o,H b=some o->b≠T->H' b=some o
 mod:∀b xs,H b=none->j5 K b=some xs->H' b=none
section
variable {K:Frag}{T:Addr}{q:Str}{H H1 H2:Hp}
theorem P1.ext {ps:Array Value}(h:P1 H ps q)(x:∀b o,H b=some o->(∀ps,o≠.Lf ps)->H1 b=some o):P1 H1 ps q:=⟨h.1,λp v e=>by
 obtain⟨c,rfl,hc⟩:=h.2 p v e;exact⟨c,rfl,x _ _ hc nofun⟩⟩
theorem XT.trans (x:XT K T q H H1)(y:XT K T q H1 H2):XT K T q H H2:=⟨x.was,y.tab,λb o e n=>y.keep b o (x.keep b o e n) n,λb xs e k=>y.mod b xs (x.mod b xs e k) k⟩
theorem XT.ext (x:XT K T q H H1)(y:Ext K H1 H2):XT K T q H H2:=by
 obtain⟨ps,e,c⟩:=x.tab;exact⟨x.was,⟨ps,y.same _ _ e,c.ext λb o h _=>y.same b o h⟩,λb o e n=>y.same _ _ (x.keep b o e n),λb xs e k=>y.mod b xs (x.mod b xs e k) k⟩
theorem XT.at (x:XT K T q H H1){b:Addr}{o:HO}(h:H b=some o)(n:∀ps,o≠.Lf ps):H1 b=some o:=x.keep b o h λz=>by
 obtain⟨ps,e⟩:=x.was;rw[z,e]at h;cases h;exact n _ rfl
theorem XT.tup (x:XT K T q H H1){a:Addr}{vs:List V}(h:tupQ K H a=some vs):tupQ K H1 a=some vs:=by
 unfold tupQ at h ⊢;split at h
 . next e=>rw[x.at e nofun];exact h
 . cases h
 . next e=>rw[x.mod a vs e h];exact h
end
end L2
namespace L2
open PySem PySem.Spec PyProof.Rows
variable{X:Cx}{fd:FuncData}{H:Hp}{ps:List Str}{pos:Pos}{sp:Sp}
def Hl (K:Frag):R2:=λx y H Q=>∃a b xs ys,x=.ref a/\y=.ref b/\tupQ K H a=some xs/\tupQ K H b=some ys/\xs.length + ys.length<=sizeLine/\∀q H',tupQ K H' q=some (xs++ys)->Ext K H H'->Q (.ref q) H'
section
variable {o e value:Expr}{f:Str}{pos' WI p:Pos}{ta tv te:TE}
theorem dH (he:JE X e ta)(hb:attributeBase e f X.env (eval e X.env)=eval e X.env:=by rfl):JE X (.Attribute e f pos) (Jo X.K ta f):=⟨TH he.h hb⟩
theorem iL (ha:JE X o ta)(hv:JE X value tv)(hs:swapsWith value (some (.Attribute o f pos')) pos.line X.env=pure false:=by rfl):JS X (.Assign [.Attribute o f pos'] value pos) (LC X.K ta tv f):=⟨TJ ha.h hv.h hs⟩
end
section
variable {P:Program}{w:World}{K:Frag}{mg:Str->Option Value}{base:Heap}{x qual:Str}{st:Stmt}{f:Addr}{N:List Str}{k:Nat}
end
def Fe (K:Frag)(C:Addr)(sp:Sp)(kM:List V)(E:XK)(t:TA):TE:=λσ H Q=>t σ H λvs H1=>∀x dx,new K H1 x->new K H1 dx->dx≠x->
 sp (.ref x::(vs++kM)) (upd (upd H1 dx (.own x)) x (.ins C dx [])) (λv H2=>v=.bS/\Q (.ref x) H2) E
section
variable {CX:Cj}{k:Nat}{f C:Addr}{kM:List V}{ds:List Value}{E:XK}{y:Str}{p:Pos}{e:Expr}{es:List Expr}{t:TA}
theorem Ke {pins:List (Addr×Obj)}{σ:St}{s:Shared}{Q:VK}{us:List Value}{vs:List V}(M:Mk X.K C f)(F:dR X.prog X.w X.K X.mg X.base CX k f fd ps sp)(hr:dJ (k + 1) X.A)(hb:Binds X.K fd ps ds)(hd:Vals kM ds)
   (hx:Passes CX X E) (I:Inv X pins σ H s) (r:Vals vs us)
   (h:∀x dx,new X.K H x->new X.K H dx->dx≠x->sp (.ref x::(vs++kM)) (upd (upd H dx (.own x)) x (.ins C dx [])) (λv H2=>v=.bS/\Q (.ref x) H2) E):
   wpAny 'c' X.A (call (.ref C) us) (EP X pins σ Q) X.xe s:=by
 have I2:=Inv.made (C:=C) I;have hq:=h (s.heap.objs.size + 1) s.heap.objs.size ⟨I.dB.fresh (Nat.le_succ _),I2.kU af⟩ I.new (cv (kf _));have r2:Vals (V.ref (s.heap.objs.size + 1)::(vs++kM)) (Value.ref (s.heap.objs.size + 1)::(us++ds)):=.cons rfl (r.append hd);have hl:(Value.ref (s.heap.objs.size + 1)::us++ds).length=ps.length:=by
   have e:=r2.length;rw[F.len _ _ _ _ hq]at e;exact e.symm
 refine wpAny_call (LB (f:=f) I.qK M.makes M.init (beq_iff_eq.mp M.fn) (Qb (F.run _ X.stack _ _ ⟨Value.ref (s.heap.objs.size + 1)::us,[]⟩ (Value.ref (s.heap.objs.size + 1)::(us++ds)) _ _ E (hr.make C us [])
   (I2.TM.make C us []) (hb _ (Value.ref (s.heap.objs.size + 1)::us) I2.qK hl) r2 hq) λr s' hq'=>?_))
 cases r with
 | error e=>exact hx pins σ _ _ e s' I2 hq'
 | ok fl=>
   cases fl with
   | ret u=>
     obtain⟨v,H',I3,rv,ev,q3⟩:=I2.after hq';subst ev;exact⟨rv,⟨V.ref (s.heap.objs.size + 1),H',I3,rfl,q3⟩⟩
   | next=>exact False.elim hq'
   | brk=>exact False.elim hq'
   | cont=>exact False.elim hq'
end
theorem Ext.made {K:Frag}{x dx:Addr}{o o':HO}(n:L2.new K H x)(m:L2.new K H dx)(ne:dx≠x):Ext K H (upd (upd H dx o') x o):=
 (Ext.new m).trans (Ext.new (oW.mpr ⟨ne.symm,n⟩))
section
variable {a:Addr}{vs:List (Key×Value)}{o i:Expr}{to ti:TE}
end
end L2
namespace HT
open PySem PySem.Spec PyProof.Rows
section
variable {prog:Program}{w:World}{A:Around}{E:Value->Shared->Prop}{s:Shared}
end
end HT
namespace L2
open PySem PySem.Spec PyProof.Rows
variable{X:Cx}{ps:List Str}{pos:Pos}{P:Program}{sp:Sp}{w:World}
section
variable {e:Expr}{te:TE}
end
structure j6 (P:Program)(w:World)(K:Frag)(mg:Str->Option Value)(base:Heap)(C:Addr)(m:Str)(k:Nat)(ps:List Str)(kM:List V)(sp:Sp):Prop where
 ex:∃(f:Addr) (fd:FuncData) (ds:List Value),Meth K C m f/\dR P w K mg base pH k f fd ps sp/\Binds K fd ps ds/\Vals kM ds
structure Maker (P:Program)(w:World)(K:Frag)(mg:Str->Option Value)(base:Heap)(x:Str)(k:Nat)(ps:List Str)(kM:List V)(C:Addr)(sp:Sp):Prop where
 ex:∃(f:Addr) (fd:FuncData) (ds:List Value),Mk K C f/\dR P w K mg base pH k f fd ps sp/\Binds K fd ps ds/\Vals kM ds/\mg x=some (.ref C)
section
variable {k:Nat}{C:Addr}{kM:List V}{E:XK}{m y:Str}{apos p:Pos}{o e value:Expr}{es:List Expr}{t:TA}{ta tv:TE}{pl:Sem Bool}
theorem wC (M:j6 X.prog X.w X.K X.mg X.base C m k ps kM sp)(c:uN X.K C)(hr:dJ k X.A)(ho:JE X o ta)(ha:JA X (e::es) t)
   (Az:starEach (e::es) X.env='t'::starEach es X.env:=by rfl) (oV:'x'.any (·.1)=false:=by rfl)
   (ht:eval (.Call (.Attribute o m apos) (e::es) [] pos) X.env=(do
     let ov <- eval o X.env
     standAt apos.atName
     let (f,first) <- holding [ov] (getMethod ov m pl)
     callWith pos f first (backTo pos (starEach (e::es) X.env)) (backToKw pos (keywordEach [] X.env))):=by rfl):
   JE X (.Call (.Attribute o m apos) (e::es) [] pos) (vF C m sp kM E0 ta t):=⟨by
 obtain⟨f,fd,ds,hm,F,b,vd⟩:=M.ex;exact Pf ho.h c hm F hr b vd zw ha.h Az oV ht⟩
theorem MJ (M:j6 X.prog X.w X.K X.mg X.base C m k ps kM sp)(c:uN X.K C)(hr:dJ k X.A)(ho:JE X o ta)
   (ht:eval (.Call (.Attribute o m apos) [] [] pos) X.env=(do
     let ov <- eval o X.env
     standAt apos.atName
     let (f,first) <- holding [ov] (getMethod ov m pl)
     callWith pos f first (backTo pos (starEach [] X.env)) (backToKw pos (keywordEach [] X.env))):=by rfl):
   JE X (.Call (.Attribute o m apos) [] [] pos) (vF C m sp kM E0 ta vE):=⟨by
 obtain⟨f,fd,ds,hm,F,b,vd⟩:=M.ex;exact LD ho.h c hm F hr b vd zw ht⟩
theorem wF (M:Maker X.prog X.w X.K X.mg X.base y k ps kM C sp)(hr:dJ (k + 1) X.A)(hg:Gl X y)(ha:JA X (e::es) t)
   (yt:(y==("__debug__":Str))=false:=by decide) (he:starEach (e::es) X.env='t'::starEach es X.env:=by rfl) (oV:'x'.any (·.1)=false:=by rfl):
   JE X (.Call (.Name y p) (e::es) [] pos) (Fe X.K C sp kM E0 t):=⟨by
 exists 1,Q,I,h;obtain⟨f,fd,ds,M,F,b,vd,mm⟩:=M.ex;refine Kb (uY I hg mm ?_ yt);refine y7 (h₀:=X.base) I.ok.mod.OS M.kp (bH (ha.h pos pins s σ H _ I h) λus s1=>?_) he oV;rintro⟨vs,H1,I1,r,q⟩;refine ⟨I1.qK,?_⟩;exact Ke M F hr b vd zw I1 r q⟩
end
section
variable {K:Frag}{mg:Str->Option Value}{base:Heap}{x qual:Str}{st:Stmt}{f:Addr}{fd:FuncData}{N:List Str}{k:Nat}
end
theorem kW:dQ X (.builtin "isinstance") (λxs H Q=>∃x C t b,xs=[x,.ref C]/\pG X.K H x t/\kitOne X.K t (.ref C)=some b/\Q (.bl b) H):=by
 exists 1,xs,us,Q,I,r,h;obtain⟨x,C,t,b,rfl,ty,e,q⟩:=h;obtain⟨u,w',rfl,ru,rw'⟩:=vals2 r;cases rw';exact zf I ru ty e λtk=>⟨.bl b,H,I.tok tk,rfl,q⟩
def UA (K:Frag):R2:=λx y H Q=>∃l b xs,x=.ref l/\y=.ref b/\aQ K H l xs/\aQ K H b []/\Q (.bl (!xs.isEmpty)) H
theorem UB (hu:X.A.units < cLine):i8 X (compareOp .NotEq) (UA X.K):=by
 exists 1,x,y,v,u,Q,I,rx,ry,h;obtain⟨l,b,xs,rfl,rfl,h1,h2,q⟩:=h;cases rx;cases ry;obtain⟨br,rv,p,_⟩:=I.list h1;obtain⟨its2,rv2,p2,_⟩:=I.list h2;cases rv2;have fin:∀k:Bool,k=(!xs.isEmpty)->EP X pins σ Q (.bool k) s:=λk e=>⟨.bl k,H,I,rfl,by rw[e];exact q⟩
 cases rv with
 | nil=>exact SeqAt.RcNeAt.lists (e:=λ_=>true) p.isList p2.isList rfl hu (λj h1=>by simp at h1) X.prog X.w X.xe _ (fin _ Y2)
 | cons a b=>exact SeqAt.RcNeAt.lists_lengths p.isList p2.isList Y2 hu X.prog X.w X.xe _ (fin _ rfl)
section
variable {A:Around}{E:Value->Shared->Prop}{s:Shared}{S:Addr}{vs:List (Key×Value)}{ep:Nat}
end
def aaW (N:Addr->Prop)(R:Hp->Prop)(H:Hp):Prop:=∃a od aB,N a/\H a=some (.uf od (.dK aB))/\R (upd H a (.dK aB))
theorem Kf (hu:X.A.units + 64 < cLine):i8 X (compareOp .NotIn) (λx y H Q=>∃(a:Addr) (aB:List (Key×V)) (k:Int),y=.ref a/\x=.int k/\H a=some (.dK aB)/\Q (.bl (!(c8 aB (.inl k)).isSome)) H):=by
 exists 1,x,y,v,u,Q,I,rx,ry,h;obtain⟨a,aB,k,rfl,rfl,e,q⟩:=h;cases ry;obtain⟨z,hd,vs,rel,dd⟩:=GH I.dB (.inl e);refine wpAny_notIn_of (zq (k:=.inl k) rx) hd dd.mapOf ?_;rw[<- (rel.val (.inl k)).zp];exact⟨.bl _,H,I.tok _,rfl,q⟩
def CZ:V->List V->Hp->VK->Prop:=λx vs H Q=>∃a,x=.str a/\vs=[]/\Q (.bl (Txt.isascii a)) H
def C0:V->List V->Hp->VK->Prop:=λx vs H Q=>∃a,x=.str a/\vs=[]/\Q (.bl (Txt.isdigit a)) H
def Ho:V->List V->Hp->VK->Prop:=λx vs H Q=>∃a b,x=.str a/\vs=[.str b]/\a.length<=sizeLine/\Q (.str (Txt.removeprefix a b)) H
def MK (K:Frag):V->List V->Hp->VK->Prop:=λx vs H Q=>∃a b,x=.str a/\vs=[.str b]/\(b.length==0)=false/\a.length<=sizeLine/\(Txt.split a b).length<=sizeLine/\∀D,L2.new K H D->Q (.ref D) (upd H D (.lst ((Txt.split a b).map V.str)))
end L2
namespace L2
open PySem PySem.Spec PyProof.Rows PySem.W
variable{vs:List V}{us:List Value}
section
variable {prog:Program}{w:World}{A:Around}{E:Value->Shared->Prop}{s:Shared}
theorem Kg {l:Addr}{items:Array Value}{n i:Nat}{Q:List Value->Shared->Prop}(hl:s.heap.IsList l items)(hh:A.handled=none)(hi:i < n)(hn:n<=items.size + 1)(hz:items.size<=sizeLine)
   (h:∀h₂ tk,Heap.ExtBut s.heap.objs.size s.heap h₂->Q (items.toList.take i++[.ref h₂.objs.size]++(items.toList.drop i).drop (items.size + 1 - n))
     { s with heap:=h₂.push { cls:=.type "list",data:=.seq ((items.toList.drop i).take (items.size + 1 - n)).toArray },toks:=tk }):wpAny 'g' A (unpackItems (.ref l) n (some i)) Q E s:=by
 have iI:l≠s.heap.objs.size:=by obtain⟨o,ho,_⟩:=hl;exact cv (ba ho)
 have hll:l < s.heap.objs.size:=by obtain⟨o,ho,_⟩:=hl;exact ba ho
 unfold unpackItems;refine Hc ?_;unfold notIterableAtAll;refine Hc (RR hl.typeIs slot_list_iter.lookup ?_);refine Hd ?_;simp only[oe,Kt];refine Hc (IH (Nw hl ?_));refine Hc (IH (kun_draw iI i 0 _ _ ⟨_,cn _ rfl,rfl,rfl⟩ (hl.push _) X2 λh₁ hit₁ hs₁=>?_));have hl₁:h₁.IsList l items:=(hl.push _).extBut hs₁.extBut iI;rw[Nat.zero_add]at hit₁;have hit₁':=hit₁;obtain⟨oi,hoi,_⟩:=hit₁';have hl₁':=hl₁;obtain⟨ol,hol,_⟩:=hl₁';rw[List.drop_zero];have Vw:(items.toList.take i).length=i:=by rw[eC,dy];omega
 rw[He (show ¬ ((items.toList.take i).length < i) by rw[Vw];omega)];refine Hc (IH (kun_collect (s:={ s with heap:=h₁ }) (T:="list_iterator") (.inr (.inr (.inl rfl))) (Walks.list (A:=A.in1) hh s.heap.objs.size l iI items) (λj u st=>st.1.typeIs) (k:=i) X2 ⟨hit₁,hl₁⟩ (ba hoi) (ba hol) (λh₂ tk hk=>?_) hz));have hrl:(items.toList.drop i).length=items.size - i:=by rw[km,dy]
 have aaY:(items.toList.drop i).length - (n - 1 - i)=items.size + 1 - n:=by rw[hrl];omega
 show wpAny _ _ (if (items.toList.drop i).length < n - 1 - i then _ else _) _ _ _;rw[He (by rw[hrl];omega)];show wpAny _ _ (newList ((items.toList.drop i).take ((items.toList.drop i).length - (n - 1 - i))) >>=λd=>pure (items.toList.take i++[d]++(items.toList.drop i).drop ((items.toList.drop i).length - (n - 1 - i)))) _ _ _;rw[aaY];have he:Heap.ExtBut s.heap.objs.size s.heap h₂:=λb o hb e=>hk b o hb (hs₁.extBut b o hb (ae _ e));exact Hc (wpAny_newList (s:={ s with heap:=h₂,toks:=tk }) (Hd (h h₂ tk he)) (by rw[eC,hrl];omega))
end
section
variable {X:Cx}{es:List Expr}{pos:Pos}{e:Expr}
theorem zV (h:Vals vs us):∀n:Nat,Vals (vs.take n) (us.take n):=by
 induction h with
 | nil=>intro n;simp;exact .nil
 | cons a b ih=>intro n;cases n with
   | zero=>exact .nil
   | succ n=>exact .cons a (ih n)
theorem tu (h:Vals vs us):∀n:Nat,Vals (vs.drop n) (us.drop n):=by
 induction h with
 | nil=>intro n;simp;exact .nil
 | cons a b ih=>intro n;cases n with
   | zero=>exact .cons a b
   | succ n=>exact ih n
theorem ML {ws:List V}{xs:List Value}(h:Vals vs us)(h2:Vals ws xs):Vals (vs++ws) (us++xs):=by
 induction h with
 | nil=>exact h2
 | cons a b ih=>exact .cons a ih
def Ff (K:Frag)(n i:Nat)(t:BY):TG:=λv σ H Q=>∃a xs,v=.ref a/\aQ K H a xs/\n<=xs.length + 1/\
 ∀D,L2.new K H D->t (xs.take i++.ref D::(xs.drop i).drop (xs.length + 1 - n)) σ (upd H D (.lst ((xs.drop i).take (xs.length + 1 - n)))) Q
theorem MM {k:Nat}{t:BY}{n i:Nat}(hc:X.calm=true)(h:Q8 X es t)(hi:i < n:=by decide)(hn:(assignEach es X.env).length=n:=by rfl)(Az:(assignEach es X.env).findIdx? (·.1)=some i:=by rfl):JG X (.Tuple es k pos) (Ff X.K n i t):=⟨by
 exists 1,v,u,Q,I,r,hw;obtain⟨a,xs,e1,hq,hl,hw⟩:=hw;subst e1;cases r;obtain⟨br,rv,ht,hz⟩:=I.list hq;have ln:xs.length=br.length:=rv.length;rw[assign_Tuple];refine Hc (Md ?_);unfold unpack;rw[hn,Az];refine Hc (IH (Kg ht.isList (I.ok.hd hc) hi (by simpa[<- ln] using hl) (by simpa[<- ln] using hz) λh₂ tk hx=>?_));have I0:Inv X pins σ H { s with heap:=h₂,toks:=tk }:=I.kept (t':=tk) λb o e=>hx b o (cv (ba e)) e;have I1:Inv X pins σ (upd H h₂.objs.size (.lst ((xs.drop i).take (xs.length + 1 - n)))) { s with heap:=h₂.push { cls:=.type "list",data:=.seq ((br.drop i).take (xs.length + 1 - n)).toArray },toks:=tk }:=
   I0.laid (t':=tk) (λb ob q=>ae _ q) (ag _) ⟨by rw[eC,km];omega,_,0,zV (tu rv i) _,cn _ rfl⟩
 have:=h.h pins _ σ _ _ (br.take i++[.ref h₂.objs.size]++(br.drop i).drop (xs.length + 1 - n)) Q I1 (by
   rw[gL];exact ML (zV rv i) (.cons rfl (tu (tu rv i) _))) (hw _ ⟨I0.dB.fresh (ag _),I1.kU af⟩)
 simpa[<- ln] using this⟩
theorem MN {t:TG}{u:BY}(h1:JG X e t)(h2:Q8 X es u){p:Pos}(hs:(assignEach (.Starred e p::es) X.env).map (·.2)=assign e X.env::(assignEach es X.env).map (·.2):=by rfl):Q8 X (.Starred e p::es) (iy t u):=⟨by
 exists 1,vs,us,Q,I,r,h;obtain⟨v,vr,e1,h⟩:=h;subst e1;cases r with
 | cons r rr=>
   rw[hs];refine assignInOrder_cons (bH (h1.h pins s σ H _ _ _ I r h) λ_ s1=>?_);rintro⟨σ1,H1,I1,q1⟩;exact h2.h pins s1 σ1 H1 _ _ Q I1 rr q1⟩
end
end L2
namespace L2
open PySem PySem.Spec PyProof.Rows
end L2
namespace L2
open PySem PySem.Spec PyProof.Rows PySem.W PySem.AutoSeq1 PySem.MeetsSeq
variable{A:Around}{X:Cx}{s:Shared}{E:Value->Shared->Prop}
section
variable {P:Program}{w:World}{K:Frag}{x C:Addr}{ox:Obj}{od:Option Obj}
end
section
variable {pins:List (Addr×Obj)}{σ:St}{H:Hp}{x C dx:Addr}{fs:List (Str×V)}
end
end L2
namespace L2
open PySem PySem.Spec PyProof.Rows
variable{X:Cx}{DD:Ends}{H:Hp}{Q:Hp->Prop}{σ:St}{x:Str}{ta:TA}{te tl:TE}{g:TG}{tb:TS}
def Itx (x:Str):It:=⟨λi _=>i < x.cps.size,λi H v H'=>H'=H/\∃c,x.cps[i]?=some c/\v=.str ⟨#[c]⟩,λi _=>x.cps.size<=i⟩
def Rn (tl:TE):TI:=λσ H R=>tl σ H λv H1=>∃x:Str,v=.str x/\R (Itx x) H1
def MO:V->List V->Hp->VK->Prop:=λx vs H Q=>∃a,x=.str a/\vs=[]/\a.length<=5592405/\Q (.str (Txt.upper a)) H
section
variable {K:Frag}{tt:TT}{D:Addr}
theorem C1 {src:List (Option Nat)}{Q:VK}:JJ K (Rn tl) src g tt te σ H Q=tl σ H (λv H1=>∃x:Str,v=.str x/\∀D,L2.new K H1 D->b7 (Itx x) g tt te D (λH'=>Q (.ref D) H') (pick σ src) (upd H1 D (.lst []))):=rfl
theorem zX :pD (Rn tl) g tb DD σ H=tl σ H (λv H1=>∃x:Str,v=.str x/\Loop (Itx x) g tb DD σ H1):=rfl
end
def MP (f:Addr)(sp:Sp)(te:TE)(t:TA):TE:=λσ H Q=>te σ H λv H1=>v=.ref f/\t σ H1 λvs H2=>sp vs H2 Q E0
def Hq:V->List V->Hp->VK->Prop:=λx vs H Q=>∃a b,x=.str a/\vs=[.str b]/\Q (.bl (Txt.startswith a b)) H
def Xq (K:Frag)(x:Str):It:=⟨λi _=>i < x.cps.size,λi H v H'=>∃T c,L2.new K H T/\x.cps[i]?=some c/\v=.ref T/\H'=upd H T (.tup [.int i,.str ⟨#[c]⟩]),λi _=>i=x.cps.size⟩
def UC (K:Frag)(tl:TA):TI:=λσ H R=>tl σ H λvs H1=>∃x:Str,vs=[.str x]/\R (Xq K x) H1
section
variable {K:Frag}
theorem wG :pD (UC K ta) g tb DD σ H=ta σ H (λvs H1=>∃x:Str,vs=[.str x]/\Loop (Xq K x) g tb DD σ H1):=rfl
end
section
variable {prog:Program}{w:World}{A:Around}{E:Value->Shared->Prop}{s:Shared}
end
section
variable {es:List Expr}{pos:Pos}
def Ro (K:Frag)(n:Nat)(t:BY):TG:=λv σ H Q=>∃a xs,v=.ref a/\aQ K H a xs/\xs.length=n/\t xs σ H Q
end
section
variable {K:Frag}{a b D:Addr}{xs ys:List V}{tt:TT}{n:Nat}
theorem P4 (Pv:Nat->List V->St->Hp->Prop)(e1:n<=xs.length)(e2:n<=ys.length)(e3:xs.length<=n∨ys.length<=n)(h0:Pv 0 [] σ H)(hl:∀i acc σ H,i<=n->Pv i acc σ H->aQ K H a xs/\aQ K H b ys)
   (hs:∀i x y acc σ H T,xs[i]?=some x->ys[i]?=some y->Pv i acc σ H->L2.new K H T->g (.ref T) σ (upd H T (.tup [x,y])) λσ2 H2=>tt σ2 H2 λb H3=>if b=true then te σ2 H3 λv H4=>H4 D=some (.lst acc)/\acc.length < sizeLine/\Pv (i + 1) (acc++[v]) σ2 (upd H4 D (.lst (acc++[v]))) else Pv (i + 1) acc σ2 H3)
   (hd:∀acc σ H,Pv n acc σ H->Q H):b7 (Uw K a b) g tt te D Q σ H:=by
 refine vY (n:=n) Pv h0 (λi acc σ H hi h=>?_) (λacc σ H h=>?_) (λi acc σ H x H' hi h hy=>?_) hd
 . obtain⟨q1,q2⟩:=hl i acc σ H (fv hi) h;exact⟨xs,ys,xs[i],ys[i]'X2,q1,q2,a9 _,a9 _⟩
 . obtain⟨q1,q2⟩:=hl _ acc σ H (ag _) h;exact⟨xs,ys,q1,q2,e3⟩
 . obtain⟨q1,q2⟩:=hl i acc σ H (fv hi) h;obtain⟨T,v,u,nT,hv,hu,rfl,rfl⟩:=hy;exact hs i v u acc σ H T (hv xs q1) (hu ys q2) h nT
end
section
variable {K:Frag}
end
end L2
namespace L2
open PySem PySem.Spec PyProof PyProof.Rows
def Xr (K:Frag)(C:Addr)(D:Ends)(σ:St)(H:Hp):List (Addr×Nat×TS)->Prop
 | []=>False
 | (CF,i,ts)::r=>(exmOne K (.ref C) (.ref CF)=some true/\∀a,L2.new K H a->ts (D.gone i) (σ.set i (some (.ref a))) (upd H a (.ext (Zs a C))))∨(exmOne K (.ref C) (.ref CF)=some false/\Xr K C D σ H r)
section
variable {X:Cx}
def Rp (K:Frag)(hs:List (Addr×Nat×TS))(tb:St->XK->TS):TS:=λD σ H=>
 tb σ (λcls _ H'=>∃C,cls=.ref C/\Uz K C/\Xr K C D σ H' hs) D σ H
def tAt (σ0:St)(te:TE):TE:=λσ H Q=>σ=σ0/\te σ H Q
end
end L2
namespace L2
open PySem PySem.Spec PyProof.Rows
variable{X:Cx}{tg:Expr}{H:Hp}{σ:St}{g:TG}
def Itv (d:Addr)(od:Obj)(aB:List (Key×V)):It:=
 ⟨λi H=>H d=some (.uf od (.dK aB))/\i < aB.length,λi H x H'=>H'=H/\∃p,aB[i]?=some p/\x=p.2,λi H=>H d=some (.uf od (.dK aB))/\aB.length<=i⟩
def Xs (K:Frag)(td:TE)(src:List (Option Nat))(g:TG)(tt:TT)(tk tv:TE)(i:Nat):TS:=λD σ H=>∀N:Addr->Prop,td σ H λx H1=>∃a aB,x=.ref a/\H1 a=some (.dK aB)/\(N a->∀od L,L2.new K (upd H1 a (.uf od (.dK aB))) L->
 Fc (Itv a od aB) g tt tk tv L (λH'=>aaW N (D.nx (σ.set i (some (.ref L)))) H') (pick σ src) (upd (upd H1 a (.uf od (.dK aB))) L (.dK [])))
theorem C2 {K:Frag}{tl:TE}{src:List (Option Nat)}{tt:TT}{tk tv:TE}{Q:VK}:tDc K (qQ K tl) src g tt tk tv σ H Q=tl σ H (λx H1=>∃a,x=.ref a/\(∃xs,aQ K H1 a xs)/\∀D,L2.new K H1 D->Fc (ug K a) g tt tk tv D (λH'=>Q (.ref D) H') (pick σ src) (upd H1 D (.dK []))):=rfl
def Zt (K:Frag)(a:Addr)(n:Nat):It:=
 ⟨λi H=>∃xs x,aQ K H a xs/\i < n/\xs[n - 1 - i]?=some x,λi H x H'=>H'=H/\∀xs,aQ K H a xs->xs[n - 1 - i]?=some x,λi _=>i=n⟩
theorem MQ {P:Program}{w:World}{K:Frag}(a it:Addr)(n:Nat):Turn P w K tg (Zt K a n) [it] it (λi h=>h.IsRevIter it a ((n:Int) - 1 - i)) where
 mem:=Y2
 obj:=λi h st b hb=>by
   have e:b=it:=by simpa using hb
   subst e;obtain⟨o,e,c,d⟩:=st;exact⟨o,e,λv z=>by rw[d]at z;cases z⟩
 keep:=λi h h' st k=>st.at λo e=>k it Y2 o e
 item:=by
   intro X hP hw hK hc i pins s σ H E I hf st hg;subst hP hw hK;obtain⟨xs,x,hq,lt,hx⟩:=hg;obtain⟨br,rv,p,hz⟩:=I.list hq;obtain⟨u,hu,ru⟩:=rv.get hx;obtain⟨f0,f1,f2,f3,f4,f5⟩:=hf it Y2;have e1:(n:Int) - 1 - i=((n - 1 - i:Nat):Int):=X2
   rw[e1]at st;refine wpAny_pyNext_rev_item st p.isList (x:=u) (by simpa using hu) λh' st' sb=>?_;have e2:((n - 1 - i:Nat):Int) - 1=(n:Int) - 1 - ((i + 1:Nat):Int):=X2
   rw[e2]at st';have I1:Inv X pins σ H { s with heap:=h' }:=I.turned (t':=s.toks) (λb o hb e=>(sb.2 b hb).trans e) f0 f1 f3 f4 f5;obtain⟨o,e,c,d⟩:=id st';exact⟨u,rfl,Lp (s:={ s with heap:=h' }) e c d Y1 ⟨x,H,I1,ru,⟨rfl,λys hy=>by rw[I.mP hy hq];exact hx⟩,st',λb hb=>(hf b hb).1⟩⟩
 done:=by
   intro X hP hw hK hc i pins s σ H E I hf st hg;subst hP hw hK;cases hg;obtain⟨f0,f1,f2,f3,f4,f5⟩:=hf it Y2;have e1:(n:Int) - 1 - (n:Int)=-1:=X2
   rw[e1]at st;exact wpAny_pyNext_rev_end (I.ok.hd hc) st λh' eb=>⟨rfl,I.turned (t':=s.toks) (λb o hb e=>eb b o hb e) f0 f1 f3 f4 f5⟩
 self:=λ_ _ _ _ _ st h=>wpAny_pyIter_revIter st h
def Xu (K:Frag)(tl:TA):TI:=λσ H R=>tl σ H λvs H1=>∃a xs,vs=[.ref a]/\aQ K H1 a xs/\R (Zt K a xs.length) H1
theorem Xv {K:Frag}{l:Expr}{t:TA}{p pos:Pos}(hg:Gl X "reversed")(hm:X.mg "reversed"=none)(ha:JA X [l] t)(hs:starEach [l] X.env=(false,eval l X.env)::starEach [] X.env:=by rfl)(hk:X.K=K:=by rfl):
   JI X tg (.Call (.Name "reversed" p) [l] [] pos) (Xu K t):=⟨by
 subst hk;exists 1,R,I,h;refine Call_ (gw I hg hm Cs (dC (bH (ha.h pos pins s σ H _ I h) λus s1=>?_) hs rfl));rintro⟨vs,H1,I1,r1,q1⟩;obtain⟨a,xs,rfl,hx,q⟩:=q1;obtain⟨u,rfl,ru⟩:=vals1 r1;cases ru;obtain⟨br,rv,ht,hz⟩:=I1.list hx;refine call_reversed_list ht.isList ?_;have st:(s1.heap.push (revObj a ((br.toArray.size:Int) - 1))).IsRevIter s1.heap.objs.size a ((xs.length:Int) - 1 - ((0:Nat):Int)):=⟨_,cn _ rfl,rfl,by
   have e:(br.toArray.size:Int) - 1=(xs.length:Int) - 1 - ((0:Nat):Int):=by
     rw[rv.length,da];omega
   rw[<- e];rfl⟩
 refine wpAny_pyIter_revIter (s:={ s1 with heap:=s1.heap.push (revObj a ((br.toArray.size:Int) - 1)) }) st ⟨_,[_],_,_,H1,rfl,I1.kept (t':=s1.toks) λb o e=>ae _ e,MQ a _ xs.length,st,λb hb=>?_,q⟩;have e:b=s1.heap.objs.size:=by simpa using hb
 subst e;exact I1.Lo (ag _) (I1.dB.fresh (ag _))⟩
section
variable {K:Frag}{tb:TS}{D:Ends}{a:Addr}{xs:List V}
theorem C3 {ta:TA}:pD (Xu K ta) g tb D σ H=ta σ H (λvs H1=>∃a xs,vs=[.ref a]/\aQ K H1 a xs/\Loop (Zt K a xs.length) g tb D σ H1):=rfl
theorem C4 (Pv:Nat->St->Hp->Prop)(h0:Pv 0 σ H)(hl:∀i σ H,i < xs.length->Pv i σ H->aQ K H a xs)
   (hs:∀i x σ H,i < xs.length->xs[xs.length - 1 - i]?=some x->Pv i σ H->g x σ H λσ2 H2=>tb { D with nx:=Pv (i + 1),ct:=Pv (i + 1),bk:=D.nx } σ2 H2) (hd:∀σ H,Pv xs.length σ H->D.nx σ H):Loop (Zt K a xs.length) g tb D σ H:=by
 refine⟨λi m σ H=>i + m=xs.length/\Pv i σ H,⟨xs.length,by omega,h0⟩,λi m σ H ⟨e,p⟩=>?_⟩
 by_cases z:i < xs.length
 . have q:=hl i σ H z p;refine .inr ⟨⟨xs,_,q,z,a9 X2⟩,Pv (i + 1),λσ' H' p'=>⟨m - 1,by omega,by omega,p'⟩,?_⟩;rintro x H' ⟨rfl,hx⟩;exact hs i x σ H' z (hx xs q) p
 . have:i=xs.length:=X2
   subst this;exact .inl ⟨rfl,hd σ H p⟩
end
section
variable {k:Nat}{f C:Addr}{fd:FuncData}{ps ks:List Str}{is:List Nat}{sp:Sp}{kM:List V}{ds:List Value}{E:XK}
end
end L2
namespace PySem
variable{A:Around}{prog:Program}{w:World}
section
variable {K:Type}[DecidableEq K]
def pR (key:Nat->K)(val:Nat->Value)(i:Nat):List (K×Value):=(List.range i).foldl (λd j=>stored d (key j) (val j)) []
theorem qu (key:Nat->K)(val:Nat->Value)(i:Nat):pR key val (i + 1)=stored (pR key val i) (key i) (val i):=by
 unfold pR;rw[List.range_succ,oP];rfl
theorem zY (key:Nat->K)(val:Nat->Value):∀i,(pR key val i).length<=i
 | 0=>ag _
 | i + 1=>by
   rw[qu];have:=stored_length_le (pR key val i) (key i) (val i);have:=zY key val i;omega
end
section
variable {R:Result->Shared->Prop}{I:Addr}{fp wr:List Addr}{G:Array GenState->Array GenState->Prop}{n:Nat}{P:Nat->Value->Prop}{St:Nat->Shared->Prop}{K:Type}[DecidableEq K]{knd:KeyKind prog w K}
theorem tD (W:WalksS prog w A.in1 I fp wr G n P St)(d:Addr)(Q7:d∉fp)(key:Nat->K)(val:Nat->Value)(tp:Nat->Addr)(hP:∀i v,i < n->P i v->v=.ref (tp i))(ht:∀i,i < n->tp i∉d::wr)(hn:n<=16000000):
   ∀(k i:Nat) (s:Shared) (c:Int) (u:Tok),n - i=k->i<=n->St i s->s.heap.DictOf knd d (pR key val i)->
     (∀j,j < n->∃kv,(∃o,s.heap.get? (tp j)=some o/\o.cls=.type "tuple"/\∃n,o.data=.seq #[kv,val j] n)/\knd.is (key j) kv=true)->
     (∀s',Moved (d::wr) G s s'->s'.heap.DictOf knd d (pR key val n)->R (.ok (.ret .none)) s')->
     codeAny 'g' A (.builtin "dict.update.loop" ⟨[.ref d,.ref I,.int c u,.none],[]⟩) R s:=by
 have hdw:d∉wr:=λh=>Q7 (W.sub _ h);have P5:∀b∈wr,b∈d::wr:=λb hb=>bc _ hb;intro k;induction k with
 | zero=>
   intro i s c u hk hi Az hD _ hR;have UD:i=n:=X2
   subst UD;refine Kx F.gB ?_;rw[ke F.cE _];show wpAny _ A.in1 (pyNext (.ref I) >>=_) _ _ s;refine Hc (W.done s _ _ Az λs' hm=>?_);show wpAny _ A.in1 (Builtin.Dict.addKeywords d [] >>=_) _ _ s';refine Hc (Hd ?_);show wpAny _ A.in1 (ret Value.none) _ _ s';exact Hd (hR s' (hm.mono P5) (by
     obtain⟨o,es,ep,ho,rest⟩:=hD;exact⟨o,es,ep,hm.heap d _ hdw ho,rest⟩))
 | succ k ih=>
   intro i s c u hk hi Az hD hT hR;have iI:i < n:=X2
   refine Kx F.gB ?_;rw[ke F.cE _];show wpAny _ A.in1 (pyNext (.ref I) >>=_) _ _ s;refine Hc (W.item i s _ _ iI Az λv s' Vx hst' hm=>?_);obtain rfl:=hP i v iI Vx;have hD':s'.heap.DictOf knd d (pR key val i):=by
     obtain⟨o,es,ep,ho,rest⟩:=hD;exact⟨o,es,ep,hm.heap d _ hdw ho,rest⟩
   have rF:∀j,j < n->∃kv,(∃o,s'.heap.get? (tp j)=some o/\o.cls=.type "tuple"/\∃n,o.data=.seq #[kv,val j] n)/\knd.is (key j) kv=true:=λj hj=>by
     obtain⟨kv,⟨o,ho,r⟩,q⟩:=hT j hj;exact⟨kv,⟨o,hm.heap _ _ (λz=>ht j hj (P5 _ z)) ho,r⟩,q⟩
   obtain⟨kv,ho,hkv⟩:=rF i iI;show wpAny _ A.in1 (holding [Value.ref (tp i)] _ >>=_) _ _ s';refine Hc (IH ?_);refine Hc (wpAny_tryCatch (uQ ho ?_));show wpAny _ A.in1 (holding [kv,val i] (dictSet d kv (val i))) _ _ s';refine IH (wpAny_dictSet_pairs hkv hD' (λh' hd' hsb=>?_) (by have:=zY key val i;simp only[NA];omega));rw[<- qu]at hd';refine Hd ⟨PQ F.cE _,ih (i + 1) _ _ _ X2 iI (W.frame _ s' _ _ hst' (Nat.le_succ _) λb hb o e=>?_) hd' (λj hj=>?_) λs'' hm'' hD''=>?_⟩
   . rw[hsb.2 b (λh:b=d=>Q7 (by rw[<- h];exact hb))];exact e
   . obtain⟨kv,⟨o,ho,r⟩,q⟩:=rF j hj;exact⟨kv,⟨o,(hsb.2 _ (λz=>ht j hj (by rw[z];exact cb))).trans ho,r⟩,q⟩
   . refine hR s'' (Moved.trans W.gtrans ((hm.mono P5).then_heap (Nat.le_succ _) λb o hb e=>?_) hm'') hD'';rw[hsb.2 b (λh:b=d=>hb (by rw[h];exact cb))];exact e
end
section
variable {K:Type}[DecidableEq K]{knd:KeyKind prog w K}{E:Value->Shared->Prop}{s:Shared}
theorem yz {l:Addr}{o:Obj}{items:Array Value}{m:Nat}{Q:Value->Shared->Prop}(hA:A.handled=none)(hl:s.heap.get? l=some o)(hc:o.cls=.type "list")(hdt:o.dict=none)(hd:o.data=.seq items m)
   (key:Nat->K) (val:Nat->Value) (tp:Nat->Addr) (hit:∀i,i < items.size->items[i]?=some (.ref (tp i))) (hn:items.size<=16000000)
   (hT:∀j,j < items.size->∃kv,(∃o,s.heap.get? (tp j)=some o/\o.cls=.type "tuple"/\∃n,o.data=.seq #[kv,val j] n)/\knd.is (key j) kv=true)
   (h:∀h' tk,h'.DictOf knd s.heap.objs.size (pR key val items.size)->(∀b o,s.heap.get? b=some o->h'.get? b=some o)->Q 'i' { s with heap:=h',toks:=tk }):
   wpAny 'g' A (call (.type "dict") [.ref l]) Q E s:=by
 refine callType_codes (Q₁:=λobj s₁=>obj=.ref s.heap.objs.size/\s₁={ s with heap:=s.heap.push { cls:=.type "dict",data:=.dict #[] } }) F.kt_called_dict (F.kt_typeCall_dict_1 _) F.entry_dict_init (kt_code_dict_new _ ⟨rfl,rfl⟩) ?_;rintro obj s₁ ⟨rfl,rfl⟩;have UE:(s.heap.push { cls:=.type "dict",data:=.dict #[] }).DictOf knd s.heap.objs.size []:=Heap.DictOf.new s.heap;have My:(s.heap.push { cls:=.type "dict",data:=.dict #[] }).get? l=some o:=ae _ hl;refine⟨UE.typeIs,F.args_dict_init_2 _ _,?_⟩;unfold Builtin.«dict.__init__»;refine Hc ?_;unfold Builtin.Dict.selfAndRest;refine Hc (wpAny_notOrdered_dict UE.typeIs ?_);show wpAny _ _ (pure (s.heap.objs.size,[Value.ref l])) _ _ _;refine Hd ?_;show wpAny _ _ (Builtin.Dict.updateFrom "dict.__init__" s.heap.objs.size (.ref l) [] .none) _ _ _;unfold Builtin.Dict.updateFrom;refine Hc (Ta (T:="list") ⟨o,My,hc⟩ ?_);rw[Hk Y1];refine Hc ?_;refine qt (A:=A.in1.in1) My hc hd hdt wB X9 (by simpa using hA) λh1 tk1 e hx=>?_;rw[Hk (by rfl)];refine Hc (Q1 ?_);have Zu:∀b o,s.heap.get? b=some o->h1.get? b=some o:=λb o e=>hx.keeps b o (ae _ e);have Zv:h1.IsList l items:=⟨o,hx.keeps _ _ My,hc,m,hd⟩
 refine Hc (Nw Zv ?_);have iI:l < s.heap.objs.size:=ba hl;have qv:h1.DictOf knd s.heap.objs.size []:=by
   obtain⟨o,es,ep,ho,rest⟩:=UE;exact⟨o,es,ep,hx.keeps _ _ ho,rest⟩
 have Zw:s.heap.objs.size < h1.objs.size:=by
   obtain⟨o,es,ep,ho,rest⟩:=qv;exact ba ho
 have hne:l≠h1.objs.size:=cv (pf iI Zw);refine Hd ⟨PQ F.cE _,?_⟩;refine tD (knd:=knd) (A:=A.in1) ((Walks.list (A:=A.in1.in1) (by simpa using hA) h1.objs.size l hne items).toS) s.heap.objs.size ?_ key val tp (λi v hi hv=>by rw[hit i hi]at hv;cases hv;rfl) (λi hi=>?_) hn items.size 0 _ _ _ X2 (gs _) ⟨⟨_,cn _ rfl,rfl,rfl⟩,Zv.push _⟩ ?_ (λj hj=>?_) λs' hm hD'=>?_
 . simp only[List.mem_cons,List.not_mem_nil,Jn,NM];exact⟨cv Zw,fI iI⟩
 . obtain⟨kv,⟨o,ho,_⟩,_⟩:=hT i hi;have lt:=ba ho;simp only[List.mem_cons,List.not_mem_nil,Jn,NM];exact⟨cv lt,cv (pf lt Zw)⟩
 . exact qv.push _
 . obtain⟨kv,⟨o,ho,r⟩,q⟩:=hT j hj;exact⟨kv,⟨o,ae _ (Zu _ _ ho),r⟩,q⟩
 . obtain⟨h',g',d',tk',os'⟩:=s';have eg:g'=s.gens:=hm.gens;have ed:d'=s.drawn:=hm.drawn;have eo:os'=s.os:=hm.os;subst eg ed eo;refine⟨rfl,h h' tk' hD' λb o e=>hm.heap b o ?_ (ae _ (Zu b o e))⟩;have lt:=ba e;simp only[List.mem_cons,List.not_mem_nil,Jn,NM];exact⟨cv lt,cv (pf lt Zw)⟩
end
end PySem
namespace L2
open PySem PySem.Spec PyProof.Rows
def tF (L:List (Int×V)):List (Key×V):=L.foldl (λd q=>putK d (.inl q.1) q.2) []
theorem Kh (L:List (Int×V))(q:Int×V):tF (L++[q])=putK (tF L) (.inl q.1) q.2:=by
 unfold tF;rw[oP];rfl
theorem MR (aB:List (Key×V))(k:Key)(v:V):(putK aB k v).length<=aB.length + 1:=by
 unfold putK;split
 . simp
 . simp
theorem MS (L:List (Int×V)):(tF L).length<=L.length:=by
 have key:∀(L:List (Int×V)) (d:List (Key×V)),(L.foldl (λd q=>putK d (.inl q.1) q.2) d).length<=d.length + L.length:=by
   intro L;induction L with
   | nil=>intro d;simp
   | cons q L ih=>
     intro d;rw[List.foldl_cons,List.length_cons];have:=ih (putK d (.inl q.1) q.2);have:=MR d (.inl q.1) q.2;omega
 have:=key L [];simpa[tF] using this
theorem MT {L:List (Int×V)}{key:Nat->Key}{val:Nat->Value}(h:∀i (hi:i < L.length),key i=.inl L[i].1/\RelV L[i].2 (val i)):∀i,i<=L.length->KV (tF (L.take i)) (pR key val i)
 | 0,_=>by
   rw[List.take_zero];exact .nil
 | i + 1,hi=>by
   have ih:=MT h i X2;obtain⟨h1,h2⟩:=h i X2;rw[List.take_add_one,a9 X2,fi,Kh,qu,h1];exact ih.put _ h2
section
variable {X:Cx}
theorem Fg (hc:X.calm=true):dQ X (.type "dict") (λxs H Q=>∃(p:Addr) (L:List (V×Int×V)),xs=[.ref p]/\aQ X.K H p (L.map (·.1))/\(∀q∈L,∃t,q.1=.ref t/\tupQ X.K H t=some [.int q.2.1,q.2.2])/\L.length<=16000000/\
   ∀D,L2.new X.K H D->Q (.ref D) (upd H D (.dK (tF (L.map (·.2)))))):=by
 exists 1,xs,us,Q,I,r,h;obtain⟨p,L,rfl,hx,hT,hl,q⟩:=h;obtain⟨u,rfl,ru⟩:=vals1 r;cases ru;obtain⟨br,rv,⟨o,n,e,hcl,hdt,hd⟩,_⟩:=I.list hx;have li:br.length=L.length:=by rw[<- rv.length,ab]
 obtain⟨f,hf⟩:∃f:Nat->Addr×Value×Value,∀i,i < L.length->br[i]?=some (.ref (f i).1)/\(∃o,s.heap.get? (f i).1=some o/\o.cls=.type "tuple"/\∃n,o.data=.seq #[(f i).2.1,(f i).2.2] n)/\∃q,L[i]?=some q/\RelV (.int q.2.1) (f i).2.1/\RelV q.2.2 (f i).2.2:=by
   have P:∀i,∃x:Addr×Value×Value,i < L.length->br[i]?=some (.ref x.1)/\(∃o,s.heap.get? x.1=some o/\o.cls=.type "tuple"/\∃n,o.data=.seq #[x.2.1,x.2.2] n)/\∃q,L[i]?=some q/\RelV (.int q.2.1) x.2.1/\RelV q.2.2 x.2.2:=λi=>by
     by_cases hi:i < L.length
     . have ei:L[i]?=some L[i]:=a9 hi;obtain⟨t,e1,e2⟩:=hT L[i] (ph hi);have e3:(L.map (·.1))[i]?=some (.ref t):=by rw[ax,ei,<- e1];rfl
       obtain⟨u,hu,ru⟩:=rv.get e3;cases ru;obtain⟨its2,rv2,⟨o2,g2,c2,n2,d2⟩,_⟩:=I.tuple (jF e2);obtain⟨kv,vv,rfl,rk,rvv⟩:=vals2 rv2;exact⟨(t,kv,vv),λ_=>⟨hu,⟨o2,g2,c2,n2,d2⟩,L[i],ei,rk,rvv⟩⟩
     . exact⟨(0,.none,.none),λz=>absurd z hi⟩
   exact⟨λi=>(P i).choose,λi=>(P i).choose_spec⟩
 have ks:∀i,i < L.length->(cQ X.prog X.w).is ((.inl ((L[i]?).elim 0 (·.2.1)):Key)) (f i).2.1=true:=λi hi=>by
   obtain⟨_,_,q,eq,rk,_⟩:=hf i hi;rw[eq];exact zq (k:=.inl q.2.1) rk
 refine yz (knd:=cQ X.prog X.w) (I.ok.hd hc) e hcl hdt hd (λi=>.inl ((L[i]?).elim 0 (·.2.1))) (λi=>(f i).2.2) (λi=>(f i).1) (λi hi=>?_) aaa (λj hj=>?_) λh' tk hD hk=>?_
 . have hi:i < L.length:=by simp at hi;omega
   simpa using (hf i hi).1
 . have hj:j < L.length:=by simp at hj;omega
   exact⟨_,(hf j hj).2.1,ks j hj⟩
 . have sz:br.toArray.size=L.length:=by simp[li]
   rw[sz]at hD;have rel:=MT (L:=L.map (·.2)) (key:=λj=>((.inl ((L[j]?).elim 0 (·.2.1)):Key))) (val:=λj=>(f j).2.2) (λi hi=>by
     have hi:i < L.length:=by simpa using hi
     obtain⟨_,_,q,eq,rk,rvv⟩:=hf i hi;have:L[i]=q:=(bo.mp eq).2;rw[Fh,this];show(Sum.inl ((L[i]?).elim 0 (·.2.1)):Key)=.inl q.2.1/\RelV q.2.2 (f i).2.2;rw[eq];exact⟨rfl,rvv⟩) L.length Y2
   rw[pE Y2]at rel;have ln:=MS (L.map (·.2));rw[ab]at ln;have I2:Inv X pins σ (upd H s.heap.objs.size (.dK (tF (L.map (·.2))))) { s with heap:=h',toks:=tk }:=
     I.laid (t':=tk) hk (ag _) (EL (by rw[NA];omega) (beq_eq_false_iff_ne.mpr (Ne.symm (cv I.big))) rel hD)
   exact⟨.ref s.heap.objs.size,_,I2,rfl,q _ ⟨I.dB.fresh (ag _),I2.kU af⟩⟩
def P6:PyData->Bool
 | .none=>true
 | _=>false
def Xw (K:Frag):R2:=λx y H Q=>∃(p:Addr) (xs:List V) (ds:List PyData),x=.bS/\y=.ref p/\(aQ K H p xs∨yq K H p xs)/\dD K H ds xs/\Q (.bl (ds.any P6)) H
end
end L2
namespace L2
open PySem PySem.Spec PyProof PyProof.Rows
variable{X:Cx}{keys:List (Option Expr)}{values:List Expr}{ks:List Str}{pos:Pos}{ta:TA}
def Hr (K:Frag)(C:Addr)(D:Ends)(σ:St)(H:Hp):List (Addr×TS)->Prop
 | []=>False
 | (CF,ts)::r=>(exmOne K (.ref C) (.ref CF)=some true/\ts D σ H)∨(exmOne K (.ref C) (.ref CF)=some false/\Hr K C D σ H r)
def Rq (K:Frag)(hs:List (Addr×TS))(tb:St->XK->TS):TS:=λD σ H=>
 tb σ (λcls _ H'=>∃C,cls=.ref C/\Uz K C/\Hr K C D σ H' hs) D σ H
def tG:List Str->List V->List (Key×V)
 | k::ks,v::vs=>(.inr k,v)::tG ks vs
 | _,_=>[]
theorem wH {aB:List (Key×V)}{k:Key}{v:V}(h:(aB.any λkv=>decide (kv.1=k))=false):putK aB k v=aB++[(k,v)]:=by
 unfold putK;rw[h,He Y1]
theorem wJ:∀(more aB:List (Key×V)),((aB++more).map (·.1)).Nodup->AM aB more=aB++more
 | [],aB,_=>by rw[List.append_nil];rfl
 | p::r,aB,h=>by
   have e:putK aB p.1 p.2=aB++[p]:=wH (by
     rw[List.any_eq_false];intro x hx;rw[bj,oy]at h;have:=h.2.2 x.1 (cx hx) p.1 Y2;simpa using this)
   show AM (putK aB p.1 p.2) r=_;rw[e,wJ r (aB++[p]) (by rw[gL];exact h),gL];rfl
theorem tH:∀{ks:List Str}{vs:List V},vs.length=ks.length->(tG ks vs).map (·.1)=ks.map Sum.inr
 | [],[],_=>rfl
 | k::ks,v::vs,h=>by
   show Sum.inr k::(tG ks vs).map (·.1)=_;rw[tH (by simpa using h)];rfl
 | [],_::_,h=>by simp at h
 | _::_,[],h=>by simp at h
theorem wK:∀{ks:List Str}{vs:List V},vs.length=ks.length->(tG ks vs).map (λkv=>(kV kv.1,kv.2))=(ks.map V.str).zip vs
 | [],[],_=>rfl
 | k::ks,v::vs,h=>by
   show(V.str k,v)::(tG ks vs).map (λkv=>(kV kv.1,kv.2))=_;rw[wK (by simpa using h)];rfl
 | [],_::_,h=>by simp at h
 | _::_,[],h=>by simp at h
structure JD (X:Cx)(pos:Pos)(keys:List (Option Expr))(values:List Expr)(ks:List Str)(ta:TA):Prop where
 h:∀(pins:List (Addr×Obj)) (s:Shared) (σ:St) (H:Hp) (Q:List V->Hp->Prop),Inv X pins σ H s->ta σ H Q->
   wpAny 'c' X.A (evalPairs (pairTrees keys values X.env pos)) (λws s'=>∃vs H',Inv X pins σ H' s'/\vs.length=ks.length/\VV ((ks.map V.str).zip vs) ws/\Q vs H') X.xe s
theorem UG :JD X pos [] [] [] vE:=⟨λpins s σ H Q I h=>pairTrees_nil_walk ⟨[],H,I,rfl,.nil,h⟩⟩
theorem nj {p:Pos}{x:Str}{j:_}{v:Expr}{tv:TE}(hv:JE X v tv)(hr:JD X pos keys values ks ta):
   JD X pos (some (.Constant (.str x) j p)::keys) (v::values) (x::ks) (pN tv ta):=⟨λpins s σ H Q I h=>
 pairTrees_cons_walk (bH ((dM (X:=X) (x:=x) (j:=j) (pos:=p)).h pins s σ H (λy H1=>y=.str x/\H1=H) I ⟨rfl,rfl⟩) λu s1 ⟨y,H1,I1,rx,q1⟩=>by
   obtain⟨rfl,rfl⟩:=q1;refine bH (hv.h pins s1 σ _ _ I1 h) λw2 s2=>?_;rintro⟨y,H2,I2,ry,q2⟩;refine bH (hr.h pins s2 σ H2 _ I2 q2) λws s3=>?_;rintro⟨vs,H3,I3,l,rel,q3⟩;exact ⟨y::vs,H3,I3,by simp[l],.cons ⟨rx,ry⟩ rel,q3⟩)⟩
def Fi (K:Frag)(ks:List Str)(ta:TA):TE:=λσ H Q=>∀p,L2.new K H p->ta σ (upd H p (.dK [])) λvs H2=>H2 p=some (.dK [])/\Q (.ref p) (upd H2 p (.dK (tG ks vs)))
theorem Fj (h:JD X pos keys values ks ta)(nd:ks.Nodup:=by decide +kernel)(AG:keys.all (·.isSome)=true:=by rfl)(hl:keys.length=values.length:=by rfl)(h0:keys≠[]:=by simp)
   (h15:keys.length<=15:=by decide) (hk:ks.length<=15:=by decide):JE X (.Dict keys values pos) (Fi X.K ks ta):=⟨by
 exists 1,Q,I,q;have hn:=I.dB.fresh (ag s.heap.objs.size);have I1:=I.laid (a:=s.heap.objs.size) (o:=.dK []) (h':=s.heap.push { cls:=.type "dict",data:=.dict #[] }) (t':=s.toks) (λ_ _ q=>ae _ q) (ag _) (Cq s.heap I.big);refine wpAny_Dict_walk (knd:=cQ X.prog X.w) AG hl h0 h15 (bH (h.h pins _ σ _ _ I1 (q _ ⟨hn,I1.kU af⟩)) λws s2=>?_);rintro⟨vs,H2,I2,l,rel,e,q2⟩;rw[<- wK l]at rel;obtain⟨rs,c,rk⟩:=vJ (P:=X.prog) (w:=X.w) rel;obtain⟨z,hd,vs0,r0,dd⟩:=Q6 I2.dB e;cases r0;refine⟨rs,c,dd,λh' dd' hs=>⟨.ref s.heap.objs.size,_,?_,rfl,q2⟩⟩;have em:AM [] (tG ks vs)=tG ks vs:=wJ _ _ (by
   show((tG ks vs).map (·.1)).Nodup;rw[tH l];exact List.Pairwise.map _ (λa b (h:a≠b) e=>h (Sum.inr.inj e)) nd)
 have hz:(tG ks vs).length<=sizeLine:=by
   have:((tG ks vs).map (·.1)).length=ks.length:=by rw[tH l,ab]
   rw[ab]at this;rw[NA];omega
 have he:∃q,h'.get? s.heap.objs.size=some q:=let ⟨q,_,_,hq,_⟩:=dd';⟨q,hq⟩;have rm:=rk.merge .nil;rw[em]at rm;exact AL I2 (by rw[e];exact True.intro) hs he (EL hz hd rm dd')⟩
def UH (K:Frag):R2:=λx y H Q=>∃l b xs,x=.ref l/\y=.ref b/\aQ K H l xs/\aQ K H b []/\Q (.bl xs.isEmpty) H
theorem UI (hu:X.A.units < cLine):i8 X (compareOp .Eq) (UH X.K):=by
 exists 1,x,y,v,u,Q,I,rx,ry,h;obtain⟨l,b,xs,rfl,rfl,h1,h2,q⟩:=h;cases rx;cases ry;obtain⟨br,rv,p,_⟩:=I.list h1;obtain⟨its2,rv2,p2,_⟩:=I.list h2;cases rv2;have fin:∀k:Bool,k=xs.isEmpty->EP X pins σ Q (.bool k) s:=λk e=>⟨.bl k,H,I,rfl,by rw[e];exact q⟩
 cases rv with
 | nil=>exact SeqAt.RcAt.lists (e:=λ_=>true) p.isList p2.isList rfl hu (λj h1=>by simp at h1) X.prog X.w X.xe _ (fin _ Y2)
 | cons a b=>exact SeqAt.RcAt.lists_lengths p.isList p2.isList Y2 hu X.prog X.w X.xe _ (fin _ rfl)
theorem Rr (K:Frag){e:Expr}{f:Str}{ta:TE}(he:JE X e ta)(hk:X.K=K:=by rfl)(hb:attributeBase e f X.env (eval e X.env)=eval e X.env:=by rfl):JE X (.Attribute e f pos) (Jo K ta f):=by subst hk;exact dH he hb
end L2
namespace PySem
abbrev C5 (h:Heap)(z TI TO:Addr)(f0:Value)(b:Bool):Prop:=
 h.get? z=some { cls:=.type "zip",dict:=none,data:=.fields #[f0,.bool b,.bool false,.ref TI,.ref TO],slots:=#[] }
abbrev MU (h:Heap)(T:Addr)(a b c:Value):Prop:=h.get? T=some { cls:=.type "tuple",data:=.seq #[a,b,c] }
section
variable {prog:Program}{w:World}{A:Around}{E:Value->Shared->Prop}{s:Shared}
theorem MV {z TI TO T:Addr}{b:Bool}{K:Bool->Shared->Prop}(hz:C5 s.heap z TI TO (rawInt T) b)(h:∀h₀,C5 h₀ z TI TO (rawInt T) true->Heap.SameBut z s.heap h₀->K false { s with heap:=h₀ }):
   wpAny 'g' A (if (Value.bool b !=Value.bool true)=true then do setField (Value.ref z) 1 (Value.bool true);pure false else pure false) K E s:=by
 cases b with
 | true=>
   rw[He Y1];exact Hd (h s.heap hz (Heap.SameBut.refl _ _))
 | false=>
   rw[Hk Y1];exact Hc (Ki hz Y2 λh₁ hz₁ hs₁=>Hd (h h₁ hz₁ hs₁))
end
end PySem
namespace PySem
namespace F
theorem wL (a b c:Value):checkTypeCall "zip" ⟨[a,b,c],[]⟩=pure ():=by kernel_rfl
theorem yC (a b c:Value):checkBuiltinCall "zip.__new__" ⟨[.type "zip",a,b,c],[]⟩=pure ():=by kernel_rfl
theorem qw (a b c d:Value):argsOk "object.__init__" ⟨[a,b,c,d],[]⟩:=by
 first | exact args_of_run (by kernel_rfl) | (unfold argsOk;kernel_rfl)
theorem Fl:typeLookup (.type "zip") "__len__"=pure none:=by rw[Sr,Pt];kernel_rfl
theorem C6:typeLookup (.type "zip") "__length_hint__"=pure none:=by rw[Sr,Pt];kernel_rfl
end F
variable{S T:Addr}{A:Around}{acc:Array Value}{bad own:List Addr}{n:Nat}{row:Nat->Array Value}{At:Nat->Heap->Prop}{prog:Program}{s:Shared}{E Q:Value->Shared->Prop}{w:World}
abbrev Fo (l:Addr):Obj:={ cls:=.type "list_iterator",data:=.fields #[.ref l,.int 0 0] }
abbrev Zx (h:Heap)(l1 l2 l3:Addr):Heap:=((h.push (Fo l1)).push (Fo l2)).push (Fo l3)
abbrev Zy (h:Heap)(l1 l2 l3:Addr):Heap:=(Zx h l1 l2 l3).push { cls:=.type "tuple",data:=.seq #[.ref h.objs.size,.ref (h.push (Fo l1)).objs.size,.ref ((h.push (Fo l1)).push (Fo l2)).objs.size] }
abbrev Zz (h:Heap)(l1 l2 l3:Addr):Heap:=(Zy h l1 l2 l3).push { cls:=.type "tuple",data:=.seq #[.none,.none,.none] }
abbrev Rt (h:Heap)(l1 l2 l3:Addr):Heap:=(Zz h l1 l2 l3).push { cls:=.type "zip",data:=.fields #[.none,.bool false,.bool false,.ref (Zx h l1 l2 l3).objs.size,.ref (Zy h l1 l2 l3).objs.size] }
theorem wM (l1 l2 l3:Addr)(xs ys zs:Array Value):
   Meets (Builtin.«zip.__new__» ⟨[.type "zip",.ref l1,.ref l2,.ref l3],[]⟩) (λ_ R s=>s.heap.IsList l1 xs/\s.heap.IsList l2 ys/\s.heap.IsList l3 zs/\
     R (.ok (.ret (.ref (Zz s.heap l1 l2 l3).objs.size))) { s with heap:=Rt s.heap l1 l2 l3 }):=
 .of_wp λprog w A R s h=>by
   obtain⟨hp,g,d,tk,os⟩:=s;obtain⟨My,Rf,ZA,h⟩:=h;have P5:=sub_zip;have Zv:Heap.IsList (Shared.heap ⟨hp,g,d,tk,os⟩) l1 xs:=My;have hL2:Heap.IsList (Shared.heap ⟨hp.push (Fo l1),g,d,tk,os⟩) l2 ys:=Fm Rf _;have hL3:Heap.IsList (Shared.heap ⟨(hp.push (Fo l1)).push (Fo l2),g,d,tk,os⟩) l3 zs:=Fm (Fm ZA _) _
   wp_walk using Nw Zv,Nw hL2,Nw hL3
   exact⟨_,rfl,h⟩
theorem Fp {l1 l2 l3:Addr}{xs ys zs:Array Value}(My:s.heap.IsList l1 xs)(Rf:s.heap.IsList l2 ys)(ZA:s.heap.IsList l3 zs)
   (h:∀h',C5 h' (s.heap.objs.size + 5) (s.heap.objs.size + 3) (s.heap.objs.size + 4) .none false->MU h' (s.heap.objs.size + 3) 'i' (.ref (s.heap.objs.size + 1)) (.ref (s.heap.objs.size + 2))->
     MU h' (s.heap.objs.size + 4) .none .none .none->h'.IsListIter s.heap.objs.size l1 0->h'.IsListIter (s.heap.objs.size + 1) l2 0->h'.IsListIter (s.heap.objs.size + 2) l3 0->h'.objs.size=s.heap.objs.size + 6->
     (∀c o,s.heap.get? c=some o->h'.get? c=some o)->Q (.ref (s.heap.objs.size + 5)) { s with heap:=h' }):
   wpAny 'g' A (call (.type "zip") [.ref l1,.ref l2,.ref l3]) Q E s:=by
 refine callType_new F.called_zip Y1 (F.wL _ _ _) (F.yC _ _ _) (λobj=>F.qw obj _ _ _) F.entry_zip_new
   (wM l1 l2 l3 xs ys zs) ⟨My,Rf,ZA,?_⟩
 have z1:(s.heap.push (Fo l1)).objs.size=s.heap.objs.size + 1:=eQ ..;have z2:((s.heap.push (Fo l1)).push (Fo l2)).objs.size=s.heap.objs.size + 2:=by rw[eQ,z1]
 have z3:(Zx s.heap l1 l2 l3).objs.size=s.heap.objs.size + 3:=by rw[eQ,z2]
 have z4:(Zy s.heap l1 l2 l3).objs.size=s.heap.objs.size + 4:=by rw[eQ,z3]
 have z5:(Zz s.heap l1 l2 l3).objs.size=s.heap.objs.size + 5:=by rw[eQ,z4]
 have z6:(Rt s.heap l1 l2 l3).objs.size=s.heap.objs.size + 6:=by rw[eQ,z5]
 have g6:(Rt s.heap l1 l2 l3).get? (Zz s.heap l1 l2 l3).objs.size=some _:=cn _ rfl;have g5:(Rt s.heap l1 l2 l3).get? (Zy s.heap l1 l2 l3).objs.size=some _:=ae _ (cn _ rfl);have g4:(Rt s.heap l1 l2 l3).get? (Zx s.heap l1 l2 l3).objs.size=some _:=ae _ (ae _ (cn _ rfl));have g3:(Rt s.heap l1 l2 l3).get? ((s.heap.push (Fo l1)).push (Fo l2)).objs.size=some _:=ae _ (ae _ (ae _ (cn _ rfl)));have g2:(Rt s.heap l1 l2 l3).get? (s.heap.push (Fo l1)).objs.size=some _:=ae _ (ae _ (ae _ (ae _ (cn _ rfl))));have g1:(Rt s.heap l1 l2 l3).get? s.heap.objs.size=some _:=ae _ (ae _ (ae _ (ae _ (ae _ (cn _ rfl)))));show _/\_;rw[z3,z4,z5]at g6;rw[z1,z2,z3]at g4;rw[z4]at g5;rw[z2]at g3;rw[z1]at g2;rw[z5];exact⟨⟨_,g6,rfl⟩,h _ g6 g4 g5 ⟨_,g1,rfl,rfl⟩ ⟨_,g2,rfl,rfl⟩ ⟨_,g3,rfl,rfl⟩ z6 λc o x=>
   ae _ (ae _ (ae _ (ae _ (ae _ (ae _ x)))))⟩
structure Hs (n:Nat)(z S:Addr)(own:List Addr)(row:Nat->Array Value)(At:Nat->Heap->Prop):Prop where
 typ:∀i h,At i h->∃o,h.get? z=some o/\o.cls=.type "zip"
 qh:∀i h h',At i h->(∀b o,b≠S->h.get? b=some o->h'.get? b=some o)->At i h'
 mem:S∉own
 lt:∀i h,At i h->∀c∈own,c < h.objs.size
 turn:∀(prog:Program) (w:World) (A:Around) (E:Value->Shared->Prop) (s:Shared) (i:Nat) (Q:Value->Shared->Prop),At i s.heap->S < s.heap.objs.size->i < n->
   (∀h',At (i + 1) h'->h'.get? s.heap.objs.size=some { cls:=.type "tuple",data:=.seq (row i) }->h'.objs.size=s.heap.objs.size + 1->(∀c o,c∉own->s.heap.get? c=some o->h'.get? c=some o)->Q 'i' { s with heap:=h' })->
   wpAny 'g' A (Builtin.«zip.__next__» ⟨[.ref z],[]⟩) (λfin s'=>∃v,fin=.done (.ret v)/\Q v s') E s
 stop:∀(prog:Program) (w:World) (A:Around) (E:Value->Shared->Prop) (s:Shared) (Q:Fin->Shared->Prop),A.handled=none->At n s.heap->
   (∀h' e,(∀c o,c∉own->s.heap.get? c=some o->h'.get? c=some o)->(∃o,h'.get? e=some o/\o.cls=.type "StopIteration")->E (.ref e) { s with heap:=h' })->
   wpAny 'g' A (Builtin.«zip.__next__» ⟨[.ref z],[]⟩) Q E s
structure Got (h0:Heap)(bad:List Addr)(S:Addr)(row:Nat->Array Value)(i:Nat)(h:Heap)(acc:Array Value):Prop where
 lst:∃c,h.get? S=some { cls:=.type "list",dict:=none,data:=.seq acc c,slots:=#[] }
 sz:acc.size=i
 it:∀(j:Nat) (v:Value),acc[j]?=some v->∃T,v=.ref T/\h0.objs.size<=T/\T∉S::bad/\h.get? T=some { cls:=.type "tuple",data:=.seq (row j) }
 nd:acc.toList.Nodup
 old:∀b o,b∉S::bad->h0.get? b=some o->h.get? b=some o
theorem Got.qh {h0 h h':Heap}{i:Nat}(g:Got h0 bad S row i h acc)(hS:S∉bad)(k:∀b o,b∉bad->h.get? b=some o->h'.get? b=some o):Got h0 bad S row i h' acc:=by
 obtain⟨c,e⟩:=g.lst;refine⟨⟨c,k S _ hS e⟩,g.sz,λj v hj=>?_,g.nd,λb o hb e=>k b o (λm=>hb (bc _ m)) (g.old b o hb e)⟩;obtain⟨T,e1,e2,e3,e4⟩:=g.it j v hj;exact⟨T,e1,e2,e3,k T _ (λm=>e3 (bc _ m)) e4⟩
theorem Got.push {h0 h h':Heap}{i c:Nat}(g:Got h0 bad S row i h acc)(hT:h.get? T=some { cls:=.type "tuple",data:=.seq (row i) })(sT:h0.objs.size<=T)(nT:T∉S::bad)(fT:∀j:Nat,acc[j]?≠some (Value.ref T))
   (hS:h'.get? S=some { cls:=.type "list",dict:=none,data:=.seq (acc.push (.ref T)) c,slots:=#[] }) (k:∀b o,b≠S->h.get? b=some o->h'.get? b=some o):Got h0 bad S row (i + 1) h' (acc.push (.ref T)):=by
 refine⟨⟨c,hS⟩,by rw[Array.size_push,g.sz],λj v hj=>?_,?_,λb o hb e=>k b o (λz=>hb (z ▸ cb)) (g.old b o hb e)⟩
 . rw[Array.getElem?_push]at hj;split at hj
   . rename_i e
     rw[g.sz]at e;cases hj;rw[e];exact⟨T,rfl,sT,nT,k T _ (λz=>nT (z ▸ cb)) hT⟩
   . obtain⟨T',e1,e2,e3,e4⟩:=g.it j v hj;exact⟨T',e1,e2,e3,k T' _ (λz=>e3 (z ▸ cb)) e4⟩
 . rw[uk,oy];refine⟨g.nd,by simp,λa ha b hb z=>?_⟩;rw[cq.mp hb]at z;subst z;obtain⟨j,hj,ej⟩:=fw.mp ha;exact fT j (by rw[<- ej];simp[dn])
section
variable {R:Result->Shared->Prop}
theorem Fq {z:Addr}{h0:Heap}(calm:A.handled=none)(W:Hs n z S own row At)(h16:n<=1000)(res:Value):
   ∀(k i:Nat) (s:Shared) (acc:Array Value),n - i=k->i<=n->At i s.heap->Got h0 own S row i s.heap acc->h0.objs.size<=s.heap.objs.size->(∀h' acc',Got h0 own S row n h' acc'->R (.ok (.ret res)) { s with heap:=h' })->
     codeAny 'g' A (.builtin "list.extend.loop" ⟨[.ref S,.ref z,res],[]⟩) R s:=by
 intro k;induction k with
 | zero=>
   intro i s acc hk hi Ru g hsz hR;have UD:i=n:=X2
   subst UD;refine Kx F.entry_extend_loop ?_;rw[ke sx _];show wpAny _ A.in1 (pyNext (.ref z) >>=_) _ _ s;have ht:s.TypeIs (.ref z) "zip":=W.typ _ _ Ru;unfold pyNext;refine Hc (Hc (RF (Mo (name:=Str.ofString "__next__") ht wx
     (L9 wx ht F.entry_zip_next (W.stop _ _ _ _ _ _ calm Ru λh' e hk he=>?_) (F.args_zip_next_1 _)))))
   obtain⟨o,ho,hc⟩:=he;exact Hc (Tb (T:="StopIteration") (b:=true) ⟨o,ho,hc⟩ isSubtype_stop (Hd (Hd (hR h' acc (g.qh W.mem hk)))))
 | succ k ih=>
   intro i s acc hk hi Ru g hsz hR;have iI:i < n:=X2
   refine Kx F.entry_extend_loop ?_;rw[ke sx _];show wpAny _ A.in1 (pyNext (.ref z) >>=_) _ _ s;have ht:s.TypeIs (.ref z) "zip":=W.typ _ _ Ru;unfold pyNext;obtain⟨c,eS⟩:=g.lst;refine Hc (Hc (RF (Mo (name:=Str.ofString "__next__") ht wx
     (L9 wx ht F.entry_zip_next (W.turn _ _ _ _ _ _ _ Ru (ba eS) iI λh' a1 a2 a3 a4=>Hd ?_) (F.args_zip_next_1 _)))))
   have eS':=a4 S _ W.mem eS;have lt:∀{c:Addr}{o:Obj},s.heap.get? c=some o->s.heap.objs.size≠c:=λe=>fI (ba e);show wpAny _ A.in1 (updateSeq S (·.push 'i') >>=_) _ _ _;have up:∀b o,b≠S->h'.get? b=some o->(h'.update S (Obj.mapSeq (·.push (Value.ref s.heap.objs.size)))).get? b=some o:=λb o hb e=>(ky _ _ (Ne.symm hb)).trans e;have sz':acc.size=i:=g.sz;have h17:n<=sizeLine:=cw h16 Y1;refine Hc (PH eS' rfl (Hd ⟨PQ sx _,ih (i + 1) _ (acc.push 'i') X2 iI (W.qh _ _ _ a1 up)
     ((g.qh W.mem a4).push a2 hsz ?_ ?_ (ip _ eS' rfl) up) ?_ λh2 acc2 g2=>hR h2 acc2 g2⟩) (by rw[sz'];omega) (by show(acc.push _).size<=sizeLine + 1;rw[Array.size_push,sz'];omega))
   . intro m;rcases List.mem_cons.mp m with m | m
     . exact lt eS m
     . exact hU _ (W.lt _ _ Ru _ m)
   . intro j e;obtain⟨T',e1,_,_,e4⟩:=g.it j _ e;cases e1;exact lt e4 rfl
   . show h0.objs.size<=(h'.update S _).objs.size;rw[vi,a3];omega
end
theorem yD {z TI TO:Addr}(calm:A.handled=none)(W:Hs n z s.heap.objs.size own row At)(h16:n<=1000)(h0:At 0 s.heap)(hz:C5 s.heap z TI TO .none false)
   (hQ:∀h0 h' acc,(∀b o,s.heap.get? b=some o->h0.get? b=some o)->s.heap.objs.size<=h0.objs.size->Got h0 own s.heap.objs.size row n h' acc->Q 'i' { s with heap:=h' }):
   wpAny 'g' A (call (.type "list") [.ref z]) Q E s:=by
 refine callType_codes (Q₁:=λobj s₁=>obj=.ref s.heap.objs.size/\s₁={ s with heap:=s.heap.push { cls:=.type "list",data:=.seq #[] } }) F.called_list (F.typeCall_list_1 _) F.entry_list_init
   (code_list_new _ ⟨rfl,rfl⟩) λobj s₁ h₁=>?_
 obtain⟨rfl,rfl⟩:=h₁;have eS:(s.heap.push { cls:=.type "list",data:=.seq #[] }).get? s.heap.objs.size=some { cls:=.type "list",data:=.seq #[] }:=cn _ rfl;have lt:∀{c:Addr}{o:Obj},s.heap.get? c=some o->s.heap.objs.size≠c:=λe=>fI (ba e);refine⟨⟨_,eS,rfl⟩,F.args_list_init_2 _ _,?_⟩;show wpAny _ A.in1.in1 (do let old <- Builtin.List.listItems 'i';Builtin.List.listUpdate 'i' (λ_=>#[]);letGo old.toList.reverse;Builtin.List.listExtendWith 'i' (.ref z) .none) _ _ _;obtain⟨S,hSe⟩:∃S,s.heap.objs.size=S:=⟨_,rfl⟩
 have old:∀b o,s.heap.get? b=some o->(s.heap.push { cls:=.type "list",data:=.seq #[] }).get? b=some o:=λb o e=>ae _ e;have sz:s.heap.objs.size<=(s.heap.push { cls:=.type "list",data:=.seq #[] }).objs.size:=by rw[eQ];exact Nat.le_succ _
 rw[hSe]at eS hQ lt W ⊢;generalize s.heap.push { cls:=.type "list",data:=.seq #[] }=g0 at *;have ne:∀{c:Addr}{o:Obj},s.heap.get? c=some o->c≠S:=λe z=>lt e z.symm;refine Hc ?_;unfold Builtin.List.listItems;refine Hc (Pl eS rfl (Hd ?_));show wpAny _ A.in1.in1 (updateSeq S (λ_=>#[]) >>=λ_=>letGo (#[]:Array Value).toList.reverse >>=λ_=>Builtin.List.listExtendWith (.ref S) (.ref z) .none) _ _ _;refine Hc (PH eS rfl ?_);have e2:=ip (Obj.mapSeq (λ_=>(#[]:Array Value))) eS rfl;have o2:∀b o,b≠S->g0.get? b=some o->(g0.update S (Obj.mapSeq (λ_=>(#[]:Array Value)))).get? b=some o:=λb o hb e=>(ky _ _ (Ne.symm hb)).trans e;have s2:(g0.update S (Obj.mapSeq (λ_=>(#[]:Array Value)))).objs.size=g0.objs.size:=vi ..;refine Hc (wpAny_letGo ?_);generalize g0.update S (Obj.mapSeq (λ_=>(#[]:Array Value)))=g1 at *;have Xx:∀b o,b≠S->s.heap.get? b=some o->g1.get? b=some o:=λb o hb e=>o2 b o hb (old b o e);have Zr:C5 g1 z TI TO .none false:=Xx _ _ (ne hz) hz;have ht:Shared.TypeIs ⟨g1,s.gens,s.drawn,s.toks,s.os⟩ (.ref z) "zip":=⟨_,Zr,rfl⟩
 unfold Builtin.List.listExtendWith;refine Hc (Ta ht ?_);have q1:Builtin.List.listSameRef (.ref S) (.ref z)=false:=by simp[Builtin.List.listSameRef];exact lt hz
 have q2:(Value.type "zip"==Value.type "list")=false:=Y1
 have q3:(Value.type "zip"==Value.type "tuple")=false:=Y1
 simp only[q1,q2,q3,Ha,oe,Kt];refine Hc (Ts Zr ?_);refine Hc (IH ?_);unfold Builtin.List.listLengthHint;refine Hc (RR ht F.Fl ?_);show wpAny _ A.in1.in1 (specialOf (Value.ref z) (Str.ofString "__length_hint__") >>=_) _ _ _;refine Hc (RR ht F.C6 ?_);refine Hd ?_;show wpAny _ A.in1.in1 (rule "list.extend.makes-room" >>=λ_=>Builtin.List.listTouch (.ref S) >>=λ_=>
   again (.builtin "list.extend.loop" ⟨[.ref S,.ref z,.none],[]⟩)) _ _ _
 refine Hc (Q1 ?_);refine Hc ?_;show wpAny _ A.in1.in1 (updateSeq S (·.push .none) >>=λ_=>updateSeq S (·.pop)) _ _ _;refine Hc (PH e2 rfl ?_);have e3:=ip (Obj.mapSeq (·.push Value.none)) e2 rfl;refine PH (hz:=by seq_fits) e3 rfl ?_;have e4:=ip (Obj.mapSeq (·.pop)) e3 rfl;have o4:∀b o,b≠S->g1.get? b=some o->((g1.update S (Obj.mapSeq (·.push Value.none))).update S (Obj.mapSeq (·.pop))).get? b=some o:=
   λb o hb e=>(ky _ _ (Ne.symm hb)).trans ((ky _ _ (Ne.symm hb)).trans e)
 have s4:((g1.update S (Obj.mapSeq (·.push Value.none))).update S (Obj.mapSeq (·.pop))).objs.size=g1.objs.size:=by rw[vi,vi]
 have k4:∀b o,b≠S->s.heap.get? b=some o->((g1.update S (Obj.mapSeq (·.push Value.none))).update S (Obj.mapSeq (·.pop))).get? b=some o:=λb o hb e=>o4 b o hb (Xx b o hb e);generalize(g1.update S (Obj.mapSeq (·.push Value.none))).update S (Obj.mapSeq (·.pop))=g4 at *;exact Hd ⟨PQ sx _,Fq (h0:=g4) (A:=A.in1) calm W h16 .none n 0 _ #[] rfl (gs _) (W.qh _ _ _ h0 k4) ⟨⟨_,e4⟩,rfl,λj v hj=>(by simp at hj),List.Pairwise.nil,λb o _ e=>e⟩ (ag _) λh' acc' g=>
   ⟨rfl,hQ g4 h' acc' (λb o e=>k4 b o (ne e) e) (by rw[s4,s2,<- hSe];exact sz) g⟩⟩
abbrev ZE:=Addr×Addr×Array Value
variable{L:List ZE}
structure wN (z TI TO:Addr)(L:List ZE):Prop where
 nd:(z::TI::TO::L.map (·.1)).Nodup
 ls:∀e∈L,e.2.1∉z::TO::L.map (·.1)
abbrev mj (h:Heap)(T:Addr)(vs:Array Value):Prop:=h.get? T=some { cls:=.type "tuple",data:=.seq vs }
theorem gR {α β:Type}{M:Model}{f:α->β->Sem (ForInStep β)}{Q:β->Shared->Prop}(I:List α->β->Shared->Prop)
   (step:∀x l b s R,I (x::l) b s->(∀b' s',I l b' s'->R (.yield b') s')->wpAny M A (f x b) R E s) (q:∀b s,I [] b s->Q b s):∀(l:List α) (b:β) (s:Shared),I l b s->wpAny M A (forIn l b f) Q E s
 | [],b,s,h=>by rw[List.forIn_nil];exact Hd (q _ _ h)
 | x::l,b,s,h=>by rw[List.forIn_cons];exact Hc (step x l b s _ h λb' s' h'=>gR I step q l b' s' h')
theorem C7 {L1 L2:List ZE}{e:ZE}(h:((L1++e::L2).map (·.1)).Nodup):(∀d∈L1,d.1≠e.1)/\∀d∈L2,d.1≠e.1:=by
 rw[bj,oy,List.map_cons,List.nodup_cons]at h;exact⟨λd m=>h.2.2 _ (cx m) _ cb,λd m z=>h.2.1.1 (z ▸ cx m)⟩
inductive Xy (s:Shared)(z TI TO T:Addr)(k:Nat)(L:List ZE)(rest:List Value)(b:Option Fin×Array Value)(s':Shared):Prop
 | mk (L1 L2:List ZE) (h:Heap) (_:L=L1++L2) (_:rest=L2.map λe=>.ref e.1) (_:b=(none,(L1.map λe=>e.2.2[k]?.getD .none).toArray)) (_:s'={ s with heap:=h }) (_:h.objs.size=s.heap.objs.size)
   (_:∀e∈L1,h.IsListIter e.1 e.2.1 (k + 1)) (_:∀e∈L2,h.IsListIter e.1 e.2.1 k) (_:∀c o,c∉z::L.map (·.1)->s.heap.get? c=some o->h.get? c=some o) (_:C5 h z TI TO (rawInt T) true) (_:∀e∈L1,k < e.2.2.size)
theorem zZ {z TI TO:Addr}{k:Nat}{b:Bool}{oT:Obj}{Q:Fin->Shared->Prop}(D:wN z TI TO L)
   (hz:C5 s.heap z TI TO (rawInt T) b) (hT:s.heap.get? T=some oT) (Kl:mj s.heap TI (L.map λe=>Value.ref e.1).toArray) (ne:L≠[]) (hL:L.length<=sizeLine)
   (hl:∀e∈L,s.heap.IsListIter e.1 e.2.1 k/\s.heap.IsList e.2.1 e.2.2)
   (hQ:(∀e∈L,k < e.2.2.size)->∀h',C5 h' z TI TO (rawInt T) true->(∀e∈L,h'.IsListIter e.1 e.2.1 (k + 1))->mj h' s.heap.objs.size (L.map λe=>e.2.2[k]?.getD .none).toArray->h'.objs.size=s.heap.objs.size + 1->
     (∀c o,c∉z::L.map (·.1)->s.heap.get? c=some o->h'.get? c=some o)->Q (.done (.ret 'i')) { s with heap:=h' })
   (hE:∀e∈L,e.2.2.size<=k->A.handled=none/\∀h' a,(∀c o,c∉z::L.map (·.1)->s.heap.get? c=some o->h'.get? c=some o)->(∃o,h'.get? a=some o/\o.cls=.type "StopIteration")->E (.ref a) { s with heap:=h' }):
   wpAny 'g' A (Builtin.«zip.__next__» ⟨[.ref z],[]⟩) Q E s:=by
 show wpAny _ _ (field (.ref z) 2 >>=_) _ _ _;refine Hc (QQ hz rfl (x:=.bool false) rfl ?_);show wpAny _ _ (field (.ref z) 3 >>=_) _ _ _;refine Hc (QQ hz rfl (x:=.ref TI) rfl ?_);refine Hc (Pl Kl rfl ?_);have ne':(L.map λe=>Value.ref e.1).toArray.isEmpty=false:=by
   cases L with
   | nil=>exact absurd rfl ne
   | cons=>rfl
 dsimp only;rw[ne'];show wpAny _ _ (Builtin.SmallTypes.ownedTupleIsFree (.ref z) >>=_) _ _ _;refine Hc ?_;unfold Builtin.SmallTypes.ownedTupleIsFree;refine Hc (QQ hz rfl (x:=rawInt T) rfl ?_);show wpAny _ _ (loadIfAlive ((T:Int).toNat) >>=_) _ _ _;rw[my];refine Hc (PySem.W.kdx_alive hT ?_);simp only[Option.isNone_some,oe,Kt];refine Hc (QQ hz rfl (x:=.bool b) rfl ?_);refine MV hz λh₀ hz₀ hs₀=>?_;simp only[oe,Kt];simp only[List.forIn_toArray];have nd:=D.nd;simp only[List.nodup_cons,List.mem_cons,NM]at nd;have iz:∀e∈L,e.1≠z:=λe m x=>nd.1.2.2 (x ▸ cx m);refine Hc (gR (Xy s z TI TO T k L) ?_ ?_ _ _ _ ⟨[],L,h₀,rfl,rfl,rfl,rfl,hs₀.1,λe m=>(nomatch m),λe m=>(hl e m).1.extBut hs₀.extBut (iz e m),λc o m=>hs₀.extBut _ _ λx=>m (x ▸ cb),hz₀,λe m=>(nomatch m)⟩)
 . rintro x l b s' R ⟨L1,L2,h,eL,er,rfl,rfl,sz,d1,d2,kp,hz',lk⟩ hR;cases L2 with
   | nil=>cases er
   | cons e L2=>
     cases er;have me:e∈L:=eL ▸ cf _ cb;obtain⟨p1,p2⟩:=C7 (eL ▸ nd.2.2.2);have nl:=D.ls e me;refine Hc (IH ?_);show wpAny _ _ (Builtin.SmallTypes.nextOf (.ref e.1) >>=_) _ _ _;have Xi:=(hl e me).2.at λo x=>kp _ o (λm=>nl (by rcases List.mem_cons.mp m with rfl | m;exact cb;exact bc _ (bc _ m))) x
     by_cases hx:k < e.2.2.size
     case neg=>
       obtain⟨calm,q⟩:=hE e me (Ee hx);exact Hc (wpAny_nextOf_list_end calm (d2 e cb) Xi (mn (Ee hx)) λh' a x he=>q h' a (λc o m y=>x _ _ (λz=>m (z ▸ bc _ (cx me))) (kp c o m y)) he)
     refine Hc (wpAny_nextOf_list_item (d2 e cb) Xi (dn hx) λh' i' sb=>Hd (Hd (hR _ _ ?_)));refine⟨L1++[e],L2,h',by rw[eL,gL];rfl,rfl,?_,rfl,by rw[sb.1,sz],λd m=>?_,λd m=>(d2 d (bc _ m)).extBut sb.extBut (p2 d m),λc o m x=>sb.extBut _ _ (λy=>m (y ▸ bc _ (cx me))) (kp c o m x),sb.extBut _ _ (Ne.symm (iz e me)) hz',λd m=>(de.mp m).elim (lk d) λm=>cq.mp m ▸ hx⟩
     . rw[bj,List.map_singleton,dn hx];simp
     . rcases de.mp m with m | m
       . exact(d1 d m).extBut sb.extBut (p1 d m)
       . rw[cq.mp m];exact i'
 . rintro b s' ⟨L1,L2,h,eL,er,rfl,rfl,sz,d1,d2,kp,hz',lk⟩;cases L2 with
   | cons e L2=>cases er
   | nil=>
     rw[List.append_nil]at eL;subst eL;show wpAny _ _ (newTuple _ >>=λt=>ret t) _ _ _;refine Hc (wpAny_newTuple (hsz:=by simpa using hL) (Hd ?_));show Q (.done (.ret (.ref h.objs.size))) _;have up:∀c o,h.get? c=some o->(h.push { cls:=.type "tuple",data:=.seq (L.map λe=>e.2.2[k]?.getD .none).toArray }).get? c=some o:=λc o e=>ae _ e;rw[sz];refine hQ lk _ (up _ _ hz') (λe m=>(d1 e m).at λo x=>up _ o x) (by rw[<- sz];exact cn _ rfl) (by rw[eQ,sz]) λc o m x=>up _ _ (kp c o m x)
theorem pK {vs:Array Value}{x:Value}{k:Nat}{Q:Unit->Shared->Prop}(hT:mj s.heap T vs)(hn:vs.size<=sizeLine)
   (h:∀h',mj h' T (vs.setIfInBounds k x)->Heap.SameBut T s.heap h'->Q () { s with heap:=h' }):
   wpAny 'g' A (updateSeq T (·.setIfInBounds k x)) Q E s:=by
 refine PH hT rfl (hz:=hn) (_hz':=by rw[Array.size_setIfInBounds];exact va hn) (h _ ?_ (yn ..));unfold mj;rw[ip _ hT rfl];simp[Obj.mapSeq]
theorem P7 (A tl:List Value)(y x:Value):(A++y::tl).toArray.setIfInBounds A.length x=(A++[x]++tl).toArray:=by
 simp
inductive UJ (s:Shared)(z TI TO:Addr)(k:Nat)(L:List ZE)(rest:List (Value×Nat))(b:Option Fin×Unit)(s':Shared):Prop
 | mk (L1 L2:List ZE) (tl:List Value) (h:Heap) (_:L=L1++L2) (_:rest=(L2.map λe=>Value.ref e.1).zipIdx L1.length) (_:b=(none,())) (_:s'={ s with heap:=h }) (_:h.objs.size=s.heap.objs.size)
   (_:∀e∈L1,h.IsListIter e.1 e.2.1 (k + 1)) (_:∀e∈L2,h.IsListIter e.1 e.2.1 k) (_:∀c o,c∉z::TO::L.map (·.1)->s.heap.get? c=some o->h.get? c=some o) (_:C5 h z TI TO .ellipsis false)
   (_:tl.length=L2.length) (_:mj h TO ((L1.map λe=>e.2.2[k]?.getD .none)++tl).toArray)
theorem Ft {z TI TO:Addr}{k:Nat}{os:Array Value}(D:wN z TI TO L)
   (hz:C5 s.heap z TI TO .none false) (Kl:mj s.heap TI (L.map λe=>Value.ref e.1).toArray) (ZC:mj s.heap TO os) (ho:os.size=L.length) (ne:L≠[]) (hL:L.length<=sizeLine)
   (hl:∀e∈L,s.heap.IsListIter e.1 e.2.1 k/\s.heap.IsList e.2.1 e.2.2/\k < e.2.2.size)
   (hQ:∀h',C5 h' z TI TO (rawInt s.heap.objs.size) false->(∃o,h'.get? TO=some o)->(∀e∈L,h'.IsListIter e.1 e.2.1 (k + 1))->mj h' s.heap.objs.size (L.map λe=>e.2.2[k]?.getD .none).toArray->h'.objs.size=s.heap.objs.size + 1->
     (∀c o,c∉z::TO::L.map (·.1)->s.heap.get? c=some o->h'.get? c=some o)->Q 'i' { s with heap:=h' }):
   wpAny 'g' A (Builtin.«zip.__next__» ⟨[.ref z],[]⟩) (λfin s'=>∃v,fin=.done (.ret v)/\Q v s') E s:=by
 show wpAny _ _ (field (.ref z) 2 >>=_) _ _ _;refine Hc (QQ hz rfl (x:=.bool false) rfl ?_);show wpAny _ _ (field (.ref z) 3 >>=_) _ _ _;refine Hc (QQ hz rfl (x:=.ref TI) rfl ?_);refine Hc (Pl Kl rfl ?_);have ne':(L.map λe=>Value.ref e.1).toArray.isEmpty=false:=by
   cases L with
   | nil=>exact absurd rfl ne
   | cons=>rfl
 dsimp only;rw[ne'];show wpAny _ _ (Builtin.SmallTypes.ownedTupleIsFree (.ref z) >>=_) _ _ _;refine Hc ?_;unfold Builtin.SmallTypes.ownedTupleIsFree;refine Hc (QQ hz rfl (x:=.none) rfl (Hd ?_));simp only[QP];refine Hc (Q1 ?_);refine Hc (QQ hz rfl (x:=.ref TO) rfl ?_);refine Hc (Ki hz Y2 λh₁ hz₁ hs₁=>?_)
 replace hz₁:C5 h₁ z TI TO .ellipsis false:=hz₁
 refine Hc ?_;have nd:=D.nd;simp only[List.nodup_cons,List.mem_cons,NM]at nd;have iz:∀e∈L,e.1≠z:=λe m x=>nd.1.2.2 (x ▸ cx m);have io:∀e∈L,e.1≠TO:=λe m x=>nd.2.2.1 (x ▸ cx m);have zo:z≠TO:=nd.1.2.1;refine gR (UJ s z TI TO k L) ?_ ?_ _ _ _ ⟨[],L,os.toList,h₁,rfl,rfl,rfl,rfl,hs₁.1,λe m=>(nomatch m),λe m=>(hl e m).1.extBut hs₁.extBut (iz e m),λc o m=>hs₁.extBut _ _ λx=>m (x ▸ cb),hz₁,by rw[dy];exact ho,hs₁.extBut _ _ (Ne.symm zo) ZC⟩
 . rintro⟨x,n⟩ l b s' R ⟨L1,L2,tl,h,eL,er,rfl,rfl,sz,d1,d2,kp,hz',lt,ht⟩ hR;cases L2 with
   | nil=>cases er
   | cons e L2=>
     cases tl with
     | nil=>cases lt
     | cons y tl=>
       cases er;have me:e∈L:=eL ▸ cf _ cb;obtain⟨p1,p2⟩:=C7 (eL ▸ nd.2.2.2);have nl:=D.ls e me;have hx:=(hl e me).2.2;refine Hc (wpAny_onRaise ?_);show wpAny _ _ (Builtin.SmallTypes.nextOf (.ref e.1) >>=_) _ _ _;refine Hc (wpAny_nextOf_list_item (d2 e cb) ((hl e me).2.1.at λo x=>kp _ o nl x) (dn hx) λh' i' sb=>Hd ?_);have Xj:=sb.extBut _ _ (Ne.symm (io e me)) ht;refine Hc (Pl Xj rfl ?_);refine Hc (pK Xj (by simp only[da,ar,ab,List.length_cons];have:=congrArg List.length eL;simp only[ar,List.length_cons]at this;simp only[List.length_cons]at lt;omega) λh₃ ht₃ hs₃=>?_);refine Hc (wpAny_letGo (Hd (hR _ _ ?_)));refine⟨L1++[e],L2,tl,h₃,by rw[eL,gL];rfl,by rw[ar];rfl,rfl,rfl,by rw[hs₃.1,sb.1,sz],λd m=>?_,λd m=>((d2 d (bc _ m)).extBut sb.extBut (p2 d m)).extBut hs₃.extBut (io d (eL ▸ cf _ (bc _ m))),
         λc o m x=>hs₃.extBut _ _ (λy=>m (y ▸ bc _ cb)) (sb.extBut _ _ (λy=>m (y ▸ bc _ (bc _ (cx me)))) (kp c o m x)),hs₃.extBut _ _ zo (sb.extBut _ _ (Ne.symm (iz e me)) hz'),Nat.succ.inj lt,?_⟩
       . rcases de.mp m with m | m
         . exact((d1 d m).extBut sb.extBut (p1 d m)).extBut hs₃.extBut (io d (eL ▸ js _ m))
         . rw[cq.mp m];exact i'.extBut hs₃.extBut (io e me)
       . have q:=P7 (L1.map λe=>e.2.2[k]?.getD .none) tl y e.2.2[k];rw[ab]at q;rw[q]at ht₃;rw[bj,List.map_singleton,dn hx];exact ht₃
 . rintro b s' ⟨L1,L2,tl,h,eL,er,rfl,rfl,sz,d1,d2,kp,hz',lt,ht⟩;cases L2 with
   | cons e L2=>cases er
   | nil=>
     rw[List.append_nil]at eL;subst eL;rw[List.eq_nil_of_length_eq_zero lt,List.append_nil]at ht;refine Hc (Pl ht rfl ?_);refine Hc (wpAny_newTuple (hsz:=by simpa using hL) ?_);show wpAny _ _ (Builtin.SmallTypes.ownedTupleHandOut (.ref z) (.ref h.objs.size) >>=_) _ _ _;have Xz:z < h.objs.size:=ba hz';refine Hc ?_;unfold Builtin.SmallTypes.ownedTupleHandOut;refine Hc (Ki (ae _ hz') Y2 λh₉ hz₉ hs₉=>?_)
     replace hz₉:C5 h₉ z TI TO (rawInt h.objs.size) false:=hz₉
     refine Ki hz₉ Y2 λg₁ hg₁ ht₁=>?_
     replace hg₁:C5 g₁ z TI TO (rawInt h.objs.size) false:=hg₁
     have up:∀c o,c≠z->h.get? c=some o->g₁.get? c=some o:=λc o c1 e=>ht₁.extBut _ _ c1 (hs₉.extBut _ _ c1 (ae _ e));have hT₁:mj g₁ h.objs.size (L.map λe=>e.2.2[k]?.getD .none).toArray:=ht₁.extBut _ _ (fI Xz) (hs₉.extBut _ _ (fI Xz) (cn _ rfl));have XA:g₁.objs.size=h.objs.size + 1:=by rw[ht₁.1,hs₉.1,eQ]
     rw[sz]at hg₁ hT₁ XA;refine Hd ⟨_,rfl,?_⟩;show Q (.ref h.objs.size) _;rw[sz];exact hQ g₁ hg₁ ⟨_,up _ _ (Ne.symm zo) ht⟩ (λe m=>(d1 e m).at λo x=>up _ o (iz e m) x) hT₁ XA λc o m x=>up c o (λy=>m (y ▸ cb)) (kp c o m x)
inductive aL (z TI TO S:Addr)(L:List ZE)(i:Nat)(h:Heap):Prop
 | mk (Kl:mj h TI (L.map λe=>Value.ref e.1).toArray) (hO:∃o,h.get? TO=some o) (hl:∀e∈L,h.IsListIter e.1 e.2.1 i/\h.IsList e.2.1 e.2.2)
   (hz:i=0/\C5 h z TI TO .none false/\(∃os,os.size=L.length/\mj h TO os)∨∃T b oT,T∉S::z::TO::L.map (·.1)/\C5 h z TI TO (rawInt T) b/\h.get? T=some oT):aL z TI TO S L i h
theorem MX {z TI TO:Addr}(D:wN z TI TO L)(hS:S∉z::TI::TO::(L.map (·.1)++L.map (·.2.1)))(ne:L≠[])(hL:L.length<=sizeLine)(hn:∀e∈L,n<=e.2.2.size)(hm:∃e∈L,e.2.2.size=n)(n0:0 < n):
   Hs n z S (z::TO::L.map (·.1)) (λj=>(L.map λe=>e.2.2[j]?.getD .none).toArray) (aL z TI TO S L):=by
 have nd:=D.nd;simp only[List.nodup_cons,List.mem_cons,NM]at nd;simp only[List.mem_cons,de,NM]at hS;obtain⟨S1,S2,S3,S4,S5⟩:=hS;have m4:∀e∈L,e.1≠S:=λe m x=>S4 (x ▸ cx m);have m5:∀e∈L,e.2.1≠S:=λe m x=>S5 (x ▸ cx m);have nTI:TI∉z::TO::L.map (·.1):=by
   simp only[List.mem_cons,NM];exact⟨Ne.symm nd.1.1,nd.2.1.1,nd.2.1.2⟩
 have sub:∀{c},c∉z::TO::L.map (·.1)->c∉z::L.map (·.1):=λh m=>h (by
   rcases List.mem_cons.mp m with rfl | m
   . exact cb
   . exact bc _ (bc _ m))
 refine⟨?_,?_,?_,?_,?_,?_⟩
 . rintro i h ⟨_,_,_,⟨_,hz,_⟩ | ⟨T,b,oT,_,hz,_⟩⟩ <;> exact⟨_,hz,rfl⟩
 . rintro i h h' ⟨Kl,⟨o,hO⟩,hl,hz⟩ k;refine⟨k _ _ (Ne.symm S2) Kl,⟨o,k _ _ (Ne.symm S3) hO⟩,λe m=>⟨(hl e m).1.at λo x=>k _ o (m4 e m) x,(hl e m).2.at λo x=>k _ o (m5 e m) x⟩,?_⟩;rcases hz with ⟨e,hz,os,ho,ht⟩ | ⟨T,b,oT,nT,hz,hT⟩
   . exact .inl ⟨e,k _ _ (Ne.symm S1) hz,os,ho,k _ _ (Ne.symm S3) ht⟩
   . exact .inr ⟨T,b,oT,nT,k _ _ (Ne.symm S1) hz,k _ _ (λz=>nT (z ▸ cb)) hT⟩
 . simp only[List.mem_cons,NM];exact⟨S1,S3,S4⟩
 . rintro i h ⟨_,⟨o,hO⟩,hl,hz⟩ c hc;rcases List.mem_cons.mp hc with rfl | hc
   . rcases hz with ⟨_,hz,_⟩ | ⟨T,b,oT,_,hz,_⟩ <;> exact ba hz
   rcases List.mem_cons.mp hc with rfl | hc
   . exact ba hO
   . obtain⟨e,m,rfl⟩:=fg.mp hc;obtain⟨_,x,_⟩:=(hl e m).1;exact ba x
 . rintro prog w A E s i Q ⟨Kl,⟨o,hO⟩,hl,hz⟩ lS hi hQ;rcases hz with ⟨rfl,hz,os,ho,ZC⟩ | ⟨T,b,oT,nT,hz,hT⟩
   . refine Ft D hz Kl ZC ho ne hL (λe m=>⟨(hl e m).1,(hl e m).2,cm hi (hn e m)⟩) λh' a1 aO a2 a5 a6 a7=>hQ h' ⟨a7 TI _ nTI Kl,aO,λe m=>⟨a2 e m,(hl e m).2.at λo x=>a7 _ o (D.ls e m) x⟩,.inr ⟨_,_,_,?_,a1,a5⟩⟩ a5 a6 a7;have lt:∀{c:Addr}{o:Obj},s.heap.get? c=some o->s.heap.objs.size≠c:=λe=>fI (ba e);simp only[List.mem_cons,NM];refine⟨fI lS,lt hz,lt ZC,λm=>?_⟩;obtain⟨e,m,x⟩:=fg.mp m;obtain⟨_,y,_⟩:=(hl e m).1;exact lt y x.symm
   . have nT':=λm=>nT (bc _ m);refine zZ D hz hT Kl ne hL hl (λ_ h' a1 a2 a5 a6 a7=>⟨_,rfl,hQ h' ⟨a7 TI _ (sub nTI) Kl,⟨o,a7 TO _ ?_ hO⟩,λe m=>⟨a2 e m,(hl e m).2.at λo x=>a7 _ o (sub (D.ls e m)) x⟩,.inr ⟨T,true,_,nT,a1,a7 T _ (sub nT') hT⟩⟩ a5 a6 λc o m x=>a7 c o (sub m) x⟩) λe m x=>absurd (cm hi (hn e m)) (Nat.not_lt.mpr x);simp only[List.mem_cons,NM];exact⟨Ne.symm nd.1.2.1,nd.2.2.1⟩
 . rintro prog w A E s Q calm ⟨Kl,_,hl,⟨rfl,_⟩ | ⟨T,b,oT,nT,hz,hT⟩⟩ hE
   . exact absurd n0 (hU _)
   . obtain⟨e,m,x⟩:=hm;exact zZ D hz hT Kl ne hL hl (λf=>absurd (f e m) X2) λe m _=>⟨calm,λh' a k he=>hE h' a (λc o m y=>k c o (sub m) y) he⟩
end PySem
namespace L2
open PySem PySem.Spec PyProof PyProof.Rows
variable{C f:Addr}{W:Addr->Option HO}{A:Around}{X:Cx}{D:Ends}{e tg:Expr}{fd:FuncData}{base:Heap}{H:Hp}{i:Int}{g:Int->Int->V}{pins:List (Addr×Obj)}{src:List (Option Nat)}{es:List Expr}{N ps:List Str}{xs:List V}{us:List Value}{p:List Value->Prop}{j n:Nat}{FH Kq Nk Qd US jR jS mq ny qL sI vf x0 x1 x4 x5 x6 x7 x8 x9:Option V}{pos:Pos}{P:Prop}{sc:Scope}{sp:Sp}{σ:St}{s0:Stmt}{m:Str}{mg:Str->Option Value}{ta:TA}{te:TE}{tb:TS}{α:Type}{x:V}{Q:VK}{w:World}
def yE (H:Hp)(W:Addr->Option HO):Hp:=λa=>match W a with
 | some o=>some o
 | none=>H a
section
variable {s:Shared}{h':Heap}
theorem nq {a:Addr}(h:W a=none):yE H W a=H a:=by unfold yE;rw[h]
theorem rG {a:Addr}{o:HO}(h:W a=some o):yE H W a=some o:=by unfold yE;rw[h]
theorem Inv.yE {t':Nat}(I:Inv X pins σ H s)(k:∀b u,s.heap.get? b=some u->h'.get? b=some u)(hp:∀a o,W a=some o->s.heap.objs.size<=a)(new:∀a o,W a=some o->cW X.prog X.w (L2.yE H W) h' a o):
   Inv X pins σ (L2.yE H W) { s with heap:=h',toks:=t' }:=by
 have fr:∀a o,H a=some o->W a=none:=λa o e=>by
   cases q:W a with
   | none=>rfl
   | some u=>rw[I.dB.fresh (hp a u q)]at e;cases e
 have old:∀a o,H a=some o->L2.yE H W a=some o:=λa o e=>by rw[nq (fr a o e)];exact e
 refine I.un ⟨λb u q _ _ _=>k b u q,λb u q _ _ _=>⟨u.slots,k b u q⟩,λb u q n _=>?_,λb u q _=>⟨u,k b u q⟩,λb xs q=>old b _ q,λb u xs q=>old b _ q,λb ps q=>⟨#[],by rw[old b _ q];simp⟩⟩ (λb u e=>?_)
 . have:W b=none:=by
     cases w:W b with
     | none=>rfl
     | some v=>exact absurd (ba q) (Nat.not_lt.mpr (hp b v w))
   rw[nq this];exact n
 . cases w:W b with
   | some v=>
     rw[rG w]at e;cases e;exact new b _ w
   | none=>
     rw[nq w]at e;exact(I.dB b u e).qh (λc v _ q=>k c v q) (λc q=>old c _ q) λc xs q=>old c _ q
end
def MY (K:Frag)(H1:Hp)(n:Nat)(rv:Nat->List V)(Q:VK):Prop:=∀(D:Addr) (L:List Addr) (H':Hp),L2.new K H1 D->L.length=n->L.Nodup->D∉L->H' D=some (.lst (L.map V.ref))->Ext K H1 H'->(∀(j:Nat) T,L[j]?=some T->L2.new K H1 T/\H' T=some (.tup (rv j)))->Q (.ref D) H'
def Fv (K:Frag)(t:TA):TE:=λσ H Q=>t σ H λvs H1=>∃a b xs ys n,vs=[.ref a,.ref b]/\aQ K H1 a xs/\aQ K H1 b ys/\(xs.length=n + 1/\ys.length=n)/\0 < n/\n<=1000/\MY K H1 n (λj=>[xs[j]?.getD .bS,ys[j]?.getD .bS]) Q
def Fw (K:Frag)(t:TA):TE:=λσ H Q=>t σ H λvs H1=>∃a b c xs ys zs n,vs=[.ref a,.ref b,.ref c]/\aQ K H1 a xs/\aQ K H1 b ys/\aQ K H1 c zs/\(xs.length=n/\ys.length=n/\zs.length=n)/\0 < n/\n<=1000/\
 ∀(D:Addr) (L:List Addr) (H':Hp),L2.new K H1 D->L.length=n->L.Nodup->D∉L->H' D=some (.lst (L.map V.ref))->Ext K H1 H'->(∀(j:Nat) T x y z,L[j]?=some T->xs[j]?=some x->ys[j]?=some y->zs[j]?=some z->L2.new K H1 T/\H' T=some (.tup [x,y,z]))->Q (.ref D) H'
theorem UK {y z:V}(r:Vals [x,y,z] us):∃u v w',us=[u,v,w']/\RelV x u/\RelV y v/\RelV z w':=by
 cases r with
 | cons r1 r=>
   cases r with
   | cons r2 r=>
     cases r with
     | cons r3 r=>cases r;exact⟨_,_,_,rfl,r1,r2,r3⟩
theorem UL {y:V}(r:Vals [x,y] us):∃u v,us=[u,v]/\RelV x u/\RelV y v:=by
 cases r with
 | cons r1 r=>
   cases r with
   | cons r2 r=>cases r;exact⟨_,_,rfl,r1,r2⟩
theorem in3 {p:ZE->Prop}{x y z:ZE}(a:p x)(b:p y)(c:p z):∀e∈[x,y,z],p e:=λe m=>by
 rcases List.mem_cons.mp m with rfl | m
 . exact a
 rcases List.mem_cons.mp m with rfl | m
 . exact b
 rw[cq.mp m];exact c
theorem in2 {p:ZE->Prop}{x y:ZE}(a:p x)(b:p y):∀e∈[x,y],p e:=λe m=>by
 rcases List.mem_cons.mp m with rfl | m
 . exact a
 rw[cq.mp m];exact b
theorem apart_new {a b c:Nat}{xs ys zs:Array Value}(ha:a < n)(hb:b < n)(hc:c < n):wN (n + 5) (n + 3) (n + 4) [(n,a,xs),(n + 1,b,ys),(n + 2,c,zs)]:=by
 refine⟨show([n + 5,n + 3,n + 4,n,n + 1,n + 2]:List Nat).Nodup from by simp,in3 (show a∉([n + 5,n + 4,n,n + 1,n + 2]:List Nat) from ?_) (show b∉([n + 5,n + 4,n,n + 1,n + 2]:List Nat) from ?_) (show c∉([n + 5,n + 4,n,n + 1,n + 2]:List Nat) from ?_)⟩
 all_goals
   simp only[List.mem_cons,List.not_mem_nil,Jn,NM];omega
theorem Fx {a b:Nat}{xs ys:Array Value}(ha:a < n)(hb:b < n):wN (n + 4) (n + 2) (n + 3) [(n,a,xs),(n + 1,b,ys)]:=by
 refine⟨show([n + 4,n + 2,n + 3,n,n + 1]:List Nat).Nodup from by simp,in2 (show a∉([n + 4,n + 3,n,n + 1]:List Nat) from ?_) (show b∉([n + 4,n + 3,n,n + 1]:List Nat) from ?_)⟩
 all_goals
   simp only[List.mem_cons,List.not_mem_nil,Jn,NM];omega
theorem P8 {m a b c:Nat}(ha:a < m)(hb:b < m)(hc:c < m):m + 6∉([m + 5,m + 3,m + 4,m,m + 1,m + 2,a,b,c]:List Nat):=by
 simp only[List.mem_cons,List.not_mem_nil,Jn,NM];omega
theorem P9 {m a b:Nat}(ha:a < m)(hb:b < m):m + 5∉([m + 4,m + 2,m + 3,m,m + 1,a,b]:List Nat):=by
 simp only[List.mem_cons,List.not_mem_nil,Jn,NM];omega
def zW (D:Addr)(L:List Addr)(rv:Nat->List V):Addr->Option HO:=λa=>if a=D then some (.lst (L.map V.ref)) else
 if L.idxOf a < L.length then some (.tup (rv (L.idxOf a))) else none
theorem Ht:∀l:List Value,(∀v∈l,∃T,v=Value.ref T)->∃L:List Addr,l=L.map Value.ref
 | [],_=>⟨[],rfl⟩
 | v::l,h=>by
   obtain⟨T,rfl⟩:=h v cb;obtain⟨L,rfl⟩:=Ht l λv hv=>h v (bc _ hv);exact⟨T::L,rfl⟩
theorem z0:∀l:List Addr,Vals (l.map V.ref) (l.map Value.ref)
 | []=>.nil
 | _::l=>.cons rfl (z0 l)
theorem XC {H1:Hp}{s1:Shared}{h2:Heap}{z TI TO:Addr}{own:List Addr}{row:Nat->Array Value}{At:Nat->Heap->Prop}{E:Value->Shared->Prop}{R:Value->Shared->Prop}(rv:Nat->List V)(I1:Inv X pins σ H1 s1)(calm:A.handled=none)(kp:∀c o,s1.heap.get? c=some o->h2.get? c=some o)(le:s1.heap.objs.size<=h2.objs.size)
   (big:∀c∈own,s1.heap.objs.size<=c) (W:Hs n z h2.objs.size own row At) (hn:n<=1000) (h0:At 0 h2) (hz:C5 h2 z TI TO .none false) (hr:∀j,j < n->(rv j).length<=sizeLine/\Vals (rv j) (row j).toList) (q:MY X.K H1 n rv Q)
   (hR:∀v s' H',Inv X pins σ H' s'->Q (.ref v) H'->R (.ref v) s'):wpAny 'c' A (call (.type "list") [.ref z]) R E { s1 with heap:=h2 }:=by
 refine yD (s:={ s1 with heap:=h2 }) calm W hn h0 hz λg0 h' acc k0 sz0 got=>?_;have le:s1.heap.objs.size<=({ s1 with heap:=h2 }:Shared).heap.objs.size:=le;obtain⟨D,hD⟩:∃D,D=({ s1 with heap:=h2 }:Shared).heap.objs.size:=⟨_,rfl⟩
 rw[<- hD]at got sz0 le ⊢;obtain⟨L,hL⟩:=Ht acc.toList λv hv=>by
   obtain⟨j,hj,ej⟩:=fw.mp hv;obtain⟨T,e,_⟩:=got.it j v (by rw[<- ej];simp at hj;simp[dn,hj]);exact⟨T,e⟩
 have UM:L.length=n:=by
   have:acc.toList.length=n:=by rw[dy];exact got.sz
   rw[hL,ab]at this;exact this
 have ndL:L.Nodup:=by
   have:=got.nd;rw[hL]at this;exact List.Pairwise.of_map Value.ref (λa b h z=>h (by rw[z])) this
 have atL:∀(j:Nat) T,L[j]?=some T->g0.objs.size<=T/\T∉D::own/\h'.get? T=some { cls:=.type "tuple",data:=.seq (row j) }:=by
   intro j T hj;have:acc[j]?=some (Value.ref T):=by
     rw[<- vy,hL,ax,hj];rfl
   obtain⟨T',e,z1⟩:=got.it j _ this;cases e;exact z1
 have DL:D∉L:=λm=>by
   obtain⟨j,hj⟩:=mB m;exact(atL j D hj).2.1 cb
 have aa9:∀T∈L,s1.heap.objs.size<=T:=λT m=>by
   obtain⟨j,hj⟩:=mB m;exact cw (cw le sz0) (atL j T hj).1
 have wT:∀(j:Nat) T,L[j]?=some T->zW D L rv T=some (.tup (rv j)):=by
   intro j T hj;have ne:T≠D:=λe=>DL (e ▸ bb hj);obtain⟨iI,e⟩:=bo.mp hj;have ix:L.idxOf T=j:=by
     rw[<- e];exact ndL.idxOf_getElem j iI
   unfold zW;rw[He ne,ix,Hk iI]
 have wI:∀a o,zW D L rv a=some o->a=D/\o=.lst (L.map V.ref)∨∃j:Nat,L[j]?=some a/\o=.tup (rv j):=by
   intro a o e;unfold zW at e;split at e
   . rename_i h;cases e;exact .inl ⟨h,rfl⟩
   split at e
   . rename_i iI
     cases e;refine .inr ⟨L.idxOf a,?_,rfl⟩;rw[a9 iI];exact congrArg some (List.getElem_idxOf iI)
   . cases e
 have XD:∀a o,zW D L rv a=some o->s1.heap.objs.size<=a:=λa o e=>by
   rcases wI a o e with ⟨rfl,_⟩ | ⟨j,hj,_⟩
   . exact le
   . exact aa9 a (bb hj)
 have wD:zW D L rv D=some (.lst (L.map V.ref)):=Hk rfl;have I2:Inv X pins σ (L2.yE H1 (zW D L rv)) { s1 with heap:=h',toks:=s1.toks }:=by
   refine I1.yE (t':=s1.toks) (λb o e=>got.old b o (λm=>?_) (k0 b o (kp b o e))) XD λa o e=>?_
   . have l1:=ba e;rcases List.mem_cons.mp m with m | m
     . rw[m]at l1;exact hU _ (cm l1 le)
     . exact hU _ (cm l1 (big b m))
   . rcases wI a o e with ⟨rfl,rfl⟩ | ⟨j,hj,rfl⟩
     . obtain⟨m,em⟩:=got.lst;refine⟨?_,acc.toList,m,?_,by simpa using em⟩
       . rw[ab,UM];exact cw hn Y1
       . rw[hL];exact z0 L
     . obtain⟨_,_,tr⟩:=atL j a hj;have Vy:=hr j (UM ▸ (bo.mp hj).1);exact⟨Vy.1,_,Vy.2,_,tr,rfl,_,rfl⟩
 have Qa:∀a o,zW D L rv a=some o->L2.new X.K H1 a:=λa o e=>⟨I1.dB.fresh (XD a o e),I2.kU (rG e)⟩
 refine hR D _ _ I2 (q D L _ (Qa D _ wD) UM ndL DL (rG wD) ⟨λg o e=>?_,λg ws e m=>?_⟩ λj T hj=>⟨Qa T _ (wT j T hj),rG (wT j T hj)⟩)
 . cases w:zW D L rv g with
   | none=>rw[nq w];exact e
   | some o=>rw[(Qa g o w).1]at e;cases e
 . cases w:zW D L rv g with
   | none=>rw[nq w];exact e
   | some o=>rw[(Qa g o w).2]at m;cases m
theorem nu {is:List Value}(v:Vals xs is)(h:j < xs.length):RelV (xs[j]?.getD .bS) (is.toArray[j]?.getD .none):=by
 obtain⟨u,w,r⟩:=v.get (a9 h);rw[a9 h,og,w];exact r
theorem Km {l1 l2 l3:Expr}{t:TA}{p p2 jz:Pos}(hc:X.calm=true)(hg:Gl X "list")(hm:X.mg "list"=none)(Xg:Gl X "zip")(Xh:X.mg "zip"=none)(ha:JA X [l1,l2,l3] t)
   (he:starEach [.Call (.Name "zip" p2) [l1,l2,l3] [] jz] X.env=(false,eval (.Call (.Name "zip" p2) [l1,l2,l3] [] jz) X.env)::starEach [] X.env:=by rfl)
   (Ka:starEach [l1,l2,l3] X.env=(false,eval l1 X.env)::starEach [l2,l3] X.env:=by rfl) (Vz:(backTo jz (starEach [l2,l3] X.env)).any (·.1)=false:=by rfl):
   JE X (.Call (.Name "list" p) [.Call (.Name "zip" p2) [l1,l2,l3] [] jz] [] pos) (Fw X.K t):=⟨by
 exists 1,Q,I,h;refine Kb (gw I hg hm cA (dC ?_ he rfl));rw[he];show wpAny _ _ (spliced ((false,eval (.Call (.Name "zip" p2) [l1,l2,l3] [] jz) X.env)::backTo pos (starEach [] X.env))) _ _ s;refine Calls.spliced_cons ?_;refine Kb (gw I Xg Xh ER (dC (bH (ha.h jz pins s σ H _ I h) λus s1=>?_) Ka Vz));rintro⟨vs,H1,I1,r1,q1⟩;obtain⟨a,b,c,xs,ys,zs,n,rfl,hx,hy,hz,⟨n1,n2,n3⟩,n0,hn,q⟩:=q1;obtain⟨u,v,w',rfl,ru,rv,rw'⟩:=UK r1;cases ru;cases rv;cases rw';obtain⟨is1,v1,t1,_⟩:=I1.list hx;obtain⟨is2,v2,t2,_⟩:=I1.list hy;obtain⟨is3,v3,t3,_⟩:=I1.list hz;have lt:∀{a:Addr}{l:Array Value},s1.heap.IsList a l->a < s1.heap.objs.size:=λ⟨_,e,_⟩=>ba e;have la:=lt t1.isList;have lb:=lt t2.isList;have lc:=lt t3.isList;refine Fp t1.isList t2.isList t3.isList λh2 g1 g2 g3 g4 g5 g6 sz kp=>?_;refine Calls.spliced_nil ?_;have z7:∀{a:Addr}{l:Array Value},s1.heap.IsList a l->h2.IsList a l:=λx=>x.at λo e=>kp _ o e;have e1:is1.length=n:=by rw[<- v1.length,n1]
 have e2:is2.length=n:=by rw[<- v2.length,n2]
 have e3:is3.length=n:=by rw[<- v3.length,n3]
 obtain⟨m,hm⟩:∃m:Nat,m=s1.heap.objs.size:=⟨_,rfl⟩
 rw[<- hm]at g1 g2 g3 g4 g5 g6 sz la lb lc ⊢;have D:=apart_new (xs:=is1.toArray) (ys:=is2.toArray) (zs:=is3.toArray) la lb lc;have nS:h2.objs.size∉[m + 5,m + 3,m + 4,m,m + 1,m + 2,a,b,c]:=by
   rw[sz];exact P8 la lb lc
 have W:=MX (n:=n) D nS Y2 (by show(3:Nat)<=sizeLine;decide) (in3 (nz e1.symm) (nz e2.symm) (nz e3.symm)) ⟨_,cb,e1⟩ n0;refine XC (λj=>[xs[j]?.getD .bS,ys[j]?.getD .bS,zs[j]?.getD .bS]) I1 (I1.ok.hd hc) kp (by rw[sz,hm];exact ma _ _) (λc hc=>?_) W hn ⟨g2,⟨_,g3⟩,in3 ⟨g4,z7 t1.isList⟩ ⟨g5,z7 t2.isList⟩ ⟨g6,z7 t3.isList⟩,.inl ⟨rfl,g1,_,rfl,g3⟩⟩ g1 (λj hj=>⟨by show(3:Nat)<=sizeLine;decide,.cons (nu v1 X2) (.cons (nu v2 X2) (.cons (nu v3 X2) .nil))⟩) (λD L H' a1 a2 a3 a4 a5 a6 a7=>q D L H' a1 a2 a3 a4 a5 a6 λj T x y z hj h1 h2 h3=>?_) λv s' H' i q=>⟨.ref v,H',i,rfl,q⟩
 . simp only[List.map_cons,List.map_nil,List.mem_cons,List.not_mem_nil,Jn]at hc;rw[<- hm];rcases hc with rfl | rfl | rfl | rfl | rfl <;> first | exact ma _ _ | exact ag _
 . have:=a7 j T hj;simp only[h1,h2,h3,Option.getD_some]at this;exact this⟩
theorem Kn {l1 l2:Expr}{t:TA}{p p2 jz:Pos}(hc:X.calm=true)(hg:Gl X "list")(hm:X.mg "list"=none)(Xg:Gl X "zip")(Xh:X.mg "zip"=none)(ha:JA X [l1,l2] t)
   (he:starEach [.Call (.Name "zip" p2) [l1,l2] [] jz] X.env=(false,eval (.Call (.Name "zip" p2) [l1,l2] [] jz) X.env)::starEach [] X.env:=by rfl)
   (Ka:starEach [l1,l2] X.env=(false,eval l1 X.env)::starEach [l2] X.env:=by rfl) (Vz:(backTo jz (starEach [l2] X.env)).any (·.1)=false:=by rfl):
   JE X (.Call (.Name "list" p) [.Call (.Name "zip" p2) [l1,l2] [] jz] [] pos) (Fv X.K t):=⟨by
 exists 1,Q,I,h;refine Kb (gw I hg hm cA (dC ?_ he rfl));rw[he];show wpAny _ _ (spliced ((false,eval (.Call (.Name "zip" p2) [l1,l2] [] jz) X.env)::backTo pos (starEach [] X.env))) _ _ s;refine Calls.spliced_cons ?_;refine Kb (gw I Xg Xh ER (dC (bH (ha.h jz pins s σ H _ I h) λus s1=>?_) Ka Vz));rintro⟨vs,H1,I1,r1,q1⟩;obtain⟨a,b,xs,ys,n,rfl,hx,hy,⟨n1,n2⟩,n0,hn,q⟩:=q1;obtain⟨u,v,rfl,ru,rv⟩:=UL r1;cases ru;cases rv;obtain⟨is1,v1,t1,_⟩:=I1.list hx;obtain⟨is2,v2,t2,_⟩:=I1.list hy;have lt:∀{a:Addr}{l:Array Value},s1.heap.IsList a l->a < s1.heap.objs.size:=λ⟨_,e,_⟩=>ba e;have la:=lt t1.isList;have lb:=lt t2.isList;refine call_zip_2 t1.isList t2.isList λh2 g1 g2 g3 g4 g5 sz kp=>?_;refine Calls.spliced_nil ?_;have z7:∀{a:Addr}{l:Array Value},s1.heap.IsList a l->h2.IsList a l:=λx=>x.at λo e=>kp _ o e;have e1:is1.length=n + 1:=by rw[<- v1.length,n1]
 have e2:is2.length=n:=by rw[<- v2.length,n2]
 obtain⟨m,hm⟩:∃m:Nat,m=s1.heap.objs.size:=⟨_,rfl⟩
 rw[<- hm]at g1 g2 g3 g4 g5 sz la lb ⊢;have D:=Fx (xs:=is1.toArray) (ys:=is2.toArray) la lb;have nS:h2.objs.size∉[m + 4,m + 2,m + 3,m,m + 1,a,b]:=by
   rw[sz];exact P9 la lb
 have W:=MX (n:=n) D nS Y2 (by show(2:Nat)<=sizeLine;decide) (in2 (fv (Nat.lt_of_succ_le (nz e1.symm))) (nz e2.symm)) ⟨_,bc _ cb,e2⟩ n0;refine XC (λj=>[xs[j]?.getD .bS,ys[j]?.getD .bS]) I1 (I1.ok.hd hc) kp (by rw[sz,hm];exact ma _ _) (λc hc=>?_) W hn ⟨g2,⟨_,g3⟩,in2 ⟨g4,z7 t1.isList⟩ ⟨g5,z7 t2.isList⟩,.inl ⟨rfl,g1,_,rfl,g3⟩⟩ g1 (λj hj=>⟨by show(2:Nat)<=sizeLine;decide,.cons (nu v1 X2) (.cons (nu v2 X2) .nil)⟩) q λv s' H' i q=>⟨.ref v,H',i,rfl,q⟩
 simp only[List.map_cons,List.map_nil,List.mem_cons,List.not_mem_nil,Jn]at hc;rw[<- hm];rcases hc with rfl | rfl | rfl | rfl <;> first | exact ma _ _ | exact ag _⟩
section
variable {K:Frag}{g:TG}{a:Addr}
theorem z8:pD (Hg K ta) g tb D σ H=ta σ H (λvs H1=>∃a,vs=[.ref a]/\(∃xs,aQ K H1 a xs)/\Loop (OF K a) g tb D σ H1):=rfl
theorem Aa (Pv:Nat->St->Hp->Prop)(h0:Pv 0 σ H)(hl:∀i σ H,i<=xs.length->Pv i σ H->aQ K H a xs)
   (hs:∀i x σ H T,xs[i]?=some x->Pv i σ H->L2.new K H T->g (.ref T) σ (upd H T (.tup [.int i,x])) λσ2 H2=>tb { D with nx:=Pv (i + 1),ct:=Pv (i + 1),bk:=D.nx } σ2 H2) (hd:∀σ H,Pv xs.length σ H->D.nx σ H):Loop (OF K a) g tb D σ H:=by
 refine⟨λi m σ H=>m=xs.length - i/\i<=xs.length/\Pv i σ H,⟨xs.length,by simp,gs _,h0⟩,?_⟩;rintro i m σ H ⟨rfl,hi,p⟩;have q:=hl i σ H hi p
 by_cases iI:i < xs.length
 . refine .inr ⟨⟨xs,xs[i],q,by simp[iI]⟩,Pv (i + 1),λσ' H' p'=>⟨xs.length - (i + 1),by omega,rfl,iI,p'⟩,λv H' y=>?_⟩;obtain⟨T,v,nT,hv,rfl,rfl⟩:=y;exact hs i v σ _ T (hv xs q) p nT
 . have e:i=xs.length:=X2
   subst e;exact .inl ⟨⟨xs,q,ag _⟩,hd σ H p⟩
end
def tK (x:V)(k:Int->Prop):Prop:=match x with
 | .int i=>k i
 | _=>False
def A3 (x:V)(k:Bool->Prop):Prop:=match x with
 | .bl i=>k i
 | _=>False
def oZ (x:V)(k:Addr->Prop):Prop:=match x with
 | .ref i=>k i
 | _=>False
theorem XE {k:Int->Prop}:tK (.int i) k=k i:=rfl
theorem XF {i:Bool}{k:Bool->Prop}:A3 (.bl i) k=k i:=rfl
theorem MZ {i:Addr}{k:Addr->Prop}:oZ (.ref i) k=k i:=rfl
theorem tK.ex {k:Int->Prop}(h:tK x k):∃i,x=.int i/\k i:=by
 cases x <;> first | exact⟨_,rfl,h⟩ | exact h.elim
theorem A3.ex {k:Bool->Prop}(h:A3 x k):∃i,x=.bl i/\k i:=by
 cases x <;> first | exact⟨_,rfl,h⟩ | exact h.elim
theorem oZ.ex {k:Addr->Prop}(h:oZ x k):∃i,x=.ref i/\k i:=by
 cases x <;> first | exact⟨_,rfl,h⟩ | exact h.elim
theorem XG {k:Int->Prop}:tK x k=∃i,x=.int i/\k i:=propext ⟨tK.ex,λ⟨_,e,h⟩=>e ▸ h⟩
theorem XH {k:Bool->Prop}:A3 x k=∃i,x=.bl i/\k i:=propext ⟨A3.ex,λ⟨_,e,h⟩=>e ▸ h⟩
theorem XI {k:Addr->Prop}:oZ x k=∃i,x=.ref i/\k i:=propext ⟨oZ.ex,λ⟨_,e,h⟩=>e ▸ h⟩
def UN:Nat->List V->Prop->Prop
 | _,[],P=>P
 | 0,_::_,_=>False
 | n + 1,_::xs,P=>UN n xs P
def i0 (xs:List V)(P:Prop):Prop:=UN 6 xs P
theorem vc:∀(n:Nat) (xs:List V) (P:Prop),UN n xs P->xs.length<=n/\P
 | n,[],P,h=>⟨gs _,by cases n <;> exact h⟩
 | 0,_::_,P,h=>h.elim
 | n + 1,_::xs,P,h=>⟨Nat.succ_le_succ (vc n xs P h).1,(vc n xs P h).2⟩
theorem i0.ex (h:i0 xs P):xs.length<=sizeLine/\P:=⟨cw (vc 6 xs P h).1 Y1,(vc 6 xs P h).2⟩
section
variable {a b c d e f:V}
theorem Rv:i0 [] P=P:=rfl
theorem Rx:i0 [a] P=P:=rfl
theorem Ry:i0 [a,b] P=P:=rfl
theorem Rz:i0 [a,b,c] P=P:=rfl
theorem RA:i0 [a,b,c,d] P=P:=rfl
theorem RB:i0 [a,b,c,d,e] P=P:=rfl
theorem RC:i0 [a,b,c,d,e,f] P=P:=rfl
end
def Eb (xs:List V)(k:V->Prop):Prop:=match xs with
 | [x]=>k x
 | _=>False
theorem XJ {k:V->Prop}:Eb [x] k=k x:=rfl
theorem Eb.ex {k:V->Prop}(h:Eb xs k):∃x,xs=[x]/\k x:=by
 unfold Eb at h;split at h
 . exact⟨_,rfl,h⟩
 . exact h.elim
def RD (xs:List V)(k:V->V->Prop):Prop:=match xs with
 | [x,y]=>k x y
 | _=>False
theorem XM {y:V}{k:V->V->Prop}:RD [x,y] k=k x y:=rfl
theorem RD.ex {k:V->V->Prop}(h:RD xs k):∃x y,xs=[x,y]/\k x y:=by
 unfold RD at h;split at h
 . exact⟨_,_,rfl,h⟩
 . exact h.elim
def VA (xs:List V)(k:V->String->Prop):Prop:=match xs with
 | [x,.ty n]=>k x n
 | _=>False
theorem XN {n:String}{k:V->String->Prop}:VA [x,.ty n] k=k x n:=rfl
theorem VA.ex {k:V->String->Prop}(h:VA xs k):∃x n,xs=[x,.ty n]/\k x n:=by
 unfold VA at h;split at h
 . exact⟨_,_,rfl,h⟩
 . exact h.elim
def vM (i:Nat):TE:=λσ H Q=>match σ[i]? with
 | some (some v)=>Q v H
 | _=>False
theorem vM.ex {i:Nat}(h:vM i σ H Q):El i σ H Q:=by
 unfold vM at h;unfold El;split at h
 . exact⟨_,‹_›,h⟩
 . exact h.elim
def rA (g:Int->Int->V):R2:=λx y H Q=>tK x λi=>tK y λj=>Q (g i j) H
def rC (C:Int->Int->Prop)(g:Int->Int->V):R2:=λx y H Q=>tK x λi=>tK y λj=>C i j/\Q (g i j) H
def XO (t:TE):TT:=λσ H Q=>t σ H λx H1=>A3 x λc=>Q c H1
def M1 (ta tb:TE):TE:=λσ H Q=>ta σ H λx H1=>A3 x λc=>if c=true then tb σ H1 Q else Q (.bl false) H1
def UO (ta tb:TE):TE:=λσ H Q=>ta σ H λx H1=>A3 x λc=>if c=true then Q (.bl true) H1 else tb σ H1 Q
def M3 (ta:TE):TE:=λσ H Q=>ta σ H λx H1=>A3 x λc=>Q (.bl (!c)) H1
def ve (r r':R2)(ta tb tc:TE):TE:=λσ H Q=>ta σ H λx H1=>tb σ H1 λy H2=>r x y H2 λz H3=>A3 z λk=>if k=true then tc σ H3 λw' H4=>r' y w' H4 Q else Q (.bl false) H3
def M4 (K:Frag):R2:=λx y H Q=>oZ x λp=>tK y λi=>∃xs,jd K H p=some xs/\∃v,j3 xs i=some v/\Q v H
def M5 (K:Frag)(ta:TE)(f:Str):TE:=λσ H Q=>ta σ H λx H1=>oZ x λa=>∃C dx fs,H1 a=some (.ins C dx fs)/\uN K C/\bK K C f/\∃v,fs.lookup f=some v/\Q v H1
def M6 (K:Frag)(ta tv:TE)(f:Str):TS:=λD σ H=>tv σ H λy H1=>ta σ H1 λx H2=>oZ x λa=>∃C dx fs,H2 a=some (.ins C dx fs)/\uN K C/\bK K C f/\fs.length < 1000/\D.nx σ (upd H2 a (.ins C dx (bC f y fs)))
def Fy (C:Addr)(m:Str)(sp:Sp)(kM:List V)(E:XK)(ta:TE)(t:TA):TE:=λσ H Q=>ta σ H λx H1=>oZ x λa=>∃dx fs,H1 a=some (.ins C dx fs)/\fs.lookup m=none/\t σ H1 λvs H2=>sp (x::(vs++kM)) H2 Q E
def Fz (td ty:TE):TE:=λσ H Q=>td σ H λx H1=>ty σ H1 λy H2=>oZ x λa=>∃v,sU H2 a y (some v)/\Q v H2
def pS (K:Frag)(n:Nat)(t:BY):TG:=λv σ H Q=>oZ v λa=>∃xs,tupQ K H a=some xs/\xs.length=n/\t xs σ H Q
def Hu (K:Frag)(t:TA):TE:=λσ H Q=>t σ H λxs H1=>i0 xs (∀p,L2.new K H1 p->Q (.ref p) (upd H1 p (.tup xs)))
def Hv (K:Frag)(t:TA):TE:=λσ H Q=>t σ H λxs H1=>i0 xs (∀p,L2.new K H1 p->Q (.ref p) (upd H1 p (.lst xs)))
def Ab (t:TE):TE:=λσ H Q=>∃Q0,t σ H Q0/\∀v H',Q0 v H'->Q v H'
def VB (t:TA):TA:=λσ H Q=>∃Q0,t σ H Q0/\∀v H',Q0 v H'->Q v H'
def XQ (r:R2):R2:=λx y H Q=>∃Q0,r x y H Q0/\∀v H',Q0 v H'->Q v H'
section
variable {K:Frag}{st:Stmt}{ta tb tc t:TE}{u:TA}{r r':R2}{f:Str}
theorem JE.imp {t t':TE}(h:JE X e t)(k:∀σ H Q,t' σ H Q->t σ H Q):JE X e t':=⟨λpins s σ H Q I q=>h.h pins s σ H Q I (k _ _ _ q)⟩
theorem JT.imp {t t':TT}(h:JT X e t)(k:∀σ H Q,t' σ H Q->t σ H Q):JT X e t':=⟨λpins s σ H Q I q=>h.h pins s σ H Q I (k _ _ _ q)⟩
theorem jm (h:JE X e t):JE X e (Ab t):=⟨λpins s σ H _ I ⟨Q0,q,k⟩=>bH (h.h pins s σ H Q0 I q) λ_ _ ⟨v,H',i,rr,q⟩=>⟨v,H',i,rr,k _ _ q⟩⟩
theorem am (h:JA X es u):JA X es (VB u):=⟨λpos pins s σ H _ I ⟨Q0,q,k⟩=>bH (h.h pos pins s σ H Q0 I q) λ_ _ ⟨v,H',i,rr,q⟩=>⟨v,H',i,rr,k _ _ q⟩⟩
theorem om {op}(h:i8 X op r):i8 X op (XQ r):=λpins s σ H x y v u _ I r1 r2 ⟨Q0,q,k⟩=>bH (h pins s σ H x y v u Q0 I r1 r2 q) λ_ _ ⟨v,H',i,rr,q⟩=>⟨v,H',i,rr,k _ _ q⟩
theorem mA {op}(h:i8 X op (Ls g)):i8 X op (rA g):=λpins s σ H x y v u Q I r1 r2 q=>h pins s σ H x y v u Q I r1 r2 (let ⟨i,e,q⟩:=tK.ex q;let ⟨j,e',q⟩:=tK.ex q;⟨i,j,e,e',q⟩)
theorem mC {op}{C:Int->Int->Prop}(h:i8 X op (rI C g)):i8 X op (rC C g):=λpins s σ H x y v u Q I r1 r2 q=>h pins s σ H x y v u Q I r1 r2 (let ⟨i,e,q⟩:=tK.ex q;let ⟨j,e',q⟩:=tK.ex q;⟨i,j,e,e',q⟩)
theorem uv (hk:Q4 X (Mm K)):Q4 X (M4 K):=λa b pins s σ H x y v u Q I r1 r2 q=>hk a b pins s σ H x y v u Q I r1 r2 (let ⟨i,e,q⟩:=oZ.ex q;let ⟨j,e',xs,h1,v,h2,q⟩:=tK.ex q;⟨i,j,xs,v,e,e',h1,h2,q⟩)
def Hw (K:Frag)(xs:List V)(H:Hp)(Q:VK):Prop:=Eb xs λx=>oZ x λp=>∃ys,jd K H p=some ys/\Q (.int ys.length) H
def Qc (K:Frag)(xs:List V)(H:Hp)(Q:VK):Prop:=VA xs λx n=>∃t,W7 K H x t/\∃b,kitOne K t (.type n)=some b/\Q (.bl b) H
theorem XR (hk:dQ X (.builtin "len") (λxs H Q=>∃p ys,xs=[.ref p]/\jd K H p=some ys/\Q (.int ys.length) H)):dQ X (.builtin "len") (Hw K):=λpins s σ H xs us Q I r q=>hk pins s σ H xs us Q I r (let ⟨x,e,q⟩:=Eb.ex q;let ⟨p,e',ys,h,q⟩:=oZ.ex q;⟨p,ys,by rw[e,e'],h,q⟩)
theorem isM (hk:dQ X (.builtin "isinstance") (λxs H Q=>∃x n t b,xs=[x,.ty n]/\W7 K H x t/\kitOne K t (.type n)=some b/\Q (.bl b) H)):dQ X (.builtin "isinstance") (Qc K):=λpins s σ H xs us Q I r q=>hk pins s σ H xs us Q I r (let ⟨x,n,e,t,h,b,h',q⟩:=VA.ex q;⟨x,n,t,b,e,h,h',q⟩)
theorem evM {i:Nat}(h:JE X e (El i)):JE X e (vM i):=h.imp λ_ _ _=>vM.ex
theorem Ec (h:JT X e (tB (Ab t))):JT X e (XO t):=h.imp λ_ _ _ q=>⟨_,q,λ_ _ q=>A3.ex q⟩
theorem cM (h:JT X e (uh (Gr (XQ r) (Ab ta) (Ab tb)))):JT X e (XO (Gr r ta tb)):=h.imp λ_ _ _ q=>⟨_,q,λ_ _ q=>⟨_,q,λ_ _ q=>⟨_,q,λ_ _ q=>A3.ex q⟩⟩⟩
theorem FD (h:JE X e (Cc (Ab ta) tb)):JE X e (M1 ta tb):=h.imp λ_ _ _ q=>⟨_,q,λ_ _ q=>A3.ex q⟩
theorem orM (h:JE X e (Li (Ab ta) tb)):JE X e (UO ta tb):=h.imp λ_ _ _ q=>⟨_,q,λ_ _ q=>A3.ex q⟩
theorem noM (h:JE X e (Cd (Ab ta))):JE X e (M3 ta):=h.imp λ_ _ _ q=>⟨_,q,λ_ _ q=>A3.ex q⟩
theorem UP (h:JE X e (mW (XQ r) r' (Ab ta) (Ab tb) tc)):JE X e (ve r r' ta tb tc):=h.imp λ_ _ _ q=>⟨_,q,λ_ _ q=>⟨_,q,λ_ _ q=>⟨_,q,λ_ _ q=>A3.ex q⟩⟩⟩
theorem UQ (h:JT X e (uh (mW (XQ r) (XQ r') (Ab ta) (Ab tb) (Ab tc)))):JT X e (XO (ve r r' ta tb tc)):=h.imp λ_ _ _ q=>⟨_,q,λ_ _ q=>⟨_,q,λ_ _ q=>⟨_,q,λ_ _ q=>by
 obtain⟨k,e,q⟩:=A3.ex q;refine⟨k,e,?_⟩;split at q
 . rw[Hk ‹_›];exact⟨_,q,λ_ _ q=>⟨_,q,λ_ _ q=>A3.ex q⟩⟩
 . rw[He ‹_›];exact A3.ex q⟩⟩⟩
theorem j7 (h:JE X e (Jo K (Ab ta) f)):JE X e (M5 K ta f):=h.imp λ_ _ _ q=>⟨_,q,λ_ _ q=>let ⟨a,e,C,dx,fs,h1,h2,h3,v,h4,q⟩:=oZ.ex q;⟨a,C,dx,fs,v,e,h1,h2,h3,h4,q⟩⟩
theorem uR {tv:TE}(h:JS X st (LC K (Ab ta) (Ab tv) f)):JS X st (M6 K ta tv f):=⟨λpins s σ H D I q=>h.h pins s σ H D I ⟨_,q,λ_ _ q=>⟨_,q,λ_ _ q=>let ⟨a,e,C,dx,fs,h1,h2,h3,h4,q⟩:=oZ.ex q;⟨a,C,dx,fs,e,h1,h2,h3,h4,q⟩⟩⟩⟩
theorem UR {kM:List V}{E:XK}(h:JE X e (vF C m sp kM E (Ab ta) u)):JE X e (Fy C m sp kM E ta u):=h.imp λ_ _ _ q=>⟨_,q,λ_ _ q=>let ⟨a,e,dx,fs,h1,h2,q⟩:=oZ.ex q;⟨a,dx,fs,e,h1,h2,q⟩⟩
theorem B0 (h:JE X e (Cp (Ab ta) (Ab tb))):JE X e (Fz ta tb):=h.imp λ_ _ _ q=>⟨_,q,λ_ _ q=>⟨_,q,λ_ _ q=>let ⟨a,e,v,h,q⟩:=oZ.ex q;⟨a,v,e,h,q⟩⟩⟩
theorem JG.imp {t t':TG}(h:JG X e t)(k:∀v σ H Q,t' v σ H Q->t v σ H Q):JG X e t':=⟨λpins s σ H v u Q I r q=>h.h pins s σ H v u Q I r (k _ _ _ _ q)⟩
theorem JI.imp {t t':TI}(h:JI X tg e t)(k:∀σ H Q,t' σ H Q->t σ H Q):JI X tg e t':=⟨λpins s σ H R I q=>h.h pins s σ H R I (k _ _ _ q)⟩
theorem kX {t:BY}(h:JG X e (Cy K n t)):JG X e (pS K n t):=h.imp λ_ _ _ _ q=>let ⟨a,e,xs,h1,h2,q⟩:=oZ.ex q;⟨a,xs,e,h1,h2,q⟩
def M7 (K:Frag)(xs:List V)(H:Hp)(Q:VK):Prop:=Eb xs λx=>oZ x λp=>∃bs:List Bool,aQ K H p (bs.map V.bl)/\Q (.bl (bs.all id)) H
theorem Ko (hk:dQ X (.builtin "all") (λxs H Q=>∃(p:Addr) (bs:List Bool),xs=[.ref p]/\aQ K H p (bs.map V.bl)/\Q (.bl (bs.all id)) H)):dQ X (.builtin "all") (M7 K):=λpins s σ H xs us Q I r q=>hk pins s σ H xs us Q I r (let ⟨x,e,q⟩:=Eb.ex q;let ⟨p,e',ys,h,q⟩:=oZ.ex q;⟨p,ys,by rw[e,e'],h,q⟩)
def tM (K:Frag)(tl:TE):TI:=λσ H R=>tl σ H λx H1=>oZ x λa=>(∃xs,aQ K H1 a xs)/\R (ug K a) H1
def FE (ta:TA):TI:=λσ H R=>ta σ H λvs H1=>Eb vs λx=>tK x λj=>-(2 ^ 62)<=j/\j < 2 ^ 62/\R (AD 0 j.toNat) H1
def FF (ta:TA):TI:=λσ H R=>ta σ H λvs H1=>RD vs λx y=>tK x λi=>tK y λj=>(-(2 ^ 62)<=i/\i < 2 ^ 62/\-(2 ^ 62)<=j/\j < 2 ^ 62)/\R (AD i (j - i).toNat) H1
def FG (K:Frag)(tl:TA):TI:=λσ H R=>tl σ H λvs H1=>Eb vs λx=>oZ x λa=>(∃xs,aQ K H1 a xs)/\R (OF K a) H1
theorem kO (h:JI X tg e (qQ K (Ab ta))):JI X tg e (tM K ta):=h.imp λ_ _ _ q=>⟨_,q,λ_ _ q=>oZ.ex q⟩
theorem RE (h:JI X tg e (Cf (VB u))):JI X tg e (FE u):=h.imp λ_ _ _ q=>⟨_,q,λ_ _ q=>let ⟨x,e,q⟩:=Eb.ex q;let ⟨j,e',q⟩:=tK.ex q;⟨j,by rw[e,e'],q⟩⟩
theorem r2M (h:JI X tg e (Cg (VB u))):JI X tg e (FF u):=h.imp λ_ _ _ q=>⟨_,q,λ_ _ q=>let ⟨x,y,e,q⟩:=RD.ex q;let ⟨i,e1,q⟩:=tK.ex q;let ⟨j,e2,q⟩:=tK.ex q;⟨i,j,by rw[e,e1,e2],q⟩⟩
theorem ieM (h:JI X tg e (Hg K (VB u))):JI X tg e (FG K u):=h.imp λ_ _ _ q=>⟨_,q,λ_ _ q=>let ⟨x,e,q⟩:=Eb.ex q;let ⟨j,e',q⟩:=oZ.ex q;⟨j,by rw[e,e'],q⟩⟩
theorem RG (h:JE X e (Cv K (VB u))):JE X e (Hu K u):=h.imp λ_ _ _ q=>⟨_,q,λ_ _ q=>i0.ex q⟩
theorem lsM (h:JE X e (Cw K (VB u))):JE X e (Hv K u):=h.imp λ_ _ _ q=>⟨_,q,λ_ _ q=>i0.ex q⟩
end
section
variable {v:V}{r:St}
theorem RH:vM 0 (some v::r) H Q=Q v H:=rfl
theorem RI :vM 1 (x0::some v::r) H Q=Q v H:=rfl
theorem RJ :vM 2 (x0::x1::some v::r) H Q=Q v H:=rfl
theorem RK {x2:Option V}:vM 3 (x0::x1::x2::some v::r) H Q=Q v H:=rfl
theorem RL {x2 x3:Option V}:vM 4 (x0::x1::x2::x3::some v::r) H Q=Q v H:=rfl
theorem RM {x2 x3:Option V}:vM 5 (x0::x1::x2::x3::x4::some v::r) H Q=Q v H:=rfl
theorem RO {x2 x3:Option V}:vM 6 (x0::x1::x2::x3::x4::x5::some v::r) H Q=Q v H:=rfl
theorem RP {x2 x3:Option V}:vM 7 (x0::x1::x2::x3::x4::x5::x6::some v::r) H Q=Q v H:=rfl
theorem RQ {x2 x3:Option V}:vM 8 (x0::x1::x2::x3::x4::x5::x6::x7::some v::r) H Q=Q v H:=rfl
theorem RS {x2 x3:Option V}:vM 9 (x0::x1::x2::x3::x4::x5::x6::x7::x8::some v::r) H Q=Q v H:=rfl
theorem M8 {x2 x3:Option V}:vM 10 (x0::x1::x2::x3::x4::x5::x6::x7::x8::x9::some v::r) H Q=Q v H:=rfl
theorem M9 {x2 x3:Option V}:vM 11 (x0::x1::x2::x3::x4::x5::x6::x7::x8::x9::jR::some v::r) H Q=Q v H:=rfl
theorem Na {x2 x3:Option V}:vM 12 (x0::x1::x2::x3::x4::x5::x6::x7::x8::x9::jR::mq::some v::r) H Q=Q v H:=rfl
theorem Nb {x2 x3:Option V}:vM 13 (x0::x1::x2::x3::x4::x5::x6::x7::x8::x9::jR::mq::jS::some v::r) H Q=Q v H:=rfl
theorem Nc {x2 x3:Option V}:vM 14 (x0::x1::x2::x3::x4::x5::x6::x7::x8::x9::jR::mq::jS::ny::some v::r) H Q=Q v H:=rfl
theorem Nd {x2 x3:Option V}:vM 15 (x0::x1::x2::x3::x4::x5::x6::x7::x8::x9::jR::mq::jS::ny::qL::some v::r) H Q=Q v H:=rfl
theorem Nf {x2 x3:Option V}:vM 16 (x0::x1::x2::x3::x4::x5::x6::x7::x8::x9::jR::mq::jS::ny::qL::sI::some v::r) H Q=Q v H:=rfl
theorem Ng {x2 x3:Option V}:vM 17 (x0::x1::x2::x3::x4::x5::x6::x7::x8::x9::jR::mq::jS::ny::qL::sI::vf::some v::r) H Q=Q v H:=rfl
theorem Nh {x2 x3:Option V}:vM 18 (x0::x1::x2::x3::x4::x5::x6::x7::x8::x9::jR::mq::jS::ny::qL::sI::vf::FH::some v::r) H Q=Q v H:=rfl
theorem Ni {x2 x3:Option V}:vM 19 (x0::x1::x2::x3::x4::x5::x6::x7::x8::x9::jR::mq::jS::ny::qL::sI::vf::FH::Kq::some v::r) H Q=Q v H:=rfl
theorem Nj {x2 x3:Option V}:vM 20 (x0::x1::x2::x3::x4::x5::x6::x7::x8::x9::jR::mq::jS::ny::qL::sI::vf::FH::Kq::Nk::some v::r) H Q=Q v H:=rfl
theorem Nl {x2 x3:Option V}:vM 21 (x0::x1::x2::x3::x4::x5::x6::x7::x8::x9::jR::mq::jS::ny::qL::sI::vf::FH::Kq::Nk::Qd::some v::r) H Q=Q v H:=rfl
theorem Nm {x2 x3:Option V}:vM 22 (x0::x1::x2::x3::x4::x5::x6::x7::x8::x9::jR::mq::jS::ny::qL::sI::vf::FH::Kq::Nk::Qd::US::some v::r) H Q=Q v H:=rfl
theorem Nn {x2 x3 XS:Option V}:vM 23 (x0::x1::x2::x3::x4::x5::x6::x7::x8::x9::jR::mq::jS::ny::qL::sI::vf::FH::Kq::Nk::Qd::US::XS::some v::r) H Q=Q v H:=rfl
theorem Np {x2 x3 XS x23:Option V}:vM 24 (x0::x1::x2::x3::x4::x5::x6::x7::x8::x9::jR::mq::jS::ny::qL::sI::vf::FH::Kq::Nk::Qd::US::XS::x23::some v::r) H Q=Q v H:=rfl
theorem Nq {x2 x3 XS x23 x24:Option V}:vM 25 (x0::x1::x2::x3::x4::x5::x6::x7::x8::x9::jR::mq::jS::ny::qL::sI::vf::FH::Kq::Nk::Qd::US::XS::x23::x24::some v::r) H Q=Q v H:=rfl
end
section
variable {v:V}{r:St}{Q:St->Hp->Prop}
theorem XU :bI 0 v (x0::r) H Q=Q (some v::r) H:=rfl
theorem XW :bI 1 v (x0::x1::r) H Q=Q (x0::some v::r) H:=rfl
theorem XX {x2:Option V}:bI 2 v (x0::x1::x2::r) H Q=Q (x0::x1::some v::r) H:=rfl
theorem XY {x2 x3:Option V}:bI 3 v (x0::x1::x2::x3::r) H Q=Q (x0::x1::x2::some v::r) H:=rfl
theorem XZ {x2 x3:Option V}:bI 4 v (x0::x1::x2::x3::x4::r) H Q=Q (x0::x1::x2::x3::some v::r) H:=rfl
theorem X0 {x2 x3:Option V}:bI 5 v (x0::x1::x2::x3::x4::x5::r) H Q=Q (x0::x1::x2::x3::x4::some v::r) H:=rfl
theorem X3 {x2 x3:Option V}:bI 6 v (x0::x1::x2::x3::x4::x5::x6::r) H Q=Q (x0::x1::x2::x3::x4::x5::some v::r) H:=rfl
theorem X4 {x2 x3:Option V}:bI 7 v (x0::x1::x2::x3::x4::x5::x6::x7::r) H Q=Q (x0::x1::x2::x3::x4::x5::x6::some v::r) H:=rfl
theorem X5 {x2 x3:Option V}:bI 8 v (x0::x1::x2::x3::x4::x5::x6::x7::x8::r) H Q=Q (x0::x1::x2::x3::x4::x5::x6::x7::some v::r) H:=rfl
theorem X6 {x2 x3:Option V}:bI 9 v (x0::x1::x2::x3::x4::x5::x6::x7::x8::x9::r) H Q=Q (x0::x1::x2::x3::x4::x5::x6::x7::x8::some v::r) H:=rfl
theorem RT {x2 x3:Option V}:bI 10 v (x0::x1::x2::x3::x4::x5::x6::x7::x8::x9::jR::r) H Q=Q (x0::x1::x2::x3::x4::x5::x6::x7::x8::x9::some v::r) H:=rfl
theorem RU {x2 x3:Option V}:bI 11 v (x0::x1::x2::x3::x4::x5::x6::x7::x8::x9::jR::mq::r) H Q=Q (x0::x1::x2::x3::x4::x5::x6::x7::x8::x9::jR::some v::r) H:=rfl
theorem RV {x2 x3:Option V}:bI 12 v (x0::x1::x2::x3::x4::x5::x6::x7::x8::x9::jR::mq::jS::r) H Q=Q (x0::x1::x2::x3::x4::x5::x6::x7::x8::x9::jR::mq::some v::r) H:=rfl
theorem RW {x2 x3:Option V}:bI 13 v (x0::x1::x2::x3::x4::x5::x6::x7::x8::x9::jR::mq::jS::ny::r) H Q=Q (x0::x1::x2::x3::x4::x5::x6::x7::x8::x9::jR::mq::jS::some v::r) H:=rfl
theorem RX {x2 x3:Option V}:bI 14 v (x0::x1::x2::x3::x4::x5::x6::x7::x8::x9::jR::mq::jS::ny::qL::r) H Q=Q (x0::x1::x2::x3::x4::x5::x6::x7::x8::x9::jR::mq::jS::ny::some v::r) H:=rfl
end
section
variable {a b:Prop}
theorem RY:(if true=true then a else b)=a:=rfl
theorem RZ:(if false=true then a else b)=b:=rfl
end
theorem X7 {a:α}:(a=a/\P)=P:=propext ⟨(·.2),λh=>⟨rfl,h⟩⟩
section
variable {a:α}{X:Option α}{P:α->Prop}
theorem Qe (h:X=some a):(∃x,X=some x/\P x)=P a:=propext ⟨λ⟨_,e,q⟩=>Option.some.inj (h.symm.trans e) ▸ q,λq=>⟨a,h,q⟩⟩
theorem exS:(∃x,some a=some x/\P x)=P a:=Qe rfl
end
section
variable {K:Frag}{A:PySem.Addr}{P:List V->Prop}{l:List V}
theorem eqT (h:tupQ K H A=some l):(∃x,jd K H A=some x/\P x)=P l:=Qe (aZ h)
theorem OG (h:H A=some (.lst l)):(∃x,jd K H A=some x/\P x)=P l:=Qe (aJ h)
theorem exT:(∃x,jd K (upd H A (.tup l)) A=some x/\P x)=P l:=Qe sY
theorem exU:(∃x,jd K (upd H A (.lst l)) A=some x/\P x)=P l:=Qe sX
theorem exV:(∃x,upd H A (.lst l) A=some (.lst x)/\P x)=P l:=by
 rw[af];exact propext ⟨λ⟨_,e,q⟩=>HO.lst.inj (Option.some.inj e) ▸ q,λq=>⟨_,rfl,q⟩⟩
end
section
variable {a b c d:V}{r:List V}{P:V->Prop}
theorem ex0:(∃x,j3 (a::r) 0=some x/\P x)=P a:=Qe LX
theorem ex1:(∃x,j3 (a::b::r) 1=some x/\P x)=P b:=Qe LY
theorem ex2:(∃x,j3 (a::b::c::r) 2=some x/\P x)=P c:=Qe L4
theorem ex3:(∃x,j3 (a::b::c::d::r) 3=some x/\P x)=P d:=Qe L5
end
theorem exI {n:Int}{P:Int->Prop}:(∃i,V.int n=V.int i/\P i)=P n:=propext ⟨λ⟨_,e,q⟩=>V.int.inj e ▸ q,λq=>⟨n,rfl,q⟩⟩
theorem exR {n:PySem.Addr}{P:PySem.Addr->Prop}:(∃i,V.ref n=V.ref i/\P i)=P n:=propext ⟨λ⟨_,e,q⟩=>V.ref.inj e ▸ q,λq=>⟨n,rfl,q⟩⟩
theorem exC {l:List V}{P:V->List V->Prop}:(∃a b,x::l=a::b/\P a b)=P x l:=propext ⟨λ⟨_,_,e,q⟩=>by cases e;exact q,λq=>⟨_,_,rfl,q⟩⟩
theorem X8 {y:V}{P:V->V->Prop}:(∃a b,[x,y]=[a,b]/\P a b)=P x y:=propext ⟨λ⟨_,_,e,q⟩=>by cases e;exact q,λq=>⟨_,_,rfl,q⟩⟩
section
variable {K:Frag}{tl:TE}{g g1:TG}{tt GV:TT}{A:Addr}{acc:List V}{N:List V->St->Hp->Prop}{GU:TI}
theorem Ac:pD (tM K tl) g tb D σ H=tl σ H (λx H1=>oZ x λa=>(∃xs,aQ K H1 a xs)/\Loop (ug K a) g tb D σ H1):=rfl
theorem Hx:pD (FE ta) g tb D σ H=ta σ H (λvs H1=>Eb vs λx=>tK x λj=>-(2 ^ 62)<=j/\j < 2 ^ 62/\Loop (AD 0 j.toNat) g tb D σ H1):=rfl
theorem Hy:pD (FF ta) g tb D σ H=ta σ H (λvs H1=>RD vs λx y=>tK x λi=>tK y λj=>(-(2 ^ 62)<=i/\i < 2 ^ 62/\-(2 ^ 62)<=j/\j < 2 ^ 62)/\Loop (AD i (j - i).toNat) g tb D σ H1):=rfl
theorem Hz:pD (FG K ta) g tb D σ H=ta σ H (λvs H1=>Eb vs λx=>oZ x λa=>(∃xs,aQ K H1 a xs)/\Loop (OF K a) g tb D σ H1):=rfl
theorem C8:JJ K (tM K tl) src g tt te σ H Q=tl σ H (λx H1=>oZ x λa=>(∃xs,aQ K H1 a xs)/\∀D,L2.new K H1 D->b7 (ug K a) g tt te D (λH'=>Q (.ref D) H') (pick σ src) (upd H1 D (.lst []))):=rfl
theorem Nr:JJ K (FE ta) src g tt te σ H Q=ta σ H (λvs H1=>Eb vs λx=>tK x λj=>-(2 ^ 62)<=j/\j < 2 ^ 62/\∀D,L2.new K H1 D->b7 (AD 0 j.toNat) g tt te D (λH'=>Q (.ref D) H') (pick σ src) (upd H1 D (.lst []))):=rfl
theorem Nu:JJ K (FF ta) src g tt te σ H Q=ta σ H (λvs H1=>RD vs λx y=>tK x λi=>tK y λj=>(-(2 ^ 62)<=i/\i < 2 ^ 62/\-(2 ^ 62)<=j/\j < 2 ^ 62)/\∀D,L2.new K H1 D->b7 (AD i (j - i).toNat) g tt te D (λH'=>Q (.ref D) H') (pick σ src) (upd H1 D (.lst []))):=rfl
theorem Nv:JJ K (FG K ta) src g tt te σ H Q=ta σ H (λvs H1=>Eb vs λx=>oZ x λa=>(∃xs,aQ K H1 a xs)/\∀D,L2.new K H1 D->b7 (OF K a) g tt te D (λH'=>Q (.ref D) H') (pick σ src) (upd H1 D (.lst []))):=rfl
theorem Ad:PN K (tM K tl) src g tt GU g1 GV te σ H Q=tl σ H (λx H1=>oZ x λa=>(∃xs,aQ K H1 a xs)/\∀D,L2.new K H1 D->fR (ug K a) g tt (ur GU g1 GV te D) [] (λ_ _ H'=>Q (.ref D) H') (pick σ src) (upd H1 D (.lst []))):=rfl
theorem Ae:ur (tM K tl) g tt te A acc σ H N=tl σ H (λx H1=>oZ x λa=>(∃xs,aQ K H1 a xs)/\fR (ug K a) g tt (zL te A) acc N σ H1):=rfl
end
theorem R1 {β:Type}{f:α->β}{a:α}{l:List α}:List.map f (a::l)=f a::List.map f l:=rfl
theorem R3 {β:Type}{f:α->β}:List.map f []=[]:=rfl
theorem Yb {a:α}{l r:List α}:(a::l)++r=a::(l++r):=rfl
theorem Yc {r:List α}:[]++r=r:=rfl
inductive Yd {α0:Sort _}(p:α0->Prop):Prop
 | mk (x0:α0) (h:p x0):Yd p
inductive FI {α0 α1:Sort _}(p:α0->α1->Prop):Prop
 | mk (x0:α0) (x1:α1) (h:p x0 x1):FI p
inductive ZD {α0 α1 α2:Sort _}(p:α0->α1->α2->Prop):Prop
 | mk (x0:α0) (x1:α1) (x2:α2) (h:p x0 x1 x2):ZD p
inductive ZF {α0 α1 α2 α3:Sort _}(p:α0->α1->α2->α3->Prop):Prop
 | mk (x0:α0) (x1:α1) (x2:α2) (x3:α3) (h:p x0 x1 x2 x3):ZF p
inductive Ex5 {α0 α1 α2 α3 α4:Sort _}(p:α0->α1->α2->α3->α4->Prop):Prop
 | mk (x0:α0) (x1:α1) (x2:α2) (x3:α3) (x4:α4) (h:p x0 x1 x2 x3 x4):Ex5 p
inductive Ex6 {α0 α1 α2 α3 α4 α5:Sort _}(p:α0->α1->α2->α3->α4->α5->Prop):Prop
 | mk (x0:α0) (x1:α1) (x2:α2) (x3:α3) (x4:α4) (x5:α5) (h:p x0 x1 x2 x3 x4 x5):Ex6 p
inductive ZG {α0 α1 α2 α3 α4 α5 α6:Sort _}(p:α0->α1->α2->α3->α4->α5->α6->Prop):Prop
 | mk (x0:α0) (x1:α1) (x2:α2) (x3:α3) (x4:α4) (x5:α5) (x6:α6) (h:p x0 x1 x2 x3 x4 x5 x6):ZG p
inductive Ex8 {α0 α1 α2 α3 α4 α5 α6 α7:Sort _}(p:α0->α1->α2->α3->α4->α5->α6->α7->Prop):Prop
 | mk (x0:α0) (x1:α1) (x2:α2) (x3:α3) (x4:α4) (x5:α5) (x6:α6) (x7:α7) (h:p x0 x1 x2 x3 x4 x5 x6 x7):Ex8 p
inductive OH (p0 p1:Prop):Prop
 | mk (_:p0) (_:p1):OH p0 p1
inductive Al3 (p0 p1 p2:Prop):Prop
 | mk (_:p0) (_:p1) (_:p2):Al3 p0 p1 p2
inductive Al4 (p0 p1 p2 p3:Prop):Prop
 | mk (_:p0) (_:p1) (_:p2) (_:p3):Al4 p0 p1 p2 p3
inductive VC (p0 p1 p2 p3 p4:Prop):Prop
 | mk (_:p0) (_:p1) (_:p2) (_:p3) (_:p4):VC p0 p1 p2 p3 p4
inductive Ye (p0 p1 p2 p3 p4 p5:Prop):Prop
 | mk (_:p0) (_:p1) (_:p2) (_:p3) (_:p4) (_:p5):Ye p0 p1 p2 p3 p4 p5
inductive Al7 (p0 p1 p2 p3 p4 p5 p6:Prop):Prop
 | mk (_:p0) (_:p1) (_:p2) (_:p3) (_:p4) (_:p5) (_:p6):Al7 p0 p1 p2 p3 p4 p5 p6
inductive ZH (p0 p1 p2 p3 p4 p5 p6 p7:Prop):Prop
 | mk (_:p0) (_:p1) (_:p2) (_:p3) (_:p4) (_:p5) (_:p6) (_:p7):ZH p0 p1 p2 p3 p4 p5 p6 p7
inductive Al9 (p0 p1 p2 p3 p4 p5 p6 p7 p8:Prop):Prop
 | mk (_:p0) (_:p1) (_:p2) (_:p3) (_:p4) (_:p5) (_:p6) (_:p7) (_:p8):Al9 p0 p1 p2 p3 p4 p5 p6 p7 p8
inductive UT (p0 p1 p2 p3 p4 p5 p6 p7 p8 p9:Prop):Prop
 | mk (_:p0) (_:p1) (_:p2) (_:p3) (_:p4) (_:p5) (_:p6) (_:p7) (_:p8) (_:p9):UT p0 p1 p2 p3 p4 p5 p6 p7 p8 p9
inductive Yg (p0 p1 p2 p3 p4 p5 p6 p7 p8 p9 p10:Prop):Prop
 | mk (_:p0) (_:p1) (_:p2) (_:p3) (_:p4) (_:p5) (_:p6) (_:p7) (_:p8) (_:p9) (_:p10):Yg p0 p1 p2 p3 p4 p5 p6 p7 p8 p9 p10
def rH (a b:St):Prop:=a=b
def fC:Stmt->List Stmt
 | .For _ _ b _ _=>b
 | _=>[]
def A4:Stmt->List Stmt
 | .If _ b _ _=>b
 | _=>[]
def st:List Str->List V->St
 | [],vs=>vs.map some
 | _::N,[]=>none::st N []
 | _::N,v::vs=>some v::st N vs
theorem abi:st [] []=[]:=rfl
theorem abj {x:Str}:st (x::N) []=none::st N []:=rfl
theorem abk {x:Str}{v:V}{vs:List V}:st (x::N) (v::vs)=some v::st N vs:=rfl
theorem rJ:∀(N:List Str) (vs:List V),start N vs=st N vs
 | [],vs=>by simp[start,st]
 | x::N,[]=>by
   have:=rJ N [];simp only[start,List.map_nil,List.nil_append,List.length_nil,Nat.sub_zero]at this ⊢;rw[List.length_cons,List.replicate_succ,this];rfl
 | x::N,v::vs=>by
   have:=rJ N vs;simp only[start,List.map_cons,List.cons_append,List.length_cons,Nat.add_sub_add_right]at this ⊢;rw[this];rfl
section
variable {P:Program}{K:Frag}{x qual:Str}{k:Nat}
theorem bT.okS (F:bT K x qual s0 f fd)(S:eU N ps (aN s0))(len:∀vs H Q E,sp vs H Q E->vs.length=ps.length)
   (ja:∀(eW:Value) (A:Around) (outer:List Env) (s:Shared) (H:Hp) (vs:List V) (Q:VK) (E:XK),dJ k (A.deeper (envOfC qual (aN s0) s.heap.objs.size f eW))->sp vs H Q E->
     ∃t,JB (qT pH P w K mg base N qual (aN s0) f eW A outer s H E).OB (aj s0) t/\t { nx:=λ_ H'=>Q .bS H',rt:=Q } (st N vs) H):dR P w K mg base pH (k + 1) f fd ps sp:=
 F.okJ S len λeW A outer s H vs Q E hr h=>rJ N vs ▸ ja eW A outer s H vs Q E hr h
theorem bT.okT (F:bT K x qual s0 f fd)(S:eU N ps (aN s0))(len:∀vs H Q E,sp vs H Q E->vs.length=ps.length)
   (ja:∀(eW:Value) (A:Around) (outer:List Env) (s:Shared) (H:Hp) (vs:List V) (Q:VK) (E:XK),dJ k (A.deeper (envOfC qual (aN s0) s.heap.objs.size f eW))->iX K H->sp vs H Q E->
     ∃t,JB (qT pH P w K mg base N qual (aN s0) f eW A outer s H E).OB (aj s0) t/\t { nx:=λ_ H'=>Q .bS H',rt:=Q } (st N vs) H):dR P w K mg base pH (k + 1) f fd ps sp:=
 F.okM S len λeW A outer s H vs Q E hr hm h=>rJ N vs ▸ ja eW A outer s H vs Q E hr hm h
end
section
variable {j:Int}{a b:Bool}{s t:Str}
theorem HA:pF (.int i) (.int j)=true:=rfl
theorem HB:pF (.str s) (.str t)=true:=rfl
theorem HD:pF (.bl a) (.bl b)=true:=rfl
theorem HE:pF .bS .bS=true:=rfl
theorem HF:pF (.int i) .bS=true:=rfl
theorem HG:pF .bS (.int i)=true:=rfl
theorem HH:pF (.str s) .bS=true:=rfl
theorem HJ:pF .bS (.str s)=true:=rfl
theorem HK:pF (.bl a) .bS=true:=rfl
theorem HL:pF .bS (.bl a)=true:=rfl
theorem HM:pF (.int i) (.str s)=true:=rfl
theorem HN:pF (.str s) (.int i)=true:=rfl
theorem HP:pF (.bl a) (.str s)=true:=rfl
theorem HQ:pF (.str s) (.bl a)=true:=rfl
end
theorem R4 {K:Frag}{l l':Expr}{t:TA}{k:Nat}{p tp:Pos}(hg:Gl X "zip")(hm:X.mg "zip"=none)(ha:JA X [l,l'] t)(hs:starEach [l,l'] X.env=(false,eval l X.env)::starEach [l'] X.env:=by rfl)(Lq:(backTo pos (starEach [l'] X.env)).any (·.1)=false:=by rfl)(hk:X.K=K:=by rfl):
   JI X (.Tuple es k tp) (.Call (.Name "zip" p) [l,l'] [] pos) (P0 K t):=hk ▸ aaT hg hm ha hs Lq
theorem HR {K:Frag}{g:TG}{tt:TT}:JJ K (P0 K ta) src g tt te σ H Q=ta σ H (λvs H1=>∃a b,vs=[.ref a,.ref b]/\(∃xs,aQ K H1 a xs)/\(∃ys,aQ K H1 b ys)/\∀D,L2.new K H1 D->b7 (Uw K a b) g tt te D (λH'=>Q (.ref D) H') (pick σ src) (upd H1 D (.lst []))):=rfl
theorem R5 {a b c:α}:gk 2 1 [a,b] [c]=[a,b,c]:=rfl
structure HS (P:Program)(w:World)(K:Frag)(mg:Str->Option Value)(base:Heap)(C:Addr)(m:Str)(k:Nat)(ps ks:List Str)(n j:Nat)(sp:Sp):Prop where
 ex:∃(f:Addr) (fd:FuncData),Meth K C m f/\dR P w K mg base pH k f fd ps sp/\sS K fd ps ks (gk n j) (gk n j)
def FJ (C:Addr)(nm:Str)(sp:Sp)(n j:Nat)(E:XK)(ta:TE)(t tk:TA):TE:=λσ H Q=>ta σ H λx H1=>oZ x λa=>∃dx fs,H1 a=some (.ins C dx fs)/\fs.lookup nm=none/\
 t σ H1 λvs H2=>tk σ H2 λzs H3=>sp (gk n j (x::vs) zs) H3 Q E
section
variable {k:Nat}{ks:List Str}{apos:Pos}{o:Expr}{t tk:TA}{ta:TE}{pl:Sem Bool}{sG:List Keyword}
theorem Nx (M:HS X.prog X.w X.K X.mg X.base C m k ps ks n j sp)(c:uN X.K C)(hr:dJ k X.A)(ho:JE X o ta)(ha:JA X (e::es) t)(WL:JK X sG tk)
   (AG:'n'.all (·.1.isSome)=true:=by rfl) (LG:'n'.filterMap (·.1)=ks:=by rfl)
   (he:starEach (e::es) X.env='t'::starEach es X.env:=by rfl)
   (oV:((backTo pos (starEach (e::es) X.env)).any (·.1)||'n'.any (·.1.isNone))=false:=by rfl)
   (ht:eval (.Call (.Attribute o m apos) (e::es) sG pos) X.env=(do
     let ov <- eval o X.env
     standAt apos.atName
     let (f,first) <- holding [ov] (getMethod ov m pl)
     callWith pos f first (backTo pos (starEach (e::es) X.env)) 'n'):=by rfl):
   JE X (.Call (.Attribute o m apos) (e::es) sG pos) (FJ C m sp n j E0 ta t tk):=⟨by
 obtain⟨f,fd,hm,F,b⟩:=M.ex;exists 1,Q,I,h;refine vw (pl:=pl) (bH (ho.h pins s σ H _ I h) λu s1=>?_) ht;rintro⟨x,H1,I1,rx,q0⟩;obtain⟨a,ex,dx,fs,ea,l,q⟩:=oZ.ex q0;subst ex;obtain rfl:u=Value.ref a:=rx;refine qk I1 ea c hm l ?_;refine PySem.W.callWith_KW (first:=[.ref a]) (h₀:=X.base) I.ok.mod.OS hm.kp AG ?_ oV he;refine bH (ha.h pos pins s1 σ H1 _ I1 q) λus s2=>?_;rintro⟨vs,H2,I2,r2,q2⟩;refine bH (WL.h pos pins s2 σ H2 _ I2 q2) λws s3=>?_;rintro⟨zs,H3,I3,rz,q3⟩;refine ⟨I3.qK,?_⟩
 rw[LG];exact Gx (us:=.ref a::us) (vs:=.ref a::vs) F hr b zw I3 (.cons rfl r2) rz q3⟩
def R6 (K:Frag)(te:TE):TE:=λσ H Q=>te σ H λx H1=>oZ x λa=>∃xs,aQ K H1 a xs/\∀p ys,L2.new K H1 p->(∀v∈ys,v∈xs)->Q (.ref p) (upd H1 p (.lst ys))
end
theorem VD (q:∀a us,us.length=n->p (a::us)):∀us:List Value,us.length=n + 1->p us
 | a::us,e=>q a us (Nat.succ.inj e)
theorem Qf (h:∀a,p [a]):∀us:List Value,us.length=1->p us:=VD (n:=0) λa us e=>by
 cases us with
 | nil=>exact h a
 | cons b r=>cases e
theorem Qg (h:∀a b,p [a,b]):∀us:List Value,us.length=2->p us:=VD (n:=1) λa=>Qf (p:=λu=>p (a::u)) (h a)
theorem Qh (h:∀a b c,p [a,b,c]):∀us:List Value,us.length=3->p us:=VD (n:=2) λa=>Qg (p:=λu=>p (a::u)) (h a)
theorem Yh (h:∀a b c d,p [a,b,c,d]):∀us:List Value,us.length=4->p us:=VD (n:=3) λa=>Qh (p:=λu=>p (a::u)) (h a)
theorem Yi (h:∀a b c d e,p [a,b,c,d,e]):∀us:List Value,us.length=5->p us:=VD (n:=4) λa=>Yh (p:=λu=>p (a::u)) (h a)
theorem ZI (h:∀a b c d e f,p [a,b,c,d,e,f]):∀us:List Value,us.length=6->p us:=VD (n:=5) λa=>Yi (p:=λu=>p (a::u)) (h a)
abbrev BA (x q:Str)(st:Stmt)(ps:List Str):Prop:=∀(kV doc pm:Value) (an:Option Addr) (eW ct:Value) (us:List Value),us.length=ps.length->bindArgs (fnOf x q (cU st) (aj st) (aN st) .none kV doc pm an eW ct) ⟨us,[]⟩=pure (ps.zip us)
structure DI (K:Frag)(x:Str)(st:Stmt):Prop where
 ex:∃(f:Addr) (fd:FuncData),nsIn K mainGlobals x=some (some (.ref f))/\bT K x x st f fd
structure MI (K:Frag)(C:Addr)(x q:Str)(st:Stmt):Prop where
 ex:∃(f:Addr) (fd:FuncData),(findIn K (.ref C) x=some (some (.ref f))/\isFn K (.ref f)=true)/\bT K x q st f fd
structure CI (K:Frag)(x:Str)(C:Addr):Prop where
 at_:nsIn K mainGlobals x=some (some (.ref C))
 mk1:makesIn K C=true
 kp:keepIn K (.ref C)=true
structure KwIn (K:Frag)(x q kw:Str)(st:Stmt)(f:Addr)(fd:FuncData):Prop where
 F:bT K x q st f fd
 db:∃(kV doc pm:Value) (an:Option Addr) (eW ct:Value) (w:Addr) (wc:Value) (wd:Option Addr) (we:List DictEntry) (wn:Nat) (ws:Array (Option Value)),fd=fnOf x q (cU st) (aj st) (aN st) .none (.ref w) doc pm an eW ct/\K.lookup w=some ⟨wc,wd,.dict we.toArray wn,ws⟩/\iE we.toArray=true/\nsFind we.toArray kw=some .none
structure DW (K:Frag)(x kw:Str)(st:Stmt):Prop where
 ex:∃(f:Addr) (fd:FuncData),nsIn K mainGlobals x=some (some (.ref f))/\KwIn K x x kw st f fd
structure MW (K:Frag)(C:Addr)(x q kw:Str)(st:Stmt):Prop where
 ex:∃(f:Addr) (fd:FuncData),(findIn K (.ref C) x=some (some (.ref f))/\isFn K (.ref f)=true)/\KwIn K x q kw st f fd
section
variable {K:Frag}{x q kw:Str}{st:Stmt}{oc kV doc pm eW ct:Value}{od an:Option Addr}{Jq:Array (Option Value)}{w:Addr}{wc:Value}{wd:Option Addr}{we:List DictEntry}{wn:Nat}{ws:Array (Option Value)}
theorem na_ {a:Str}(h:findIn K (.ref C) a=some none):bK K C a:=h
theorem di (a:nsIn K mainGlobals x=some (some (.ref f)))(l:K.lookup f=some ⟨oc,od,.func (fnOf x x (cU st) (aj st) (aN st) .none kV doc pm an eW ct),Jq⟩)(c:codeIn K eW x=true)(k:keepIn K (.ref f)=true):DI K x st:=⟨f,_,a,AN l c k⟩
theorem mi (a:findIn K (.ref C) x=some (some (.ref f)))(l:K.lookup f=some ⟨oc,od,.func (fnOf x q (cU st) (aj st) (aN st) .none kV doc pm an eW ct),Jq⟩)(c:codeIn K eW q=true)(k:keepIn K (.ref f)=true)(n:isFn K (.ref f)=true):MI K C x q st:=⟨f,_,⟨a,n⟩,AN l c k⟩
theorem dw (a:nsIn K mainGlobals x=some (some (.ref f)))(l:K.lookup f=some ⟨oc,od,.func (fnOf x x (cU st) (aj st) (aN st) .none (.ref w) doc pm an eW ct),Jq⟩)(c:codeIn K eW x=true)(k:keepIn K (.ref f)=true)(lw:K.lookup w=some ⟨wc,wd,.dict we.toArray wn,ws⟩)(h1:iE we.toArray=true)(h2:nsFind we.toArray kw=some .none):DW K x kw st:=⟨f,_,a,AN l c k,.none,_,_,_,_,_,_,_,_,_,_,_,rfl,lw,h1,h2⟩
theorem mw (a:findIn K (.ref C) x=some (some (.ref f)))(l:K.lookup f=some ⟨oc,od,.func (fnOf x q (cU st) (aj st) (aN st) .none (.ref w) doc pm an eW ct),Jq⟩)(c:codeIn K eW q=true)(k:keepIn K (.ref f)=true)(n:isFn K (.ref f)=true)(lw:K.lookup w=some ⟨wc,wd,.dict we.toArray wn,ws⟩)(h1:iE we.toArray=true)(h2:nsFind we.toArray kw=some .none):MW K C x q kw st:=⟨f,_,⟨a,n⟩,AN l c k,.none,_,_,_,_,_,_,_,_,_,_,_,rfl,lw,h1,h2⟩
end
section
variable {P:Program}{w:World}{K:Frag}{mg:Str->Option Value}{base h:Heap}(XK:K.In h)(G:h.Ns mainGlobals mg){x q kw:Str}{st:Stmt}{k n:Nat}{ps:List Str}{sp:Sp}{C:Addr}
include XK G
theorem DI.c (d:DI K x st)(ok:∀{f fd},bT K x x st f fd->dR P w K mg base pH k f fd ps sp)(hb:BA x x st ps:=by walk_at "d2"):Callee P w K mg base x k ps sp:=by
 obtain⟨f,fd,a,F⟩:=d;exact⟨f,fd,ok F,F.binds hb,F.kp,ot XK G a⟩
theorem DI.r (d:DI K x st)(ok:∀{f fd},bT K x x st f fd->Binds K fd ps []->keepIn K (.ref f)=true->mg x=some (.ref f)->dR P w K mg base pH k f fd ps sp)(hb:BA x x st ps:=by walk_at "d2"):Callee P w K mg base x k ps sp:=by
 obtain⟨f,fd,a,F⟩:=d;exact⟨f,fd,ok F (F.binds hb) F.kp (ot XK G a),F.binds hb,F.kp,ot XK G a⟩
omit XK G in
theorem MI.c (d:MI K C x q st)(ok:∀{f fd},bT K x q st f fd->dR P w K mg base pH k f fd ps sp)(hb:BA x q st ps:=by walk_at "d2"):j6 P w K mg base C x k ps [] sp:=by
 obtain⟨f,fd,a,F⟩:=d;exact⟨f,fd,[],⟨a.1,a.2,F.kp⟩,ok F,F.binds hb,.nil⟩
theorem MI.Yj (d:MI K C "__init__" q st)(e:CI K x C)(ok:∀{f fd},bT K "__init__" q st f fd->dR P w K mg base pH k f fd ps sp)(hb:BA "__init__" q st ps:=by walk_at "d2"):Maker P w K mg base x k ps [] C sp:=by
 obtain⟨f,fd,a,F⟩:=d;exact⟨f,fd,[],⟨e.mk1,a.1,a.2,e.kp⟩,ok F,F.binds hb,.nil,ot XK G e.at_⟩
abbrev BK (x q kw:Str)(st:Stmt)(n:Nat)(ps:List Str):Prop:=∀(kV doc pm:Value) (an:Option Addr) (eW ct v:Value) (us:List Value),us.length=n->bindArgs (fnOf x q (cU st) (aj st) (aN st) .none kV doc pm an eW ct) ⟨us,[(kw,v)]⟩=pure (ps.zip (us++[v]))
abbrev BD (K:Frag)(x q kw:Str)(st:Stmt)(n:Nat)(ps:List Str):Prop:=∀(doc pm:Value) (an:Option Addr) (eW ct:Value) (w:Addr) (wc:Value) (wd:Option Addr) (we:Array DictEntry) (wn:Nat) (ws:Array (Option Value)) (s:Shared),K.In s.heap->K.lookup w=some ⟨wc,wd,.dict we wn,ws⟩->iE we=true->nsFind we kw=some .none->∀us:List Value,us.length=n->BindsTo s (fnOf x q (cU st) (aj st) (aN st) .none (.ref w) doc pm an eW ct) ⟨us,[]⟩ (ps.zip (us++[.none]))
omit XK G in
theorem KwIn.kb (d:KwIn K x q kw st f fd)(hn:ps.length=n + 1)(hb:BK x q kw st n ps):sS K fd ps [kw] (gk n 1) (gk n 1):=by
 obtain⟨_,_,_,_,_,_,_,_,_,_,_,_,_,rfl,_⟩:=d;exact Uo hn X2 λs us ws h1 h2=>match ws,h2 with | [v],_=>.of_eq (hb _ _ _ _ _ _ v us h1)
omit XK G in
theorem KwIn.dbs (d:KwIn K x q kw st f fd)(hn:ps.length=n + 1)(hb:BD K x q kw st n ps):Binds K fd ps [.none]:=by
 obtain⟨_,_,_,_,_,_,_,_,_,_,_,_,_,rfl,l,h1,h2⟩:=d;exactλs us hK hl=>hb _ _ _ _ _ _ _ _ _ _ _ s hK l h1 h2 us (by rw[ar,hn]at hl;exact Nat.succ.inj hl)
theorem DW.kc (d:DW K x kw st)(ok:∀{f fd},bT K x x st f fd->dR P w K mg base pH k f fd ps sp)(hn:ps.length=n + 1:=by rfl)(hb:BK x x kw st n ps:=by walk_at "d1"):oX P w K mg base x k ps [kw] n 1 sp:=by
 obtain⟨f,fd,a,d⟩:=d;exact⟨f,fd,ok d.F,d.kb hn hb,d.F.kp,ot XK G a⟩
theorem DW.dc (d:DW K x kw st)(ok:∀{f fd},bT K x x st f fd->dR P w K mg base pH k f fd ps sp)(hn:ps.length=n + 1:=by rfl)(hb:BD K x x kw st n ps:=by walk_at "d0"):PM P w K mg base x k ps [.bS] sp:=by
 obtain⟨f,fd,a,d⟩:=d;exact⟨f,fd,_,ok d.F,d.dbs hn hb,.cons rfl .nil,d.F.kp,ot XK G a⟩
omit XK G in
theorem MW.kc (d:MW K C x q kw st)(ok:∀{f fd},bT K x q st f fd->dR P w K mg base pH k f fd ps sp)(hn:ps.length=n + 1:=by rfl)(hb:BK x q kw st n ps:=by walk_at "d1"):HS P w K mg base C x k ps [kw] n 1 sp:=by
 obtain⟨f,fd,a,d⟩:=d;exact⟨f,fd,⟨a.1,a.2,d.F.kp⟩,ok d.F,d.kb hn hb⟩
omit XK G in
theorem MW.dc (d:MW K C x q kw st)(ok:∀{f fd},bT K x q st f fd->dR P w K mg base pH k f fd ps sp)(hn:ps.length=n + 1:=by rfl)(hb:BD K x q kw st n ps:=by walk_at "d0"):j6 P w K mg base C x k ps [.bS] sp:=by
 obtain⟨f,fd,a,d⟩:=d;exact⟨f,fd,[.none],⟨a.1,a.2,d.F.kp⟩,ok d.F,d.dbs hn hb,.cons rfl .nil⟩
end
theorem nk (h:decide N.Nodup=true:=by kernel_rfl):N.Nodup:=QR h
theorem rm {k:Nat}(r:dJ k A)(h:j<=k:=by decide):dJ j A:=r.mono h
theorem Yk {P:List Str}(h:decide (sc.kind=.function/\sc.isCoroutine=false/\sc.isGenerator=false/\N.Nodup/\N.take P.length=P/\(∀x∈P,sc.names.lookup x=some .local∨sc.names.lookup x=some .cell)/\∀y∈sc.names,y.2≠.free)=true:=by kernel_rfl):eU N P sc:=by
 obtain⟨h1,h2,h3,h4,h5,h6,h7⟩:=QR h;exact⟨h1,h2,h3,h4,h5,h6,h7⟩
section
variable {x:Str}{p:Pos}
theorem ck (N:List Str)(src:List (Option Nat))(kind:sc.kind=.function:=by rfl)(ok:vW X.N X.env.scope sc N src=true:=by rfl):AU X sc N src:=⟨kind,ok⟩
theorem gn (i:Nat)(hN:X.N.Nodup)(hi:X.N[i]?=some x:=by rfl)(hx:Loc X.env.scope x:=by exact Or.inl rfl)(hf:X.fn x=true∨X.env.scope.names.lookup x=some .local:=by first | exact .inl rfl | exact .inr rfl | assumption):JG X (.Name x pos) (bI i):=GN hN hi hx hf
theorem ss (i:Nat)(hN:X.N.Nodup)(he:JE X e te)(hi:X.N[i]?=some x:=by rfl)(hx:Loc X.env.scope x:=by exact Or.inl rfl)(hs:swapsWith e (some (.Name x p)) pos.line X.env=pure false:=by rfl)(hf:X.fn x=true∨X.env.scope.names.lookup x=some .local:=by first | exact .inl rfl | exact .inr rfl | assumption):
   JS X (.Assign [.Name x p] e pos) (AA te (bI i)):=sset hN hi hx he hs hf
end
theorem HU (i:Nat){X:Cx}{x:Str}{p:Pos}(hN:X.N[i]?=some x:=by rfl)(hv:Vt X.env.scope x:=by first | exact Or.inl rfl | exact Or.inr (Or.inl rfl) | exact Or.inr (Or.inr rfl))(hd:'p'=false:=by decide)
   (Em:(x==("__classdict__":Str))=false:=by decide):JE X (.Name x p) (vM i):=evM (ev i hN hv hd Em)
theorem OI (i:Nat){X:Cx}{x:Str}{p:Pos}(hN:X.N[i]?=some x:=by rfl)(hv:Vt X.env.scope x:=by first | exact Or.inl rfl | exact Or.inr (Or.inl rfl) | exact Or.inr (Or.inr rfl))(hd:'p'=false:=by decide)
   (Em:(x==("__classdict__":Str))=false:=by decide):JE X (.Name x p) (Ab (vM i)):=jm (evM (ev i hN hv hd Em))
def bg:=@HU 0
def cF:=@HU 1
def eB:=@HU 2
def gC:=@HU 3
def jA:=@HU 4
def sJ:=@HU 5
def C9:=@HU 6
def Qi:=@HU 7
def Dc:=@HU 8
def R7:=@HU 9
def Kr:=@HU 10
def Ks:=@HU 11
def UU:=@HU 12
def Ny:=@HU 13
def cN:=@OI 0
def qM:=@OI 1
def Dd:=@OI 2
def Qj:=@OI 3
def ZJ:=@OI 4
def jv5:=@OI 5
def UW:=@OI 6
def jv7:=@OI 7
def jv9:=@OI 9
def abm:=@OI 10
section
variable {e2:Expr}{t2:TE}{t:TA}{p:Pos}
theorem bM {K:Frag}{q:Addr}(o:HO)(h:L2.new K H q):Ext K H (upd H q o):=Ext.new h
theorem iq (h:JE X e te):JE X (.Subscript e (.Constant (.int i) j p) pos) (Gr (M4 X.K) te (tC (.int i))):=sW (uv je) h ei λ_ _=>rfl
theorem Ku (K:Frag)(h:JE X e te)(hk:X.K=K:=by rfl):JE X (.Subscript e (.Constant (.int i) j p) pos) (Gr (M4 K) te (tC (.int i))):=sW (uv (GS K hk)) h ei λ_ _=>rfl
theorem tN (hm:X.mg "len"=none)(h:JE X e te)(hg:Gl X "len":=by rfl)(he:starEach [e] X.env='t'::starEach [] X.env:=by rfl)(oV:(backTo pos (starEach [] X.env)).any (·.1)=false:=by rfl):
   JE X (.Call (.Name "len" p) [e] [] pos) (Q3 (Hw X.K) (pN te vE)):=bL (XR zC) hg hm EM (aa h ah he) Y1 Y1 he oV
theorem B3 (hm:X.mg "isinstance"=none)(h:JE X e te)(h2:JE X e2 t2)(hg:Gl X "isinstance":=by rfl)(he:starEach [e,e2] X.env='t'::starEach [e2] X.env:=by rfl)(Ka:starEach [e2] X.env=(false,eval e2 X.env)::starEach [] X.env:=by rfl)(oV:(backTo pos (starEach [e2] X.env)).any (·.1)=false:=by rfl):
   JE X (.Call (.Name "isinstance" p) [e,e2] [] pos) (Q3 (Qc X.K) (pN te (pN t2 vE))):=bL (isM AS) hg hm ic (aa h (aa h2 ah Ka) he) Y1 Y1 he oV
theorem ec {x:Str}{k k':Nat}(C:Callee X.prog X.w X.K X.mg X.base x k ps sp)(hr:dJ k' X.A)(ha:JA X (e::es) t)(hle:k<=k':=by decide)(hg:Gl X x:=by rfl)
   (yt:'p'=false:=by decide) (he:starEach (e::es) X.env='t'::starEach es X.env:=by rfl) (oV:'x'.any (·.1)=false:=by rfl):
   JE X (.Call (.Name x p) (e::es) [] pos) (uo sp [] E0 t):=vU C (hr.mono hle) hg ha yt he oV
theorem mK {k}(h:JA X es t):JE X (.Tuple es k pos) (Hu X.K t):=RG (Rb (am h))
theorem jG (h:JA X es t):JE X (.List es pos) (Hv X.K t):=lsM (Rc (am h))
end
section
variable {P:Program}{K:Frag}{x qual:Str}{k:Nat}
theorem bT.okA (F:bT K x qual s0 f fd)(S:eU N ps (aN s0))
   (ja:∀(eW:Value) (A:Around) (outer:List Env) (s:Shared) (H:Hp) (vs:List V) (Q:VK) (E:XK),dJ k (A.deeper (envOfC qual (aN s0) s.heap.objs.size f eW))->sp vs H Q E->
     ∃t,JB (qT pH P w K mg base N qual (aN s0) f eW A outer s H E).OB (aj s0) t/\t { nx:=λ_ H'=>Q .bS H',rt:=Q } (st N vs) H)
   (len:∀vs H Q E,sp vs H Q E->vs.length=ps.length:=by walk_at "d3"):dR P w K mg base pH (k + 1) f fd ps sp:=F.okS S len ja
theorem bT.okB (F:bT K x qual s0 f fd)(S:eU N ps (aN s0))
   (ja:∀(eW:Value) (A:Around) (outer:List Env) (s:Shared) (H:Hp) (vs:List V) (Q:VK) (E:XK),dJ k (A.deeper (envOfC qual (aN s0) s.heap.objs.size f eW))->iX K H->sp vs H Q E->
     ∃t,JB (qT pH P w K mg base N qual (aN s0) f eW A outer s H E).OB (aj s0) t/\t { nx:=λ_ H'=>Q .bS H',rt:=Q } (st N vs) H)
   (len:∀vs H Q E,sp vs H Q E->vs.length=ps.length:=by walk_at "d3"):dR P w K mg base pH (k + 1) f fd ps sp:=F.okT S len ja
end
end L2
namespace eV
open PySem L2
local macro_rules | `(tactic| simp_arith [$hs,*])=>do
 let c<-("!XU !XW !XX !XY !XZ !X0 !X3 !X4 !X5 !X6 !RT !RU !RV !RW !RX !RY !RZ !X7 !exS !exT !exU !exV !ex0 !ex1 !ex2 !ex3 !exI !exR !exC !X8 !RH !RI !RJ !RK !RL !RM !RO !RP !RQ !RS !M8 !M9 !Na !Nb !Nc !Nd !Nf !Ng !Nh !Ni !Nj !Nl !Nm !Nn !Np !Nq !Rv !Rx !Ry !Rz !RA !RB !RC !R1 !R3 !Yb !Yc !XE !XF !MZ !XJ !XM !XN !Ac !Hx !Hy !Hz !C8 !Nr !Nu !Nv !Ad !Ae pS M7 rA rC XO M1 UO M3 ve M4 M5 M6 Fy Fz Hu Hv Hw Qc OY Gp O3 AA O6 O2 QX Gq El tC Gr Ze Ls rI rU uh tB Cc Li Cd OW Za OX Zb mW Q3 pN vE WK WJ uo List.getElem?_cons_zero List.getElem?_cons_succ List.set_cons_zero List.set_cons_succ Option.some.injEq V.int.injEq V.bl.injEq V.ref.injEq V.ty.injEq V.str.injEq List.cons.injEq TB TK TC U2 true_and XB cxK W2 LL rEq rNe HA HB HD HE HF HG HH HJ HK HL HM HN HP HQ HO.lst.injEq HO.tup.injEq vR L6 L7 L8 Ma Mb Mc af vO vQ LX LY L4 L5 Iy L2.start List.map_cons List.map_nil List.length_cons List.length_nil Nat.reduceAdd Nat.reduceSub List.replicate_succ List.replicate_zero List.cons_append List.nil_append List.append_nil !zx !zy !zz !Ct CDv Lu Tv NA Int.reduceLE Int.reduceLT Int.reducePow Int.reduceToNat Int.reduceAdd Int.reduceSub Int.reduceMul Int.reduceNeg Nat.reduceLeDiff Nat.reducePow Nat.reduceLT Int.reduceEq true_or or_true ite_true ite_false QP Kt Bool.not_true Bool.not_false oe decide_true X1 Mm sX sY aF Zi u5 Gy PJ GQ Cv Cw Ax Uj PD Cy iy vB Zk Pn AK EJ GG Rk Xo rJoin WS Hi ME WT Cp Hj Uq !zG !CG !CH !CJ !GR CB CC CD join_some pI AF Rg Rh zQ Fd GJ !HR Xn Rl MH Hl cxN uo MG Xp Ends.gone !C1 UA CZ C0 Ho MK Hq Ff Ro MP !wG !zX !CW Xw Rp MO Rq Hr Fe LC Jo Gw vF tAt T6 AB Xs !C2 !C3 Fi tG wA UH !zO zP vZ CM !CV Fw !z8 Fv R6 FJ R5".splitOn " ").toArray.mapM fun x=>if x.startsWith "!" then `(Lean.Parser.Tactic.simpLemma| ↓$(Lean.mkIdent (x.drop 1).toString.toName):ident) else `(Lean.Parser.Tactic.simpLemma| $(Lean.mkIdent x.toName):ident)
 let d:Lean.TSyntaxArray [`Lean.Parser.Tactic.simpStar,`Lean.Parser.Tactic.simpErase,`Lean.Parser.Tactic.simpLemma]:=c.map (⟨·.raw⟩)++hs.getElems
 `(tactic| ((try dsimp only[abk,abj,abi,cxK]);(try dsimp only[$c,*]);(try simp only[$d,*]);try simp only[XG,XH,XI,TB,TK,TC,U2,true_and,XB,Option.some.injEq,V.int.injEq,V.bl.injEq,V.ref.injEq,V.ty.injEq,V.str.injEq,List.cons.injEq,Iy]))
local macro_rules | `(tactic| walk_at "rd")=>`(tactic| simp_arith [oW])
local macro_rules | `(tactic| walk_at "rn")=>`(tactic| simp_arith [U2])
set_option hygiene false
local macro_rules | `(tactic| walk_at "d0")=>`(tactic| (intro _ _ _ _ _ _ _ _ _ _ _ _ h1 h2 h3 h4;first | exact Qf λ_=>iZ h1 h2 h3 h4 (h₁:=rfl) rfl | exact Qg λ_ _=>iZ h1 h2 h3 h4 (h₁:=rfl) rfl | exact Qh λ_ _ _=>iZ h1 h2 h3 h4 (h₁:=rfl) rfl))
local macro_rules | `(tactic| walk_at "d1")=>`(tactic| (intro _ _ _ _ _ _ _;first | exact Qf λ_=>rfl | exact Qg λ_ _=>rfl | exact Qh λ_ _ _=>rfl))
local macro_rules | `(tactic| walk_at "d2")=>`(tactic| (intro _ _ _ _ _ _;first | exact Qf λ_=>rfl | exact Qg λ_ _=>rfl | exact Qh λ_ _ _=>rfl | exact Yh λ_ _ _ _=>rfl | exact Yi λ_ _ _ _ _=>rfl | exact ZI λ_ _ _ _ _ _=>rfl))
local macro_rules | `(tactic| walk_at "d3")=>`(tactic| (intro _ _ _ _ h;cases h;(repeat' (first | (subst_vars;rfl) | cases‹_/\_› | cases‹∃_,_›))))
local macro_rules | `(tactic| ext)=>`(tactic| try walk_at "rn")
local macro_rules | `(tactic| exists 0,$t:term)=>`(tactic| refine F.okA (N:=$t) Yk λeW A outer s H vs Q E hr h=>?_)
local macro_rules | `(⋯)=>`(Callee P w K mg base)
local macro_rules | `(!0)=>`(dR P w K mg base pH)
set_option hygiene true
variable{A C D Pv R T aS aX az bF dx f h kn p:Addr}{g:Addr->Int}{S:Addr->Option Int}{fd:FuncData}{H H' H0 H1:Hp}{Q:Hp->Prop}{b hi i last n turn:Int}{aB:List (Key×V)}{aV ms:List Int}{us vs ws xs:List V}{o:Option Int}{v0 v1:Option V}{m pl x:Str}{mg:Str->Option Value}{te:TE}{α:Type}{fl rv u:V}{w:World}
abbrev uw:Stmt:=top 16
abbrev wQ:Stmt:=top 17
abbrev mz:Stmt:=top 18
abbrev De:Stmt:=top 19
abbrev rK:Stmt:=top 20
abbrev ux:Stmt:=top 21
abbrev tP:Stmt:=top 23
abbrev Af:Stmt:=top 24
abbrev Ag:Stmt:=top 27
abbrev uy:Stmt:=top 28
abbrev nB:Stmt:=top 29
abbrev Nz:Stmt:=top 30
abbrev tQ:Stmt:=top 32
abbrev Ah:Stmt:=top 33
abbrev pT:Stmt:=top 34
abbrev uA:Stmt:=top 37
abbrev rM:Stmt:=top 38
abbrev jH:Stmt:=top 39
abbrev rN:Stmt:=top 40
abbrev nF:Stmt:=top 41
abbrev Df:Stmt:=top 42
abbrev wR:Stmt:=top 43
abbrev uB:Stmt:=top 44
abbrev wU:Stmt:=top 45
abbrev jg:Stmt:=top 46
abbrev mD:Stmt:=top 47
abbrev wV:Stmt:=top 49
abbrev HV:Stmt:=top 51
abbrev wW:Stmt:=top 52
abbrev NB:Stmt:=top 53
abbrev mE:Stmt:=inClass (top 55) 0
abbrev j8:Stmt:=inClass (top 56) 0
abbrev nG:Stmt:=top 57
abbrev pU:Stmt:=top 58
abbrev j9:Stmt:=inClass (top 59) 0
abbrev uC:Stmt:=top 60
abbrev pV:Stmt:=top 62
abbrev fZ:Stmt:=top 63
abbrev wX:Stmt:=top 64
abbrev jI:Stmt:=top 65
abbrev Ai:Stmt:=top 66
abbrev jJ:Stmt:=top 67
abbrev rO:Stmt:=top 68
abbrev rP:Stmt:=top 70
abbrev wY:Stmt:=top 72
abbrev pW:Stmt:=top 73
abbrev gE:Stmt:=top 74
abbrev wZ:Stmt:=top 79
abbrev kY:Stmt:=top 83
abbrev kg:Stmt:=inClass (top 85) 0
abbrev pX:Stmt:=inClass (top 85) 4
abbrev rQ:Stmt:=inClass (top 85) 5
abbrev uD:Stmt:=inClass (top 85) 13
abbrev pY:Stmt:=inClass (top 85) 20
abbrev gF:Stmt:=top 86
abbrev w5:Stmt:=top 88
abbrev pZ:Stmt:=top 89
abbrev Aj:Stmt:=top 90
abbrev rR:Stmt:=top 91
abbrev ki:Stmt:=top 92
abbrev bW:Stmt:=inClass (top 93) 0
abbrev cO:Stmt:=inClass (top 93) 1
abbrev jK:Stmt:=inClass (top 93) 2
abbrev gG:Stmt:=inClass (top 93) 3
abbrev iR:Stmt:=inClass (top 93) 4
abbrev bQ:Stmt:=inClass (top 93) 5
abbrev cj:Stmt:=inClass (top 93) 6
abbrev qc:Stmt:=top 94
abbrev w9:Stmt:=top 95
abbrev nH:Stmt:=top 97
abbrev uE:Stmt:=top 98
abbrev uF:Stmt:=top 99
abbrev rS:Stmt:=top 100
abbrev qd:Stmt:=top 101
abbrev ir:Stmt:=top 102
abbrev nJ:Stmt:=top 103
abbrev gb:Stmt:=top 104
abbrev gc:Stmt:=top 105
abbrev fk:Stmt:=top 106
abbrev bG:Stmt:=top 107
abbrev kZ:Stmt:=top 108
abbrev jL:Stmt:=top 109
abbrev bA:Stmt:=top 110
abbrev xg:Stmt:=top 113
abbrev dU:Stmt:=top 114
abbrev iF:Stmt:=top 115
abbrev b8:Stmt:=top 116
abbrev fE:Stmt:=top 117
abbrev R8:Stmt:=top 118
structure B (K:Frag)(mg:Str->Option Value)(aG aP aI av:Addr)(tE t1 t2 t3 t4:Tok):Prop where
 all:mg "all"=none
 bool:mg "bool"=none
 dict:mg "dict"=none
 enumerate:mg "enumerate"=none
 int:mg "int"=none
 isinstance:mg "isinstance"=none
 len:mg "len"=none
 list:mg "list"=none
 max:mg "max"=none
 min:mg "min"=none
 range:mg "range"=none
 repr:mg "repr"=none
 reversed:mg "reversed"=none
 set:mg "set"=none
 sorted:mg "sorted"=none
 str:mg "str"=none
 tuple:mg "tuple"=none
 zip:mg "zip"=none
 Yl:mg "END"=some (.int 1000000000000 tE)
 Kv:mg "MOST_TRAY"=some (.int 64 t1)
 Kw:mg "LEAST_FAN"=some (.int 3 t2)
 NC:mg "MOST_FAN"=some (.int 16 t3)
 Ky:mg "MOST_ROWS"=some (.int 64 t4)
 Ym:mg "PLANS"=some (.ref aP)
 Yn:mg "GONE"=some (.ref aG)
 Yo:mg "Leaf"=some (.ref aI)
 Inner:mg "Inner"=some (.ref av)
 kP:j5 K aP=some [.str "fullest",.str "eldest"]
 kG:j5 K aG=some [.str "gone"]
 cL:uN K aI
 kLL:kitOne K (.ref aI) (.ref aI)=some true
 kLI:kitOne K (.ref aI) (.ref av)=some false
 tL:findIn K (.ref aI) "__class__"=some (some (.builtin "object.__class__"))/\PySem.W.mroIn K aI (.type "object")=some true
 cI:uN K av
 kIL:kitOne K (.ref av) (.ref aI)=some false
 kII:kitOne K (.ref av) (.ref av)=some true
 tI:findIn K (.ref av) "__class__"=some (some (.builtin "object.__class__"))/\PySem.W.mroIn K av (.type "object")=some true
 tO:PySem.W.specialIn K (.builtin "object.__class__") "__get__"=some (some (.builtin "getset_descriptor.__get__"))/\PySem.W.takesIn K (.builtin "object.__class__")=some true
 nL:bK K aI "number"/\bK K aI "rows"
 nI:bK K av "number"/\bK K av "pivots"/\bK K av "children"/\bK K av "tray"
section
variable {K:Frag}{aG aP aI av:Addr}{tE t1 t2 t3 t4:Tok}
theorem B.xh (_:B K mg aG aP aI av tE t1 t2 t3 t4):RelV (.int 1000000000000) (.int 1000000000000 tE):=⟨tE,rfl⟩
theorem B.A5 (_:B K mg aG aP aI av tE t1 t2 t3 t4):RelV (.int 64) (.int 64 t1):=⟨t1,rfl⟩
theorem B.A6 (_:B K mg aG aP aI av tE t1 t2 t3 t4):RelV (.int 3) (.int 3 t2):=⟨t2,rfl⟩
theorem B.Dg (_:B K mg aG aP aI av tE t1 t2 t3 t4):RelV (.int 16) (.int 16 t3):=⟨t3,rfl⟩
theorem B.A7 (_:B K mg aG aP aI av tE t1 t2 t3 t4):RelV (.int 64) (.int 64 t4):=⟨t4,rfl⟩
theorem B.ND (_:B K mg aG aP aI av tE t1 t2 t3 t4):RelV (.ref aP) (.ref aP):=rfl
theorem B.HW (_:B K mg aG aP aI av tE t1 t2 t3 t4):RelV (.ref aG) (.ref aG):=rfl
theorem B.HX (_:B K mg aG aP aI av tE t1 t2 t3 t4):RelV (.ref aI) (.ref aI):=rfl
theorem B.NF (_:B K mg aG aP aI av tE t1 t2 t3 t4):RelV (.ref av) (.ref av):=rfl
theorem B.tyL (B:B K mg aG aP aI av tE t1 t2 t3 t4){a:Addr}{fs:List (Str×V)}(h:H a=some (.ins aI dx fs)):pG K H (.ref a) (.ref aI):=.ins h B.cL B.tL.1 B.tO.1 B.tO.2 B.tL.2
theorem B.tyI (B:B K mg aG aP aI av tE t1 t2 t3 t4){a:Addr}{fs:List (Str×V)}(h:H a=some (.ins av dx fs)):pG K H (.ref a) (.ref av):=.ins h B.cI B.tI.1 B.tO.1 B.tO.2 B.tI.2
end
def on:Option Int->V
 | none=>.bS
 | some i=>.int i
def wO (lo hi:Int):Option Int->Bool
 | some i=>decide (lo<=i/\i<=hi)
 | none=>false
def fO (lo:Int):Option Int->Bool
 | some i=>decide (lo<=i)
 | none=>false
section
variable {P:Program}{K:Frag}{base:Heap}{aG aP aI av:Addr}{tE t1 t2 t3 t4:Tok}(B:B K mg aG aP aI av tE t1 t2 t3 t4)
def lg:Sp:=λvs H Q _=>∃o,vs=[on o]/\Q (.bl o.isSome) H
def nK:Sp:=λvs H Q _=>∃o lo hi,vs=[on o,.int lo,.int hi]/\Q (.bl (wO lo hi o)) H
def vg:Sp:=λvs H Q _=>∃o lo,vs=[on o,.int lo]/\Q (.bl (fO lo o)) H
include B in
theorem A8 (F:bT K "is_number" "is_number" uw f fd):(!0) 1 f fd ["thing"] lg:=by
 exists 0,["thing"]
 obtain⟨o,rfl,q⟩:=h;refine⟨_,(aE (aR (FD (fM (jm (B3 B.isinstance bg (mG rfl B.int vL))) (iC (noM (W4 (jm (B3 B.isinstance bg (mG rfl B.bool Pz)))))))))),?_⟩
 ext
 cases o with
 | none=>exact⟨_,.inl .bS,false,rfl,q⟩
 | some i=>exact⟨_,.inl (.int i),true,rfl,_,.inl (.int i),false,rfl,q⟩
include B in
theorem Dh (F:bT K "is_whole" "is_whole" wQ f fd)(aU:⋯ "is_number" 1 ["thing"] lg):(!0) 2 f fd ["thing","low","high"] nK:=by
 exists 0,["thing","low","high"]
 obtain⟨o,lo,hi,rfl,q⟩:=h;refine⟨_,(aE (aR (fM (ec aU hr (aa bg ah)) (iC (UP (ES (om (mA gy)) (mA gy) qM cN eB)))))),?_⟩
 ext
 refine⟨o,rfl,_,rfl,?_⟩;cases o with
 | none=>exact aK Y1 q
 | some i=>
   refine bw rfl ⟨_,rfl,?_⟩;simp only[wO]at q;split
   . rename_i c
     simp only[c,true_and]at q;exact⟨_,rfl,q⟩
   . rename_i c
     simp only[c,false_and,X1]at q;exact q
include B in
theorem tR (F:bT K "is_whole_from" "is_whole_from" mz f fd)(aU:⋯ "is_number" 1 ["thing"] lg):(!0) 2 f fd ["thing","low"] vg:=by
 exists 0,["thing","low"]
 obtain⟨o,lo,rfl,q⟩:=h;refine⟨_,(aE (aR (fM (ec aU hr (aa bg ah)) (iC (fS (mA gy) cF bg (aH _)))))),?_⟩
 ext
 refine⟨o,rfl,_,rfl,?_⟩;cases o with
 | none=>exact aK Y1 q
 | some i=>exact bw rfl ⟨_,rfl,q⟩
theorem gH {K:Frag}{c:Addr}{L:List α}{f g:α->V}{rest:St}(hk:aQ K H c (L.map f))(nD:new K H D)(hz:L.length<=16000000)
   (elt:∀q∈L,∀H' (Q:VK),Ext K H H'->(∀H'',Ext K H' H''->Q (g q) H'')->te (some (f q)::rest) H' Q)
   (fin:∀H',H' D=some (.lst (L.map g))->Ext K H H'->Q H'):b7 (ug K c) (bI 0) pI te D Q (v0::rest) 'l':=by
 refine fQ (xs:=L.map f) (λi acc σ' H'=>∃(v0:Option V),σ'=v0::rest/\H' D=some (.lst acc)/\acc=(L.take i).map g/\Kp K D 'l' H') ?_ ?_ ?_ ?_
 . exact⟨_,rfl,af,rfl,Kp.refl⟩
 . rintro i acc σ' H' _ ⟨v0,rfl,hD,rfl,k⟩;exact(k.ext nD).same.seq hk
 . rintro i x acc σ' H' hx ⟨v0,rfl,hD,rfl,k⟩;rw[ax]at hx;obtain⟨q,ek,rfl⟩:=bp.mp hx;have hlen:((L.take i).map g).length<=16000000:=by rw[ab,eC];omega
   unfold bI pI;refine WZ ?_;refine elt q (bb ek) H' _ (k.ext nD) λH'' x''=>⟨x''.at hD,eI hlen Y1,_,rfl,af,?_,k.trans (x''.kp.trans (Kp.upd (x''.at hD)))⟩
   rw[List.take_add_one,ek,fi,bj];rfl
 . rintro acc σ' H' ⟨v0,rfl,hD,rfl,k⟩;rw[ab,dv]at hD;exact fin H' hD (k.ext nD)
inductive bR where
 | plus (n:Int) | is (n:Int) | gone
def bR.v:bR->List V
 | .plus n=>[.str "plus",.int n]
 | .is n=>[.str "is",.int n]
 | .gone=>[.str "gone"]
theorem s5:¬ (("inner":Str)="leaf"):=X9
theorem s3:¬ (("is":Str)="plus"):=X9
def bR.hd:bR->PyData
 | .plus n=>.tuple [.str "plus",.int n]
 | .is n=>.tuple [.str "is",.int n]
 | .gone=>.tuple [.str "gone"]
theorem bR.HY {K:Frag}{r:Addr}{h:bR}(e:tupQ K H r=some h.v):Is K H h.hd (.ref r):=by
 cases h with
 | plus n=>simp only[bR.hd,Is,dD];exact⟨r,_,rfl,jF e,_,_,rfl,rfl,_,_,rfl,rfl,rfl⟩
 | is n=>simp only[bR.hd,Is,dD];exact⟨r,_,rfl,jF e,_,_,rfl,rfl,_,_,rfl,rfl,rfl⟩
 | gone=>simp only[bR.hd,Is,dD];exact⟨r,_,rfl,jF e,_,_,rfl,rfl,rfl⟩
theorem bR.shaped (h:bR):SeqAt.shaped h.hd=true:=by
 cases h <;> simp only[SeqAt.shaped,bR.hd,PyData.canLay0,PyData.canLayAll0,PyData.depth,PyData.depthAll] <;> decide +kernel
theorem bR.Di (h:bR):PyData.eqv h.hd bR.gone.hd=(match h with | .gone=>true | _=>false):=by
 cases h <;> rfl
structure Nt where
 n:Int
 lo:Int
 hi:Int
 t:bR
 m:bR
mutual
def aL (K:Frag)(H0 H:Hp):PyData->V->Prop
 | .none,v=>v=.bS
 | .int i,v=>v=.int i
 | .str x,v=>v=.str x
 | .list ds,v=>∃a vs,v=.ref a/\new K H0 a/\H a=some (.lst vs)/\ai K H0 H ds vs
 | .tuple ds,v=>∃a vs,v=.ref a/\tupQ K H a=some vs/\ai K H0 H ds vs
 | .bool _,_=>False
 | .dict _,_=>False
def ai (K:Frag)(H0 H:Hp):List PyData->List V->Prop
 | [],vs=>vs=[]
 | d::ds,vs=>∃v r,vs=v::r/\aL K H0 H d v/\ai K H0 H ds r
end
section
variable {K:Frag}
theorem bB (x:Ext K H H')(n:new K H' T):new K H T:=by
 refine⟨?_,n.2⟩;cases z:H T with
 | none=>rfl
 | some o=>have:=x.at z;rw[n.1]at this;cases this
mutual
theorem aL.ext (x:Ext K H H'):∀{d:PyData}{v:V},aL K H0 H d v->aL K H0 H' d v
 | .none,v,h=>h
 | .int i,v,h=>h
 | .str s,v,h=>h
 | .list ds,v,h=>by
   unfold aL at h ⊢;obtain⟨a,vs,e,n,ha,hs⟩:=h;exact⟨a,vs,e,n,x.at ha,ai.ext x hs⟩
 | .tuple ds,v,h=>by
   unfold aL at h ⊢;obtain⟨a,vs,e,ha,hs⟩:=h;exact⟨a,vs,e,x.tup ha,ai.ext x hs⟩
 | .bool _,v,h=>h
 | .dict _,v,h=>h
theorem ai.ext (x:Ext K H H'):∀{ds:List PyData}{vs:List V},ai K H0 H ds vs->ai K H0 H' ds vs
 | [],vs,h=>h
 | d::ds,vs,h=>by
   unfold ai at h ⊢;obtain⟨v,r,e,h1,h2⟩:=h;exact⟨v,r,e,aL.ext x h1,ai.ext x h2⟩
end
mutual
theorem aL.qx (x:∀a,new K H0 a->new K H1 a):∀{d:PyData}{v:V},aL K H0 H d v->aL K H1 H d v
 | .none,v,h=>h
 | .int i,v,h=>h
 | .str s,v,h=>h
 | .list ds,v,h=>by
   unfold aL at h ⊢;obtain⟨a,vs,e,n,ha,hs⟩:=h;exact⟨a,vs,e,x a n,ha,ai.qx x hs⟩
 | .tuple ds,v,h=>by
   unfold aL at h ⊢;obtain⟨a,vs,e,ha,hs⟩:=h;exact⟨a,vs,e,ha,ai.qx x hs⟩
 | .bool _,v,h=>h
 | .dict _,v,h=>h
theorem ai.qx (x:∀a,new K H0 a->new K H1 a):∀{ds:List PyData}{vs:List V},ai K H0 H ds vs->ai K H1 H ds vs
 | [],vs,h=>h
 | d::ds,vs,h=>by
   unfold ai at h ⊢;obtain⟨v,r,e,h1,h2⟩:=h;exact⟨v,r,e,aL.qx x h1,ai.qx x h2⟩
end
theorem ai.old (x:Ext K H1 H0){ds:List PyData}(h:ai K H0 H ds vs):ai K H1 H ds vs:=h.qx λ_ n=>bB x n
mutual
theorem aL.kp {D:Addr}{o:HO}{xs:List V}(h0:H0 D=some o)(hD:H D=some (.lst xs))(k:Kp K D H H'):∀{d:PyData}{v:V},aL K H0 H d v->aL K H0 H' d v
 | .none,v,h=>h
 | .int i,v,h=>h
 | .str s,v,h=>h
 | .list ds,v,h=>by
   unfold aL at h ⊢;obtain⟨a,vs,e,n,ha,hs⟩:=h;exact⟨a,vs,e,n,k.keep a _ ha (λz=>by rw[z]at n;rw[n.1]at h0;cases h0),ai.kp h0 hD k hs⟩
 | .tuple ds,v,h=>by
   unfold aL at h ⊢;obtain⟨a,vs,e,ha,hs⟩:=h;exact⟨a,vs,e,k.tup hD ha,ai.kp h0 hD k hs⟩
 | .bool _,v,h=>h
 | .dict _,v,h=>h
theorem ai.kp {D:Addr}{o:HO}{xs:List V}(h0:H0 D=some o)(hD:H D=some (.lst xs))(k:Kp K D H H'):∀{ds:List PyData}{vs:List V},ai K H0 H ds vs->ai K H0 H' ds vs
 | [],vs,h=>h
 | d::ds,vs,h=>by
   unfold ai at h ⊢;obtain⟨v,r,e,h1,h2⟩:=h;exact⟨v,r,e,aL.kp h0 hD k h1,ai.kp h0 hD k h2⟩
end
mutual
theorem aL.is:∀{d:PyData}{v:V},aL K H0 H d v->Is K H d v
 | .none,v,h=>by unfold aL at h;unfold Is;exact h
 | .int i,v,h=>by unfold aL at h;unfold Is;exact h
 | .str s,v,h=>by unfold aL at h;unfold Is;exact h
 | .list ds,v,h=>by
   unfold aL at h;unfold Is;obtain⟨a,vs,e,n,ha,hs⟩:=h;exact⟨a,vs,e,aQ.of ha,ai.is hs⟩
 | .tuple ds,v,h=>by
   unfold aL at h;unfold Is;obtain⟨a,vs,e,ha,hs⟩:=h;exact⟨a,vs,e,jF ha,ai.is hs⟩
 | .bool _,v,h=>by unfold aL at h;exact h.elim
 | .dict _,v,h=>by unfold aL at h;exact h.elim
theorem ai.is:∀{ds:List PyData}{vs:List V},ai K H0 H ds vs->dD K H ds vs
 | [],vs,h=>by unfold ai at h;unfold dD;exact h
 | d::ds,vs,h=>by
   unfold ai at h;unfold dD;obtain⟨v,r,e,h1,h2⟩:=h;exact⟨v,r,e,aL.is h1,ai.is h2⟩
end
theorem ai.nil:ai K H0 H [] []:=by unfold ai;rfl
theorem ai.cons {d:PyData}{ds:List PyData}{v:V}(h:aL K H0 H d v)(g:ai K H0 H ds vs):ai K H0 H (d::ds) (v::vs):=by
 unfold ai;exact⟨v,vs,rfl,h,g⟩
theorem ai.snoc:∀{ds:List PyData}{vs:List V}{d:PyData}{v:V},ai K H0 H ds vs->aL K H0 H d v->ai K H0 H (ds++[d]) (vs++[v])
 | [],vs,d,v,h,g=>by
   unfold ai at h;subst h;exact .cons g .nil
 | e::ds,vs,d,v,h,g=>by
   unfold ai at h;obtain⟨w,r,rfl,h1,h2⟩:=h;exact .cons h1 (ai.snoc h2 g)
theorem ai.len:∀{ds:List PyData}{vs:List V},ai K H0 H ds vs->vs.length=ds.length
 | [],vs,h=>by unfold ai at h;subst h;rfl
 | e::ds,vs,h=>by
   unfold ai at h;obtain⟨w,r,rfl,h1,h2⟩:=h;rw[List.length_cons,List.length_cons,ai.len h2]
theorem ai.get:∀{ds:List PyData}{vs:List V}{i:Nat}{v:V},ai K H0 H ds vs->vs[i]?=some v->∃d,ds[i]?=some d/\aL K H0 H d v
 | [],vs,i,v,h,e=>by unfold ai at h;subst h;cases e
 | d::ds,vs,i,v,h,e=>by
   unfold ai at h;obtain⟨w,r,rfl,h1,h2⟩:=h;cases i with
   | zero=>cases e;exact⟨d,rfl,h1⟩
   | succ i=>
     obtain⟨d',e',h'⟩:=ai.get (i:=i) h2 (by simpa using e);exact⟨d',by simpa using e',h'⟩
theorem aL.nn {v:V}:aL K H0 H .none v↔v=.bS:=by unfold aL;exact Iff.rfl
theorem aL.ii {v:V}:aL K H0 H (.int i) v↔v=.int i:=by unfold aL;exact Iff.rfl
theorem aL.ss {v:V}:aL K H0 H (.str x) v↔v=.str x:=by unfold aL;exact Iff.rfl
theorem aL.tt {v:V}{ds:List PyData}:aL K H0 H (.tuple ds) v↔∃a vs,v=.ref a/\tupQ K H a=some vs/\ai K H0 H ds vs:=by
 conv=>lhs;unfold aL
theorem aL.ll {v:V}{ds:List PyData}:aL K H0 H (.list ds) v↔∃a vs,v=.ref a/\new K H0 a/\H a=some (.lst vs)/\ai K H0 H ds vs:=by
 conv=>lhs;unfold aL
theorem ai.nn :ai K H0 H [] vs↔vs=[]:=by unfold ai;exact Iff.rfl
theorem ai.cc {d:PyData}{ds:List PyData}:ai K H0 H (d::ds) vs↔∃v r,vs=v::r/\aL K H0 H d v/\ai K H0 H ds r:=by
 conv=>lhs;unfold ai
def uG:Option Int->PyData
 | none=>.none
 | some i=>.int i
theorem aL.oo {v:V}:aL K H0 H (uG o) v↔v=on o:=by cases o <;> unfold uG aL on <;> exact Iff.rfl
end
def rising:List Int->Bool
 | a::b::r=>decide (a < b)&&rising (b::r)
 | _=>true
theorem xj:∀ns:List Int,(List.zipWith (λa b:Int=>decide (a < b)) ns (ns.drop 1)).all id=rising ns
 | []=>rfl
 | [_]=>rfl
 | a::b::r=>by
   have:=xj (b::r);unfold rising;rw[<- this];rfl
abbrev lq:=Int×Option Int
def fN (p:lq):PyData:=.tuple [.int p.1,uG p.2]
def fF (r:Int×List lq):PyData:=.tuple [.int r.1,.list (r.2.map fN)]
def Kz:Option bR->PyData
 | none=>.none
 | some h=>h.hd
structure RN where
 n:Option Int
 lo:Option Int
 hi:Option Int
 a:Option bR
 b:Option bR
def RN.d (r:RN):PyData:=.tuple [uG r.n,uG r.lo,uG r.hi,.tuple [Kz r.a,Kz r.b]]
def R9 (ws:List Str):Option bR->Bool
 | none=>false
 | some .gone=>true
 | some (.plus _)=>decide (Str.ofString "plus"∈ws)
 | some (.is _)=>decide (Str.ofString "is"∈ws)
def PI:List Str:=[Str.ofString "plus",Str.ofString "is"]
def KA (a b:Option Int):Bool:=wO 0 1000000000000 a&&wO 0 1000000000000 b&&(match a,b with | some x,some y=>decide (x < y) | _,_=>false)
def UX (a b:Option Int):Bool:=match a,b with
 | some x,some y=>decide (y - x=1)
 | _,_=>false
def FL:Option bR->Bool
 | some .gone=>true
 | _=>false
def xq (r:RN):Bool:=fO 1 r.n&&KA r.lo r.hi&&(R9 PI r.a&&R9 [Str.ofString "is"] r.b)&&(UX r.lo r.hi||FL r.b)
def A9 (ps:List lq):Bool:=!ps.isEmpty&&ps.all (λp=>decide (0<=p.1))&&rising (ps.map (·.1))
def HZ (r:Int×List lq):Bool:=decide (0<=r.1/\r.1<=999999999999)&&A9 r.2
def xu (rs:List (Int×List lq)):Bool:=rs.all HZ&&rising (rs.map (·.1))
theorem Qk {K:Frag}{c:Addr}{L:List α}{f:α->V}{g:α->PyData}{rest:St}(hk:aQ K H c (L.map f))(nD:new K H D)(hz:L.length<=16000000)
   (elt:∀q∈L,∀H' (Q:VK),Ext K H H'->(∀v H'',Ext K H' H''->aL K H' H'' (g q) v->Q v H'')->te (some (f q)::rest) H' Q)
   (fin:∀vs H',H' D=some (.lst vs)->ai K H H' (L.map g) vs->Ext K H H'->Q H'):b7 (ug K c) (bI 0) pI te D Q (v0::rest) 'l':=by
 refine fQ (xs:=L.map f) (λi acc σ' H'=>∃(v0:Option V),σ'=v0::rest/\H' D=some (.lst acc)/\ai K 'l' H' ((L.take i).map g) acc/\Kp K D 'l' H') ?_ ?_ ?_ ?_
 . exact⟨_,rfl,af,.nil,Kp.refl⟩
 . rintro i acc σ' H' _ ⟨v0,rfl,hD,_,k⟩;exact(k.ext nD).same.seq hk
 . rintro i x acc σ' H' hx ⟨v0,rfl,hD,ha,k⟩;rw[ax]at hx;obtain⟨q,ek,rfl⟩:=bp.mp hx;have hlen:acc.length<=16000000:=by rw[ha.len,ab,eC];omega
   unfold bI pI;refine WZ ?_;refine elt q (bb ek) H' _ (k.ext nD) λv H'' x'' hv=>?_;have kk:Kp K D H'' (upd H'' D (.lst (acc++[v]))):=Kp.upd (x''.at hD);have xo:∀a,new K H' a->new K 'l' a:=λa n=>by
     refine⟨?_,n.2⟩;cases z:upd H D (.lst []) a with
     | none=>rfl
     | some o=>
       by_cases e:a=D
       . have:=n.1;rw[e,hD]at this;cases this
       . have:=k.keep a o z e;rw[n.1]at this;cases this
   have hv2:aL K 'l' H'' (g q) v:=by
     have:=hv;exact aL.qx xo this
   refine⟨x''.at hD,eI hlen Y1,_,rfl,af,?_,k.trans (x''.kp.trans kk)⟩;rw[List.take_add_one,ek,fi,bj];exact ai.kp af (x''.at hD) kk (ai.snoc (ha.ext x'') hv2)
 . rintro acc σ' H' ⟨v0,rfl,hD,ha,k⟩;rw[ab,dv]at ha;exact fin acc H' hD (ha.old (Ext.new nD)) (k.ext nD)
section
variable {K:Frag}
theorem Ba {o:Option bR}{v:V}(h:aL K H0 H (Kz o) v):(o=none/\v=.bS)∨∃x a,o=some x/\v=.ref a/\tupQ K H a=some x.v:=by
 cases o with
 | none=>exact .inl ⟨rfl,aL.nn.mp h⟩
 | some x=>
   right
   cases x <;> (unfold Kz bR.hd at h;simp only[aL.tt,ai.cc,ai.nn,aL.ss,aL.ii]at h)
   . obtain⟨a,vs,rfl,ha,v1,r1,rfl,rfl,v2,r2,rfl,rfl,rfl⟩:=h;exact⟨_,a,rfl,rfl,ha⟩
   . obtain⟨a,vs,rfl,ha,v1,r1,rfl,rfl,v2,r2,rfl,rfl,rfl⟩:=h;exact⟨_,a,rfl,rfl,ha⟩
   . obtain⟨a,vs,rfl,ha,v1,r1,rfl,rfl,rfl⟩:=h;exact⟨_,a,rfl,rfl,ha⟩
theorem rT {p:lq}{v:V}(h:aL K H0 H (fN p) v):∃a,v=.ref a/\tupQ K H a=some [.int p.1,on p.2]:=by
 unfold fN at h;simp only[aL.tt,ai.cc,ai.nn,aL.oo,aL.ii]at h;obtain⟨a,vs,rfl,ha,v1,r1,rfl,rfl,v2,r2,rfl,rfl,rfl⟩:=h;exact⟨a,rfl,ha⟩
theorem lA {r:Int×List lq}{v:V}(h:aL K H0 H (fF r) v):∃a D vs,v=.ref a/\tupQ K H a=some [.int r.1,.ref D]/\H D=some (.lst vs)/\ai K H0 H (r.2.map fN) vs:=by
 unfold fF at h;simp only[aL.tt,ai.cc,ai.nn,aL.ll,aL.ii]at h;obtain⟨a,vs,rfl,ha,v1,r1,rfl,rfl,v2,r2,rfl,⟨D,ws,rfl,n,hD,hw⟩,rfl⟩:=h;exact⟨a,D,ws,rfl,ha,hD,hw⟩
theorem NG {r:RN}{v:V}(h:aL K H0 H r.d v):∃a b u1 u2,v=.ref a/\tupQ K H a=some [on r.n,on r.lo,on r.hi,.ref b]/\tupQ K H b=some [u1,u2]/\aL K H0 H (Kz r.a) u1/\aL K H0 H (Kz r.b) u2:=by
 unfold RN.d at h;simp only[aL.tt,ai.cc,ai.nn,aL.oo]at h;obtain⟨a,vs,rfl,ha,v1,r1,rfl,rfl,v2,r2,rfl,rfl,v3,r3,rfl,rfl,v4,r4,rfl,⟨b,ws,rfl,hb,u1,s1,rfl,h1,u2,s2,rfl,h2,rfl⟩,rfl⟩:=h;exact⟨a,b,u1,u2,rfl,ha,hb,h1,h2⟩
theorem ai.zip {α:Type}{d:α->PyData}:∀{ps:List α}{vs:List V},ai K H0 H (ps.map d) vs->∃L:List (V×α),vs=L.map (·.1)/\ps=L.map (·.2)/\∀q∈L,aL K H0 H (d q.2) q.1
 | [],vs,h=>⟨[],ai.nn.mp h,rfl,λ_ h=>nomatch h⟩
 | p::ps,vs,h=>by
   obtain⟨v,r,rfl,h1,h2⟩:=ai.cc.mp h;obtain⟨L,rfl,rfl,hL⟩:=ai.zip h2;refine⟨(v,p)::L,rfl,rfl,λq hq=>?_⟩;rcases List.mem_cons.mp hq with rfl | hq
   . exact h1
   . exact hL q hq
def LstAt (K:Frag)(H0 H:Hp)(d:α->PyData):Option (List α)->V->Prop
 | none,v=>v=.bS
 | some l,v=>∃D us,v=.ref D/\new K H0 D/\H D=some (.lst us)/\ai K H0 H (l.map d) us
theorem LstAt.ext {d:α->PyData}{o:Option (List α)}{v:V}(x:Ext K H H')(h:LstAt K H0 H d o v):LstAt K H0 H' d o v:=by
 cases o with
 | none=>exact h
 | some l=>
   obtain⟨D,us,e,n,hD,hu⟩:=h;exact⟨D,us,e,n,x.at hD,hu.ext x⟩
theorem ai.ints:∀{ns:List Int}{us:List V},ai K H0 H (ns.map PyData.int) us->us=ns.map V.int
 | [],us,h=>ai.nn.mp h
 | n::ns,us,h=>by
   obtain⟨v,r,rfl,h1,h2⟩:=ai.cc.mp h;rw[aL.ii.mp h1,ai.ints h2];rfl
end
def Yp:Option (List (Int×List lq))->Bool
 | none=>false
 | some l=>xu l
def FN:Option (List RN)->Bool
 | none=>false
 | some l=>l.all xq
def UY (o:Option (List α)):Prop:=∀l,o=some l->l.length<=1000000
theorem all_true (m:Nat):(List.replicate m true).all id=true:=by
 rw[eP];intro x hx;rw[(List.mem_replicate.1 hx).2];rfl
theorem all_map (L:List α):L.map (λ_=>V.bl true)=(List.replicate L.length true).map V.bl:=by
 rw[List.map_const',List.map_replicate]
def FO:Sp:=λvs H Q _=>∃o,vs=[on o]/\Q (.bl (wO 0 999999999999 o)) H
include B in
theorem KC (F:bT K "is_key" "is_key" De f fd)(bP:⋯ "is_whole" 2 ["thing","low","high"] nK):(!0) 3 f fd ["thing"] FO:=by
 exists 0,["thing"]
 obtain⟨o,rfl,q⟩:=h;refine⟨_,(aE (aR (ec bP hr (aa bg (aa ei (aa (cB (mA gK) (jb rfl B.Yl B.xh) ei) ah)))))),?_⟩
 ext
 exact⟨o,_,_,rfl,q⟩
def NH:Sp:=λvs H Q _=>∃a b,vs=[on a,on b]/\Q (.bl (KA a b)) H
include B in
theorem yF (F:bT K "is_stretch" "is_stretch" rK f fd)(bP:⋯ "is_whole" 2 ["thing","low","high"] nK):(!0) 3 f fd ["low","high"] NH:=by
 exists 0,["low","high"]
 obtain⟨a,b,rfl,q⟩:=h;refine⟨_,(aE (aR (fM (ec bP hr (aa bg (aa ei (aa (jb rfl B.Yl B.xh) ah)))) (fM (ec bP hr (aa cF (aa ei (aa (jb rfl B.Yl B.xh) ah)))) (iC (fS (mA i9) bg cF (aH _))))))),?_⟩
 ext
 unfold KA at q;refine⟨a,_,_,rfl,_,rfl,?_⟩;cases c1:wO 0 1000000000000 a
 . rw[c1]at q;exact aK Y1 q
 refine bw rfl ⟨b,_,_,rfl,_,rfl,?_⟩;cases c2:wO 0 1000000000000 b
 . rw[c1,c2]at q;exact aK Y1 q
 rw[c1,c2]at q;cases a with
 | none=>cases c1
 | some x=>
   cases b with
   | none=>cases c2
   | some y=>exact bw rfl ⟨x,rfl,y,rfl,q⟩
inductive Ia (K:Frag)(vs:List V)(H:Hp)(Q:VK)(E9:XK):Prop
 | mk (v W o ws H0:_) (_:vs=[v,.ref W]) (_:aL K H0 H (Kz o) v) (_:tupQ K H W=some (List.map V.str ws)) (_:R9 ws o=true) (_:∀H',Ext K H H'->Q (.bl true) H')
theorem Dj (x:Str):∀ws:List Str,EG (.str x) (ws.map V.str)=decide (x∈ws)
 | []=>rfl
 | y::ws=>by
   have ih:=Dj x ws;unfold EG at ih ⊢;rw[List.map_cons,List.any_cons,ih,pz];simp only[Bool.or_eq_true,Iy,List.mem_cons,Ra,SU];exact⟨λh=>h.imp_left Eq.symm,λh=>h.imp_left Eq.symm⟩
theorem KD (ws:List Str):(ws.map V.str).all l9=true:=by rw[rf];exact eP.mpr λ_ _=>rfl
include B in
theorem FP (F:bT K "is_half" "is_half" Ag f fd)(aU:⋯ "is_number" 1 ["thing"] lg):(!0) 2 f fd ["thing","words"] (Ia K):=by
 exists 0,["thing","words"]
 obtain⟨v,W,o,ws,H0,rfl,hv,hW,ho,q⟩:=h;refine⟨_,(ao (iV (tw (sH (fj (Ec (ef (jm (B3 B.isinstance bg (mG rfl B.tuple iB)))))) (sH (cM (cz (om zE) (jm (tN B.len bg)) (jm (mK (aa ei (aa ei ah)))) aab)) (jc (fj (Ec (ef (jm (B3 B.isinstance (iq bg) (mG rfl B.str EO)))))))))) (aE (aR uP)) cD) (ao (iV (cM (cz (om fL) (jm (tN B.len bg)) (jm ei) (aH _))) (aE (aR (fS fL (iq bg) dM (aH _)))) cD) (aE (aR (FD (fM (jm (fS EV (iq bg) cF aab)) (iC (ec aU hr (aa (iq bg) ah))))))))),?_⟩
 ext
 rcases Ba hv with ⟨rfl,rfl⟩ | ⟨x,a,rfl,rfl,ha⟩
 . cases ho
 refine⟨_,.tup ha,true,rfl,aK Y1 ⟨a,rfl,_,aZ ha,λb nb=>⟨rfl,rfl,?_⟩⟩⟩;have xb:=bM (.tup [V.int 1,V.int 2]) nb;have VE:=xb.tup hW;have Sb:=xb.tup ha;generalize upd H b (.tup [V.int 1,V.int 2])=G at xb VE Sb ⊢;have qb:=q _ xb;clear q;cases x
 case gone=>exact aK Y1 ⟨a,rfl,_,aZ Sb,_,rfl,_,.inl (.str _),true,rfl,aK Y1 ⟨a,rfl,_,aZ Sb,bw rfl ⟨a,rfl,_,aZ Sb,_,rfl,rfl,qb⟩⟩⟩
 all_goals exact aK (by show ¬ ((!EG (V.int 2) [V.int 1,V.int 2])=true);decide) ⟨a,rfl,_,aZ Sb,_,rfl,_,.inl (.str _),true,rfl,aK Y1 ⟨a,rfl,_,aZ Sb,aK (by show ¬ ((2:Int)=1);decide) ⟨a,rfl,_,aZ Sb,_,rfl,_,aZ VE,rfl,KD ws,bw ((Dj _ ws).trans ho) ⟨a,rfl,_,aZ Sb,_,rfl,some _,rfl,qb⟩⟩⟩⟩
inductive NI (K:Frag)(vs:List V)(H:Hp)(Q:VK)(E9:XK):Prop
 | mk (a u1 u2 x y H0:_) (_:vs=[.ref a]) (_:tupQ K H a=some [u1,u2]) (_:aL K H0 H (Kz x) u1) (_:aL K H0 H (Kz y) u2) (_:R9 PI x=true) (_:R9 [Str.ofString "is"] y=true) (_:∀H',Ext K H H'->Q (.bl true) H')
include B in
theorem Bb (F:bT K "is_action" "is_action" uy f fd)(o6:⋯ "is_half" 2 ["thing","words"] (Ia K)):(!0) 3 f fd ["thing"] (NI K):=by
 exists 0,["thing","there","none"]
 obtain⟨a,u1,u2,x,y,H0,rfl,ha,h1,h2,hx,hy,q⟩:=h;refine⟨_,(ao 'f' (ao (iW bg (kX (dF (n:=2) rfl (aA (gn 1 nk) (aA (gn 2 nk) dN))))) (aE (aR (fM (ec o6 hr (aa cF (aa (mK (aa dM (aa dM ah))) ah))) (iC (ec o6 hr (aa eB (aa (mK (aa dM ah)) ah))))))))),?_⟩
 ext
 refine⟨_,.tup ha,true,rfl,aK Y1 ⟨_,aZ ha,aK Y2 ⟨_,ha,rfl,_,_,rfl,_,_,rfl,rfl,λp np=>?_⟩⟩⟩;have xp:=bM (.tup [V.str (Str.ofString "plus"),V.str (Str.ofString "is")]) np;refine⟨u1,p,x,PI,H0,rfl,h1.ext xp,aF,hx,λH1 x1=>⟨_,rfl,bw rfl λp2 np2=>?_⟩⟩;have xx:=(xp.trans x1).trans (bM (.tup [V.str (Str.ofString "is")]) np2);exact⟨u2,p2,y,[Str.ofString "is"],H0,rfl,h2.ext xx,aF,hy,λH2 x2=>q _ (xx.trans x2)⟩
inductive Ib (K:Frag)(vs:List V)(H:Hp)(Q:VK)(E9:XK):Prop
 | mk (v r H0:_) (_:vs=[v]) (_:aL K H0 H (RN.d r) v) (_:xq r=true) (_:∀H',Ext K H H'->Q (.bl true) H')
theorem jh:eU ["thing","number","low","high","action"] ["thing"] (aN tQ):=Yk
include B in
theorem FQ (F:bT K "is_note" "is_note" tQ f fd)(bD:⋯ "is_whole_from" 2 ["thing","low"] vg)(lB:⋯ "is_stretch" 3 ["low","high"] NH)(nO:⋯ "is_action" 3 ["thing"] (NI K)):(!0) 4 f fd ["thing"] (Ib K):=by
 refine F.okB jh λeW A outer s H vs Q E hr hm h=>?_;obtain⟨v,r,H0,rfl,hv,no,q⟩:=h;obtain⟨a,b,u1,u2,rfl,ha,hb,h1,h2⟩:=NG hv;refine⟨_,(ao 'f' (ao (iW bg (kX (dF (n:=4) rfl (aA (gn 1 jh.nd) (aA (gn 2 jh.nd) (aA (gn 3 jh.nd) (aA (gn 4 jh.nd) dN))))))) (ao (iV (tw (sH (fj (ef (ec bD hr (aa cF (aa ei ah))))) (sH (fj (ef (ec lB hr (aa eB (aa gC ah))))) (jc (fj (ef (ec nO hr (aa jA ah)))))))) (aE (aR uP)) cD) (aE (aR (orM (eor (jm (fS fL (cB (mA gK) gC eB) ei (aH _))) (iC (fS (Mh hr.units) (iq jA) (jb rfl B.Yn B.HW) (aH _)))))))))),?_⟩
 ext
 unfold xq at no;simp only[cp]at no;obtain⟨⟨⟨c1,c2⟩,c3,c4⟩,c5⟩:=no;refine⟨_,.tup ha,true,rfl,aK Y1 ⟨_,aZ ha,aK Y2 ⟨_,ha,rfl,_,_,rfl,_,_,rfl,_,_,rfl,_,_,rfl,rfl,r.n,1,rfl,true,congrArg V.bl c1,aK Y1 ⟨r.lo,r.hi,rfl,true,congrArg V.bl c2,aK Y1 ⟨b,u1,u2,r.a,r.b,H0,rfl,hb,h1,h2,c3,c4,λH1 x1=>⟨_,rfl,aK Y1 ?_⟩⟩⟩⟩⟩⟩;have q1:=q _ x1;have h3:=h2.ext x1;have hb1:=x1.tup hb;have mf:=x1.tup (hm.tup B.kG);clear q hm h1 h2 hv ha hb;obtain⟨rn,rlo,rhi,ra,rb⟩:=r;dsimp only at c2 c4 c5 h3 ⊢;cases rlo with
 | none=>cases c2
 | some lo=>
   cases rhi with
   | none=>unfold KA at c2;simp[wO]at c2
   | some hi=>
     refine⟨hi,rfl,lo,rfl,jP (λc=>q1) (λc=>?_)⟩;rw[show UX (some lo) (some hi)=false from Kk c]at c5;rcases Ba h3 with ⟨rfl,rfl⟩ | ⟨x,a',rfl,rfl,ha'⟩
     . cases c4
     . refine⟨_,rfl,_,aZ hb1,_,rfl,x.hd,bR.HY ha',bR.gone.hd,bR.HY (h:=.gone) mf,x.shaped,bR.shaped .gone,?_⟩;rw[bR.Di];cases x <;> first | exact q1 | cases c5
inductive Dk (K:Frag)(vs:List V)(H:Hp)(Q:VK)(E9:XK):Prop
 | mk (D ns:_) (_:vs=[.ref D]) (_:aQ K H D (List.map V.int ns)) (_:ns.length<=1000000) (_:∀H',Ext K H H'->Q (.bl (rising ns)) H')
include B in
theorem Bc (F:bT K "is_rising" "is_rising" uA f fd):(!0) 1 f fd ["numbers"] (Dk K):=by
 exists 0,["numbers"]
 obtain⟨D,ns,rfl,hD,hl,q⟩:=h;refine⟨_,(aE (aR (bL (Ko (cK rfl)) rfl B.all gO (aa (pP (ck [ "one","other" ] [none,none]) rfl (R4 rfl B.zip (aa bg (aa (vS m7 bg (zB ei) GO) ah))) (λ_ _ _ _=>(kX (iK K (n:=2) rfl (aA (gn 0 nk) (aA (gn 1 nk) dN))))) 'v' (λ_ _ _ _=>(fS (mA i9) bg cF (aH _)))) ah)))),?_⟩
 ext
 refine⟨_,hD,λS nS=>⟨⟨_,(Ext.new nS).same.seq hD⟩,⟨_,aQ.of af⟩,λD1 n1=>?_⟩⟩;have eS:ql (ns.map V.int) (some 1) none=(ns.drop 1).map V.int:=by rw[show ql (ns.map V.int) (some 1) none=(ns.map V.int).drop 1 from sZ _ 1,Bn]
 rw[eS]at n1 ⊢;have xS:=bM (.lst ((ns.drop 1).map V.int)) (by exact nS);refine P4 (n:=ns.length - 1) (xs:=ns.map V.int) (ys:=(ns.drop 1).map V.int) (λi acc σ' H'=>∃v0 v1:Option V,σ'=[v0,v1]/\acc=((List.zipWith (λa b:Int=>decide (a < b)) ns (ns.drop 1)).take i).map V.bl/\H' D1=some (.lst acc)/\Kp K D1 (upd (upd H S (.lst ((ns.drop 1).map V.int))) D1 (.lst [])) H') Y2 Y2 Y2 ⟨_,_,rfl,rfl,af,Kp.refl⟩ ?_ ?_ ?_
 . rintro i acc σ' H' _ ⟨_,_,rfl,rfl,qv,k⟩;exact⟨(k.ext n1).same.seq (xS.same.seq hD),aQ.of ((k.ext n1).at af)⟩
 . rintro i x y acc σ' H' T hx hy ⟨_,_,rfl,rfl,qv,k⟩ nT;rw[ax]at hx hy;obtain⟨a,ea,rfl⟩:=bp.mp hx;obtain⟨b,eb,rfl⟩:=bp.mp hy
   ext
   have xT:=bM (.tup [V.int a,V.int b]) nT;have hi:i < ns.length:=(bo.mp ea).1;refine⟨xT.at qv,by rw[ab,eC];have:=NA;omega,?_,k.trans (xT.kp.trans (Kp.upd (xT.at qv)))⟩;rw[List.take_add_one,bj,List.getElem?_zipWith,ea,eb];rfl
 . rintro acc σ' H' ⟨_,_,rfl,rfl,qv,k⟩;refine⟨_,aQ.of qv,?_⟩;have:=q _ ((xS.trans (k.ext n1)));rw[<- xj]at this;rw[pE Y2];exact this
def UZ (K:Frag):Sp:=λvs H Q _=>∃v,vs=[v]/\((v=.bS/\Q (.bl false) H)∨∃D ns,v=.ref D/\H D=some (.lst (List.map V.int ns))/\ns.length<=1000000/\∀H',Ext K H H'->Q (.bl true) H')
include B in
theorem yH (F:bT K "are_wholes" "are_wholes" rM f fd)(aU:⋯ "is_number" 1 ["thing"] lg):(!0) 2 f fd ["thing"] (UZ K):=by
 exists 0,["thing"]
 obtain⟨v,rfl,h⟩:=h;refine⟨_,(aE (aR (FD (fM (jm (B3 B.isinstance bg (mG rfl B.list cA))) (iC (bL (Ko (cK rfl)) rfl B.all gO (aa (pP (ck [ "part" ] [none]) rfl (kO (bU cN)) 'j' 'v' (λ_ _ _ _=>(ec aU hr (aa bg ah)))) ah))))))),?_⟩
 ext
 rcases h with ⟨rfl,q⟩ | ⟨D,ns,rfl,hD,hl,q⟩
 . exact⟨_,.inl .bS,false,rfl,aK Y1 q⟩
 refine⟨_,.inl (.lst hD),true,rfl,bw rfl ⟨D,rfl,⟨_,aQ.of hD⟩,λD1 n1=>gH (f:=V.int) (g:=λ_=>V.bl true) (aQ.of hD) n1 X2 (λi hi H' Q' xx qq=>?_) (λH1 h1 x1=>?_)⟩⟩
 . ext
   exact⟨some i,rfl,qq _ Ext.refl⟩
 refine⟨ns.map λ_=>true,aQ.of (by rw[h1,dq];rfl),?_⟩;rw[show(ns.map λ_=>true).all id=true from by rw[eP];intro b hb;obtain⟨_,_,rfl⟩:=fg.mp hb;rfl];exact q _ x1
inductive NJ (K:Frag)(vs:List V)(H:Hp)(Q:VK)(E9:XK):Prop
 | mk (v p H0:_) (_:vs=[v]) (_:aL K H0 H (fN p) v) (_:0<=p.1) (_:Q (.bl true) H)
include B in
theorem yJ (F:bT K "is_version" "is_version" rN f fd)(aU:⋯ "is_number" 1 ["thing"] lg)(bD:⋯ "is_whole_from" 2 ["thing","low"] vg):(!0) 3 f fd ["thing"] (NJ K):=by
 exists 0,["thing","number","value"]
 obtain⟨v,p,H0,rfl,hv,hp,q⟩:=h;obtain⟨a,rfl,ha⟩:=rT hv;refine⟨_,(ao 'f' (ao (iW bg (kX (dF (n:=2) rfl (aA (gn 1 nk) (aA (gn 2 nk) dN))))) (aE (aR (fM (ec bD hr (aa cF (aa ei ah))) (iC (orM (eor (jm (fS mV eB jQ (aH _))) (iC (ec aU hr (aa eB ah))))))))))),?_⟩
 ext
 refine⟨_,.tup ha,true,rfl,aK Y1 ⟨_,aZ ha,aK Y2 ⟨_,ha,rfl,_,_,rfl,_,_,rfl,rfl,some p.1,0,rfl,true,congrArg V.bl (Hm hp),bw rfl ?_⟩⟩⟩;obtain⟨n,o⟩:=p;cases o with
 | none=>exact bw rfl q
 | some i=>exact aK (by simp[on]) ⟨some i,rfl,q⟩
theorem NK {K:Frag}{c:Addr}{L:List (V×α)}{k:α->Int}{u:α->V}(hk:aQ K H c (L.map (·.1)))(hL:∀q∈L,∃a,q.1=.ref a/\tupQ K H a=some [.int (k q.2),u q.2])(nD:new K H D)(hz:L.length<=16000000)
   (fin:∀H',H' D=some (.lst ((L.map λq=>k q.2).map V.int))->Ext K H H'->Q H'):b7 (ug K c) (pS K 2 (iy (bI 0) (iy (bI 1) vB))) pI (vM 0) D Q [v0,v1] 'l':=by
 refine fQ (xs:=L.map (·.1)) (λi acc σ' H'=>∃(v0 v1:Option V),σ'=[v0,v1]/\H' D=some (.lst acc)/\acc=((L.take i).map λq=>k q.2).map V.int/\Kp K D 'l' H') ⟨_,_,rfl,af,rfl,Kp.refl⟩ ?_ ?_ ?_
 . rintro i acc σ' H' _ ⟨v0,v1,rfl,hD,rfl,k⟩;exact(k.ext nD).same.seq hk
 . rintro i x acc σ' H' hx ⟨v0,v1,rfl,hD,rfl,kk⟩;rw[ax]at hx;obtain⟨q,ek,rfl⟩:=bp.mp hx;obtain⟨a,ea,ha⟩:=hL q (bb ek);rw[ea];have ha':=(kk.ext nD).tup ha;have hlen:(((L.take i).map λq=>k q.2).map V.int).length<=16000000:=by rw[ab,ab,eC];omega
   simp_arith [ha'];refine⟨hD,eI hlen Y1,?_,kk.trans (Kp.upd hD)⟩;rw[List.take_add_one,ek,fi,bj,bj];rfl
 . rintro acc σ' H' ⟨v0,v1,rfl,hD,rfl,k⟩;rw[ab,dv]at hD;exact fin H' hD (k.ext nD)
inductive Ic (K:Frag)(vs:List V)(H:Hp)(Q:VK)(E9:XK):Prop
 | mk (D us ps H0:_) (_:vs=[.ref D]) (_:H D=some (.lst us)) (_:ai K H0 H (List.map fN ps) us) (_:ps.length<=1000000) (_:A9 ps=true) (_:∀H',Ext K H H'->Q (.bl true) H')
include B in
theorem uS (F:bT K "are_versions" "are_versions" nF f fd)(lE:⋯ "is_version" 3 ["thing"] (NJ K))(bX:⋯ "is_rising" 1 ["numbers"] (Dk K)):(!0) 4 f fd ["thing"] (Ic K):=by
 exists 0,["thing"]
 obtain⟨D,us,ps,H0,rfl,hD,hu,hl,ho,q⟩:=h;obtain⟨L,rfl,rfl,hL⟩:=hu.zip;refine⟨_,(ao (iV (tw (sH (fj (Ec (ef (jm (B3 B.isinstance bg (mG rfl B.list cA)))))) (sH (cM (cz (om fL) (jm (tN B.len bg)) (jm ei) (aH _))) (jc (fj (Ec (ef (jm (bL (Ko (cK rfl)) rfl B.all gO (aa (pP (ck [ "part" ] [none]) rfl (kO (bU cN)) 'j' 'v' (λ_ _ _ _=>(ec lE hr (aa bg ah)))) ah)))))))))) (aE (aR uP)) cD) (aE (aR (ec bX hr (aa (pP (ck [ "number","value" ] [none,none]) rfl (kO (bU cN)) (λ_ _ _ _=>(kX (iK K (n:=2) rfl (aA (gn 0 nk) (aA (gn 1 nk) dN))))) 'v' (λ_ _ _ _=>bg)) ah))))),?_⟩;simp_arith [↓OG hD];have hl:L.length<=1000000:=by simpa using hl
 unfold A9 at ho;simp only[cp,dq,rf]at ho;obtain⟨⟨c1,c2⟩,c3⟩:=ho;refine⟨_,.inl (.lst hD),true,rfl,aK Y1 (aK (λc=>?_) ⟨⟨_,aQ.of hD⟩,λD1 n1=>gH (L:=L) (f:=λq=>q.1) (g:=λ_=>V.bl true) (aQ.of hD) n1 X2 (λq hq H' Q' xx qq=>?_) (λH1 h1 x1=>?_)⟩)⟩
 . rw[List.eq_nil_of_length_eq_zero (l:=L) (by simp at c;simpa using c)]at c1;cases c1
 . ext
   exact⟨q.1,q.2,H0,rfl,(hL q hq).ext xx,QR (eP.mp c2 q hq),qq _ Ext.refl⟩
 rw[all_map]at h1;refine⟨_,aQ.of h1,?_⟩;rw[all_true];exact aK Y1 ⟨⟨_,aQ.of (x1.at hD)⟩,λD2 n2=>NK (L:=L) (k:=λp=>p.1) (u:=λp=>on p.2) (aQ.of (x1.at hD)) (λq hq=>rT ((hL q hq).ext x1)) n2 X2 (λH2 h2 x2=>⟨D2,L.map λq=>q.2.1,rfl,aQ.of h2,by simpa using hl,λH3 x3=>by
   have:=q _ (x1.trans (x2.trans x3));rw[<- c3]at this;exact this⟩)⟩
inductive NL (K:Frag)(vs:List V)(H:Hp)(Q:VK)(E9:XK):Prop
 | mk (v r H0:_) (_:vs=[v]) (_:aL K H0 H (fF r) v) (_:r.2.length<=1000000) (_:HZ r=true) (_:∀H',Ext K H H'->Q (.bl true) H')
include B in
theorem KH (F:bT K "is_row" "is_row" Df f fd)(kj:⋯ "is_key" 3 ["thing"] FO)(ji:⋯ "are_versions" 4 ["thing"] (Ic K)):(!0) 5 f fd ["thing"] (NL K):=by
 exists 0,["thing"]
 obtain⟨v,r,H0,rfl,hv,hl,ho,q⟩:=h;obtain⟨a,D,us,rfl,ha,hD,hu⟩:=lA hv;refine⟨_,(aE (aR (FD (fM (jm (B3 B.isinstance bg (mG rfl B.tuple iB))) (FD (fM (jm (fS fL (tN B.len bg) ei (aH _))) (fM (ec kj hr (aa (iq bg) ah)) (iC (ec ji hr (aa (iq bg) ah)))))))))),?_⟩
 ext
 unfold HZ at ho;rw[cp]at ho;exact⟨_,.tup ha,true,rfl,bw rfl ⟨_,aZ ha,bw rfl ⟨_,aZ ha,_,rfl,some r.1,rfl,true,congrArg V.bl ho.1,bw rfl ⟨_,aZ ha,_,rfl,D,us,r.2,H0,rfl,hD,hu,hl,ho.2,q⟩⟩⟩⟩
inductive Ie (K:Frag)(vs:List V)(H:Hp)(Q:VK)(E9:XK):Prop
 | mk (D us rs H0:_) (_:vs=[.ref D]) (_:H D=some (.lst us)) (_:ai K H0 H (List.map fF rs) us) (_:rs.length<=1000000) (_:(∀r∈rs,r.2.length<=1000000)) (_:xu rs=true) (_:∀H',Ext K H H'->Q (.bl true) H')
include B in
theorem Dl (F:bT K "are_rows" "are_rows" wR f fd)(xw:⋯ "is_row" 5 ["thing"] (NL K))(bX:⋯ "is_rising" 1 ["numbers"] (Dk K)):(!0) 6 f fd ["thing"] (Ie K):=by
 exists 0,["thing"]
 obtain⟨D,us,rs,H0,rfl,hD,hu,hl,qN,ho,q⟩:=h;obtain⟨L,rfl,rfl,hL⟩:=hu.zip;refine⟨_,(ao (iV (tw (sH (fj (Ec (ef (jm (B3 B.isinstance bg (mG rfl B.list cA)))))) (jc (fj (Ec (ef (jm (bL (Ko (cK rfl)) rfl B.all gO (aa (pP (ck [ "part" ] [none]) rfl (kO (bU cN)) 'j' 'v' (λ_ _ _ _=>(ec xw hr (aa bg ah)))) ah))))))))) (aE (aR uP)) cD) (aE (aR (ec bX hr (aa (pP (ck [ "key","versions" ] [none,none]) rfl (kO (bU cN)) (λ_ _ _ _=>(kX (iK K (n:=2) rfl (aA (gn 0 nk) (aA (gn 1 nk) dN))))) 'v' (λ_ _ _ _=>bg)) ah))))),?_⟩
 ext
 have hl:L.length<=1000000:=by simpa using hl
 unfold xu at ho;simp only[cp,dq,rf]at ho;refine⟨_,.inl (.lst hD),true,rfl,aK Y1 ⟨⟨_,aQ.of hD⟩,λD1 n1=>gH (L:=L) (f:=λq=>q.1) (g:=λ_=>V.bl true) (aQ.of hD) n1 X2 (λq hq H' Q' xx qq=>?_) (λH1 h1 x1=>?_)⟩⟩
 . ext
   exact⟨q.1,q.2,H0,rfl,(hL q hq).ext xx,qN q.2 (cx hq),eP.mp ho.1 q hq,λH2 x2=>qq _ x2⟩
 rw[all_map]at h1;refine⟨_,aQ.of h1,?_⟩;rw[all_true];refine aK Y1 ⟨⟨_,aQ.of (x1.at hD)⟩,λD2 n2=>?_⟩;obtain⟨u,Ea⟩:∃u:V×(Int×List lq)->V,∀q∈L,∃a,q.1=.ref a/\tupQ K H1 a=some [.int q.2.1,u q]:=by
   have P:∀q:V×(Int×List lq),∃x:V,q∈L->∃a,q.1=.ref a/\tupQ K H1 a=some [.int q.2.1,x]:=λq=>by
     by_cases hq:q∈L
     . obtain⟨a,D',vs,e1,e2,_⟩:=lA ((hL q hq).ext x1);exact⟨.ref D',λ_=>⟨a,e1,e2⟩⟩
     . exact⟨.bS,λz=>absurd z hq⟩
   exact⟨λq=>(P q).choose,λq=>(P q).choose_spec⟩
 have eL:L.map (·.1)=(L.map λq=>(q.1,q)).map (·.1):=by rw[dq];rfl
 have lG:=x1.at hD;rw[eL]at lG;refine NK (L:=L.map λq=>(q.1,q)) (k:=λq=>q.2.1) (u:=u) (aQ.of lG) (λq hq=>?_) n2 aaa (λH2 h2 x2=>?_)
 . obtain⟨q',hq',rfl⟩:=fg.mp hq;exact Ea q' hq'
 refine⟨D2,L.map λq=>q.2.1,rfl,aQ.of (by rw[h2,dq (l:=L)];rfl),by simpa using hl,λH3 x3=>?_⟩;have:=q _ (x1.trans (x2.trans x3));rw[<- ho.2]at this;exact this
inductive Dm (K:Frag)(vs:List V)(H:Hp)(Q:VK)(E9:XK):Prop
 | mk (D us rs H0:_) (_:vs=[.ref D]) (_:H D=some (.lst us)) (_:ai K H0 H (List.map RN.d rs) us) (_:rs.length<=1000000) (_:rs.all xq=true) (_:∀H',Ext K H H'->Q (.bl true) H')
include B in
theorem Bd (F:bT K "are_notes" "are_notes" uB f fd)(tT:⋯ "is_note" 4 ["thing"] (Ib K)):(!0) 5 f fd ["thing"] (Dm K):=by
 exists 0,["thing"]
 obtain⟨D,us,rs,H0,rfl,hD,hu,hl,ho,q⟩:=h;obtain⟨L,rfl,rfl,hL⟩:=hu.zip;refine⟨_,(aE (aR (FD (fM (jm (B3 B.isinstance bg (mG rfl B.list cA))) (iC (bL (Ko (cK rfl)) rfl B.all gO (aa (pP (ck [ "part" ] [none]) rfl (kO (bU cN)) 'j' 'v' (λ_ _ _ _=>(ec tT hr (aa bg ah)))) ah))))))),?_⟩
 ext
 have hl:L.length<=1000000:=by simpa using hl
 rw[rf]at ho;refine⟨_,.inl (.lst hD),true,rfl,bw rfl ⟨⟨_,aQ.of hD⟩,λD1 n1=>gH (L:=L) (f:=λq=>q.1) (g:=λ_=>V.bl true) (aQ.of hD) n1 X2 (λq hq H' Q' xx qq=>?_) (λH1 h1 x1=>?_)⟩⟩
 . ext
   exact⟨q.1,q.2,H0,rfl,(hL q hq).ext xx,eP.mp ho q hq,λH2 x2=>qq _ x2⟩
 rw[all_map]at h1;refine⟨_,aQ.of h1,?_⟩;rw[all_true];exact q _ x1
inductive FT (K:Frag)(vs:List V)(H:Hp)(Q:VK)(E9:XK):Prop
 | mk (a u us x m:_) (_:vs=[.ref a,.str x,.int m]) (_:tupQ K H a=some (.str u::us)) (_:Q (.bl (decide ((us.length:Int) + 1=m)&&decide (u=x))) H)
include B in
theorem Dn (F:bT K "has_word" "has_word" wU f fd):(!0) 1 f fd ["thing","word","many"] (FT K):=by
 exists 0,["thing","word","many"]
 obtain⟨a,u,us,x,m,rfl,ha,q⟩:=h;refine⟨_,(ao (iV (tw (sH (fj (Ec (ef (jm (B3 B.isinstance bg (mG rfl B.tuple iB)))))) (jc (cM (cz (om qR) (jm (tN B.len bg)) Dd (aH _)))))) (aE (aR uP)) cD) (aE (aR (FD (fM (jm (B3 B.isinstance (iq bg) (mG rfl B.str EO))) (iC (fS fL (iq bg) cF (aH _)))))))),?_⟩;simp_arith [↓eqT ha,ha];refine⟨_,.tup ha,true,rfl,aK Y1 ?_⟩
 by_cases c:(us.length:Int) + 1=m
 . exact aK aaa ⟨_,.inl (.str _),true,rfl,bw rfl (by rw[Hm c]at q;exact q)⟩
 . exact bw aaa (by rw[Kk c]at q;exact q)
def Ig (K:Frag):Sp:=λvs H Q _=>(∃a us,vs=[.ref a]/\tupQ K H a=some (.str (Str.ofString "inner")::us)/\Q (.bl false) H)∨∃a o v rs H0,vs=[.ref a]/\tupQ K H a=some [.str (Str.ofString "leaf"),on o,v]/\LstAt K H0 H fF rs v/\UY rs/\(∀l,rs=some l->∀r∈l,r.2.length<=1000000)/\(o.isSome&&Yp rs)=true/\∀H',Ext K H H'->Q (.bl true) H'
theorem uT:eU ["thing"] ["thing"] (aN jg):=Yk
include B in
theorem uU (F:bT K "is_leaf_told" "is_leaf_told" jg f fd)(gU:⋯ "has_word" 1 ["thing","word","many"] (FT K))(aU:⋯ "is_number" 1 ["thing"] lg)(qy:⋯ "are_rows" 6 ["thing"] (Ie K)):(!0) 7 f fd ["thing"] (Ig K):=by
 refine F.okS uT (λvs H Q E h=>?_) (λeW A outer s H vs Q E hr h=>?_)
 . rcases h with ⟨a,us,rfl,_⟩ | ⟨a,o,v,rs,H0,rfl,_⟩ <;> rfl
 obtain⟨a,rfl⟩:∃a,vs=[.ref a]:=by rcases h with ⟨a,us,rfl,_⟩ | ⟨a,o,v,rs,H0,rfl,_⟩ <;> exact⟨_,rfl⟩
 refine⟨_,(aE (aR (fM (ec gU hr (aa bg (aa dM (aa ei ah)))) (fM (ec aU hr (aa (iq bg) ah)) (iC (ec qy hr (aa (iq bg) ah))))))),?_⟩
 ext
 rcases h with ⟨a,us,e,ha,q⟩ | ⟨a,o,v,rs,H0,e,ha,hv,lr,lv,ho,q⟩ <;> cases e
 . exact⟨a,_,_,_,_,rfl,ha,_,rfl,aK (by simp;exactλ_=>s5) q⟩
 rw[cp]at ho;cases rs with
 | none=>cases ho.2
 | some l=>
   obtain⟨D,us,rfl,n,hD,hu⟩:=hv;cases o with
   | none=>cases ho.1
   | some n=>exact⟨a,_,_,_,_,rfl,ha,_,rfl,bw Y2 ⟨_,aZ ha,_,rfl,some n,rfl,_,rfl,bw rfl ⟨_,aZ ha,_,rfl,D,us,l,H0,rfl,hD,hu,lr l rfl,lv l rfl,ho.2,q⟩⟩⟩
inductive NO (K:Frag)(vs:List V)(H:Hp)(Q:VK)(E9:XK):Prop
 | mk (a o v C cs y pv rs H0:_) (_:vs=[.ref a]) (_:tupQ K H a=some [.str (Str.ofString "inner"),on o,v,.ref C,y]) (_:H C=some (.lst (List.map V.int cs))) (_:cs.length<=1000000) (_:LstAt K H0 H PyData.int pv v) (_:UY pv) (_:LstAt K H0 H RN.d rs y) (_:UY rs) (_:(o.isSome&&pv.isSome&&FN rs)=true) (_:∀H',Ext K H H'->Q (.bl true) H')
include B in
theorem tU (F:bT K "is_inner_told" "is_inner_told" mD f fd)(gU:⋯ "has_word" 1 ["thing","word","many"] (FT K))(aU:⋯ "is_number" 1 ["thing"] lg)(dW:⋯ "are_wholes" 2 ["thing"] (UZ K))(nQ:⋯ "are_notes" 5 ["thing"] (Dm K)):(!0) 6 f fd ["thing"] (NO K):=by
 exists 0,["thing","word","number","pivots","children","tray"]
 obtain⟨a,o,v,C,cs,y,pv,rs,H0,rfl,ha,hC,lC,hv,lv,hy,ly,ho,q⟩:=h;refine⟨_,(ao (iV (fj (ef (ec gU hr (aa bg (aa dM (aa ei ah)))))) (aE (aR uP)) cD) (ao (iW bg (kX (dF (n:=5) rfl (aA (gn 1 nk) (aA (gn 2 nk) (aA (gn 3 nk) (aA (gn 4 nk) (aA (gn 5 nk) dN)))))))) (aE (aR (fM (ec aU hr (aa eB ah)) (fM (ec dW hr (aa gC ah)) (fM (ec dW hr (aa jA ah)) (iC (ec nQ hr (aa sJ ah)))))))))),?_⟩;simp_arith [↓eqT ha,ha];simp only[cp]at ho;obtain⟨⟨o1,o2⟩,o3⟩:=ho;cases o with
 | none=>cases o1
 | some n=>
   cases pv with
   | none=>cases o2
   | some pv=>
     cases rs with
     | none=>cases o3
     | some l=>
       obtain⟨D,us,rfl,_,hD,hu⟩:=hv;obtain⟨Y,ys,rfl,_,hY,hw⟩:=hy;rw[hu.ints]at hD;exact⟨a,_,_,_,_,rfl,ha,_,rfl,aK Y2 ⟨_,ha,rfl,_,_,rfl,_,_,rfl,_,_,rfl,_,_,rfl,_,_,rfl,rfl,some n,rfl,_,rfl,bw rfl ⟨_,rfl,.inr ⟨D,pv,rfl,hD,lv pv rfl,λH1 x1=>⟨_,rfl,bw rfl ⟨_,rfl,.inr ⟨C,cs,rfl,x1.at hC,lC,λH2 x2=>⟨_,rfl,bw rfl ⟨Y,ys,l,H0,rfl,(x1.trans x2).at hY,hw.ext (x1.trans x2),ly l rfl,o3,λH3 x3=>q _ ((x1.trans x2).trans x3)⟩⟩⟩⟩⟩⟩⟩⟩⟩
def NP (t:Str):Bool:=decide (t="fullest")||decide (t="eldest")
def NQ:Sp:=λvs H Q _=>∃t:Str,vs=[.str t]/\Q (.bl (NP t)) H
theorem Ql (t:Str):EG (.str t) [.str "fullest",.str "eldest"]=NP t:=by
 unfold EG NP;simp only[List.any_cons,List.any_nil,Ha,Ra];have e:∀a b:Str,(a==b)=decide (b=a):=λa b=>by
   rw[pz,SU,Iy];exact⟨Eq.symm,Eq.symm⟩
 rw[e,e]
theorem FU:eU ["thing"] ["thing"] (aN tP):=Yk
include B in
theorem FW (F:bT K "is_plan" "is_plan" tP f fd):(!0) 1 f fd ["thing"] NQ:=by
 refine F.okB FU λeW A outer s H vs Q E hr hm h=>?_;obtain⟨t,rfl,q⟩:=h;refine⟨_,(aE (aR (FD (fM (jm (B3 B.isinstance bg (mG rfl B.str EO))) (iC (fS EV bg (jb rfl B.Ym B.ND) aab)))))),?_⟩
 ext
 refine⟨_,.inl (.str _),true,rfl,bw rfl ⟨_,aZ (hm.tup B.kP),rfl,rfl,?_⟩⟩;rw[Ql];exact q
def lH (os:List (Option Int))(pl:Str):Bool:=match os with
 | [a,b,c]=>wO 1 64 a&&wO 3 16 b&&(wO 1 64 c&&NP pl)
 | _=>false
inductive FY (K:Frag)(vs:List V)(H:Hp)(Q:VK)(E9:XK):Prop
 | mk (r os pl:_) (_:vs=[.ref r]) (_:tupQ K H r=some (List.map on os++[.str pl])) (_:Q (.bl (lH os pl)) H)
include B in
theorem FZ (F:bT K "is_rule" "is_rule" Af f fd)(bP:⋯ "is_whole" 2 ["thing","low","high"] nK)(tV:⋯ "is_plan" 1 ["thing"] NQ):(!0) 3 f fd ["thing"] (FY K):=by
 exists 0,["thing","tray","fan","rows","plan"]
 obtain⟨r,os,pl,rfl,ht,q⟩:=h;refine⟨_,(ao 'f' (ao (iW bg (kX (dF (n:=4) rfl (aA (gn 1 nk) (aA (gn 2 nk) (aA (gn 3 nk) (aA (gn 4 nk) dN))))))) (ao (iV (tw (sH (fj (ef (ec bP hr (aa cF (aa ei (aa (jb rfl B.Kv B.A5) ah)))))) (jc (fj (ef (ec bP hr (aa eB (aa (jb rfl B.Kw B.A6) (aa (jb rfl B.NC B.Dg) ah))))))))) (aE (aR uP)) cD) (aE (aR (fM (ec bP hr (aa gC (aa ei (aa (jb rfl B.Ky B.A7) ah)))) (iC (ec tV hr (aa jA ah))))))))),?_⟩;simp_arith [↓eqT ht];refine⟨_,.tup ht,true,rfl,aK Y1 ?_⟩
 by_cases hl:os.length=3
 case neg=>
   refine bw aaa ?_;have:lH os pl=false:=by
     unfold lH;split
     . exact absurd rfl hl
     . rfl
   rw[this]at q;exact q
 obtain⟨a,b,c,rfl⟩:∃a b c,os=[a,b,c]:=by
   rcases os with _ | ⟨a,_ | ⟨b,_ | ⟨c,_ | ⟨d,os⟩⟩⟩⟩ <;> simp only[List.length_cons,List.length_nil]at hl <;> first | omega | exact⟨_,_,_,rfl⟩
 refine aK Y2 ?_;refine⟨_,ht,rfl,_,_,rfl,_,_,rfl,_,_,rfl,_,_,rfl,rfl,a,_,_,rfl,_,rfl,?_⟩;cases c1:wO 1 64 a
 . exact bw Y1 (by simpa[lH,c1] using q)
 refine aK Y1 ⟨b,_,_,rfl,_,rfl,?_⟩;cases c2:wO 3 16 b
 . exact bw Y1 (by simpa[lH,c1,c2] using q)
 refine aK Y1 ⟨c,_,_,rfl,_,rfl,?_⟩;cases c3:wO 1 64 c
 . exact aK Y1 (by simpa[lH,c1,c2,c3] using q)
 . exact bw rfl ⟨pl,rfl,by simpa[lH,c1,c2,c3] using q⟩
def Sd (K:Frag):Sp:=λvs H Q _=>∃v lo,vs=[v,.int lo]/\((v=.bS/\Q (.bl false) H)∨∃D ns,v=.ref D/\H D=some (.lst (List.map V.int ns))/\ns.length<=1000000/\∀H',Ext K H H'->Q (.bl (ns.all (λn=>decide (lo<=n))&&rising ns)) H')
include B in
theorem qz (F:bT K "are_rising_from" "are_rising_from" jH f fd)(dW:⋯ "are_wholes" 2 ["thing"] (UZ K))(bX:⋯ "is_rising" 1 ["numbers"] (Dk K)):(!0) 3 f fd ["thing","low"] (Sd K):=by
 exists 0,["thing","low"]
 obtain⟨v,lo,rfl,h⟩:=h;refine⟨_,(aE (aR (fM (ec dW hr (aa bg ah)) (FD (fM (jm (bL (Ko (cK rfl)) rfl B.all gO (aa (pP (ck [ "number","low" ] [none,some 1]) rfl (kO (bU cN)) 'j' 'v' (λ_ _ _ _=>(fS (mA gy) cF bg (aH _)))) ah))) (iC (ec bX hr (aa bg ah)))))))),?_⟩
 ext
 rcases h with ⟨rfl,q⟩ | ⟨D,ns,rfl,hD,hl,q⟩
 . exact⟨_,rfl,.inl ⟨rfl,false,rfl,aK Y1 q⟩⟩
 refine⟨_,rfl,.inr ⟨D,ns,rfl,hD,hl,λH1 x1=>⟨true,rfl,bw rfl ⟨D,rfl,⟨_,aQ.of (x1.at hD)⟩,λD1 n1=>gH (f:=V.int) (g:=λi=>V.bl (decide (lo<=i))) (aQ.of (x1.at hD)) n1 X2 (λi hi H' Q' xx qq=>?_) (λH2 h2 x2=>?_)⟩⟩⟩⟩
 . ext
   exact qq _ Ext.refl
 refine⟨ns.map λn=>decide (lo<=n),aQ.of (by rw[h2,dq];rfl),?_⟩;have e:(ns.map λn=>decide (lo<=n)).all id=ns.all λn=>decide (lo<=n):=by rw[rf];rfl
 rw[e];cases c:ns.all λn=>decide (lo<=n)
 . have:=q _ (x1.trans x2);rw[c]at this;exact aK Y1 this
 . refine bw rfl ⟨D,ns,rfl,aQ.of ((x1.trans x2).at hD),hl,λH3 x3=>?_⟩;have:=q _ (x1.trans (x2.trans x3));rw[c]at this;exact this
def L3 (x y z:Int):HO:=.lst [.int x,.int y,.int z]
def Wl (H:Hp)(p:Addr):Prop:=∃x y z,H p=some (L3 x y z)
theorem Wl.ext {K:Frag}(h:Wl H p)(x:Ext K H H'):Wl H' p:=by
 obtain⟨u,v,z,h⟩:=h;exact⟨u,v,z,x.at h⟩
theorem Wl.ne {K:Frag}{b:Addr}(h:Wl H p)(n:new K H b):b≠p:=by
 obtain⟨u,v,z,h⟩:=h;exact(ay h n.1).symm
theorem Wl.upd {b:Addr}{o:HO}(h:Wl H p)(n:p≠b):Wl (upd H b o) p:=by
 obtain⟨u,v,z,h⟩:=h;exact⟨u,v,z,by rw[au n];exact h⟩
theorem Wl.lst (h:Wl H p):∃xs,H p=some (.lst xs):=by
 obtain⟨u,v,z,h⟩:=h;exact⟨_,h⟩
theorem Yq (ns:List Int)(h0:0<=i)(h1:i < ns.length):∃n,n∈ns/\j3 (ns.map V.int) i=some (.int n):=by
 obtain⟨v,ev,mv⟩:=Me (xs:=ns.map V.int) h0 (by rw[ab];exact h1);obtain⟨n,hn,rfl⟩:=fg.1 mv;exact⟨n,hn,ev⟩
inductive NR (K:Frag)(vs:List V)(H:Hp)(Q:VK)(E9:XK):Prop
 | mk (a:Addr) (ns:List Int) (k:Int) (_:vs=[.ref a,.int k]) (_:aQ K H a (ns.map V.int)) (_:0<=k) (_:∀n,Q (.int n) H)
include B in
theorem uV (F:bT K "_law_cell_at" "_law_cell_at" nH f fd):(!0) 1 f fd ["_law_script","_law_k"] (NR K):=by
 exists 0,["_law_script","_law_k"]
 obtain⟨a,ns,k,rfl,hs,h0,q⟩:=h;refine⟨_,(ao (iV (cM (cz (om (mA i9)) qM (jm (bL qV rfl B.len EM (aa bg ah))) (aH _))) (aE (aR (sW GF bg cF (λ_ _=>rfl)))) cD) (aE (aR ei))),?_⟩;simp_arith [WR];refine⟨_,.inl hs,?_⟩;refine jP (λc=>?_) (λc=>q 0);obtain⟨v,e,m⟩:=Me h0 c;obtain⟨n,_,rfl⟩:=fg.mp m;exact⟨_,hs,_,e,q n⟩
def NS (K:Frag):Sp:=λvs H Q _=>∃c,vs=[.int c]/\∀(p:Addr) (x y z:Int),new K H p->Q (.ref p) (upd H p (L3 x y z))
include B in
theorem Be (F:bT K "_law_well" "_law_well" uE f fd):(!0) 1 f fd ["_law_cell"] (NS K):=by
 exists 0,["_law_cell"]
 obtain⟨c,rfl,q⟩:=h;refine⟨_,(aE (aR (jG (aa (cB (mC gx) bg (cX sV rfl B.int vL (aa (fS (mA QZ) bg (mh 1000000000000000000) (aH _)) ah))) (aa (cB (mC mU) bg ei) (aa ei ah)))))),?_⟩
 ext
 refine⟨?_,λp hp=>q p _ _ _ hp⟩
 right
 split <;> decide
inductive jj (K:Frag)(vs:List V)(H:Hp)(Q:VK)(E9:XK):Prop
 | mk (p m:_) (_:vs=[.ref p,.int m]) (_:Wl H p) (_:0 < m) (_:m < 10 ^ 100) (_:∀(r:Int) (H':Hp),0<=r->r < m->Wl H' p->Kp K p H H'->Q (.int r) H')
include B in
theorem Bf (F:bT K "_law_draw" "_law_draw" uF f fd):(!0) 1 f fd ["_law_well_here","_law_many"] (jj K):=by
 exists 0,["_law_well_here","_law_many","_law_found_here","_law_number_here"]
 obtain⟨p,m,rfl,⟨x,y,z,hp⟩,h0,h1,q⟩:=h;unfold L3 at hp;refine⟨_,(ao (iV (cM (cz (om (mA Ci)) (jm (iq bg)) (jm ei) (aH _))) (ao (ss 2 nk (cB (mC mU) (iq bg) cF)) (ao (iW (cB (mC mZ) (iq bg) cF) (W6 bg ei set_list)) (aE (aR eB)))) cD) (ao (iW (cB (mA bu) (iq bg) ei) (W6 bg ei set_list)) (ao (ss 3 nk (cB (mC mU) (cB (mC gx) (cB (mA bu) (cB (mA bu) (iq bg) (cB (mC gx) ei (iq bg))) ei) ei) ei)) (ao (ss 3 nk (cB (mC mU) (cB (mC gx) gC (cB (mA bu) (cB (mA bu) (cB (mC mZ) gC ei) ei) (iq bg))) ei)) (aE (aR (cB (mC mU) (cB (mC mU) (cB (mC gx) gC (cB (mA bu) (cB (mC mZ) gC ei) ei)) ei) cF))))))),?_⟩;simp_arith [hp,aJ hp,oW];have g:∀(u v z:Int),Kp K p H (upd H p (L3 u v z)):=λu v z=>Kp.upd hp;refine jP (λc=>⟨h0,h0,by omega,?_⟩) (λc=>?_)
 . exact q _ _ (FK _ X2) (zt _ h0) ⟨_,_,_,af⟩ (g _ _ _)
 . refine⟨?_,?_,h0,q _ _ (FK _ X2) (zt _ h0) ⟨_,_,_,af⟩ (g _ _ _)⟩
   all_goals omega
inductive Ih (K:Frag)(vs:List V)(H:Hp)(Q:VK)(E9:XK):Prop
 | mk (p:_) (_:vs=[.ref p]) (_:Wl H p) (_:∀(o:Option Int) (H':Hp),(∀i,o=some i->i.natAbs < 10 ^ 60)->Wl H' p->Kp K p H H'->Q (on o) H')
include B in
theorem yK (F:bT K "_law_value" "_law_value" rS f fd)(ak:⋯ "_law_draw" 1 ["_law_well_here","_law_many"] (jj K)):(!0) 2 f fd ["_law_well_here"] (Ih K):=by
 exists 0,["_law_well_here","_law_way"]
 obtain⟨p,rfl,hp,q⟩:=h;refine⟨_,(ao (ss 1 nk 'd') (ao (iV (cM (cz (om fL) qM (jm ei) (aH _))) (aE (aR jQ)) cD) (ao (iV (cM (cz (om (mA i9)) qM (jm ei) (aH _))) (aE (aR (cB (mA gK) 'd' ei))) cD) (aE (aR (cB (mA bu) (cB (mC gx) (cB (mA gK) (ec ak hr (aa bg (aa (cB (mA bu) (cB (mC gx) ei (mh 1000000000)) ei) ah))) (mh 1000000000)) (mh 1000000000000000000000)) (ec ak hr (aa bg (aa (mh 1000000000) ah))))))))),?_⟩
 ext
 refine⟨p,6,rfl,hp,by decide,by decide,λd H1 d0 d1 qO k1=>?_⟩
 ext
 have yes:∀(i:Int) (H':Hp),i.natAbs < 10 ^ 60->Wl H' p->Kp K p H H'->Q (.int i) H':=λi H' hi=>q (some i) H' (λj e=>by cases e;exact hi);refine jP (λc=>q none _ (λ_ h=>by cases h) qO k1) (λc=>jP (λc=>?_) (λc=>?_))
 . exact⟨p,7,rfl,qO,by decide,by decide,λe H2 e0 e1 mY k2=>⟨e,rfl,yes _ _ X2 mY (k1.trans k2)⟩⟩
 . exact⟨p,_,rfl,qO,by decide,by decide,λe H2 e0 e1 mY k2=>⟨e,rfl,.inl X2,p,_,rfl,mY,by decide,by decide,λg H3 g0 g1 B4 k3=>⟨g,rfl,yes _ _ X2 B4 (k1.trans (k2.trans k3))⟩⟩⟩
inductive Dp (K:Frag)(vs:List V)(H:Hp)(Q:VK)(E9:XK):Prop
 | mk (p:_) (_:vs=[.ref p]) (_:Wl H p) (_:∀(i:Int) (H':Hp),i.natAbs < 10 ^ 60->Wl H' p->Kp K p H H'->Q (.int i) H')
include B in
theorem xy (F:bT K "_law_number" "_law_number" qd f fd)(ak:⋯ "_law_draw" 1 ["_law_well_here","_law_many"] (jj K)):(!0) 2 f fd ["_law_well_here"] (Dp K):=by
 exists 0,["_law_well_here"]
 obtain⟨p,rfl,hp,q⟩:=h;refine⟨_,(ao (iV (cM (cz (om fL) (jm 'd') (jm ei) (aH _))) (aE (aR (cB (mC gx) (cB (mA gK) (ec ak hr (aa bg (aa (cB (mA bu) (cB (mC gx) ei (mh 1000000000)) ei) ah))) (mh 1000000000)) (mh 1000000000000000000000)))) cD) (aE (aR (cB (mA gK) 'd' ei)))),?_⟩
 ext
 refine⟨p,6,rfl,hp,by decide,by decide,λd H1 d0 d1 qO k1=>⟨rfl,jP (λc=>?_) (λc=>?_)⟩⟩
 . exact⟨p,_,rfl,qO,by decide,by decide,λe H2 e0 e1 mY k2=>⟨e,rfl,.inl X2,q _ _ X2 mY (k1.trans k2)⟩⟩
 . exact⟨p,5,rfl,qO,by decide,by decide,λe H2 e0 e1 mY k2=>⟨e,rfl,q _ _ X2 mY (k1.trans k2)⟩⟩
def bR.sm:bR->Prop
 | .plus n=>n.natAbs < 10 ^ 60
 | .is n=>n.natAbs < 10 ^ 60
 | .gone=>True
def xB (K:Frag)(H:Hp)(v:V)(t m:bR):Prop:=∃a r s,v=.ref a/\tupQ K H a=some [.ref r,.ref s]/\tupQ K H r=some t.v/\tupQ K H s=some m.v
inductive Dq (K:Frag)(vs:List V)(H:Hp)(Q:VK)(E9:XK):Prop
 | mk (p b:_) (_:vs=[.ref p,.bl b]) (_:Wl H p) (_:∀(v:V) (t m:bR) (H':Hp),xB K H' v t m->t.sm->m.sm->(m=.gone∨(b=false/\∃i,m=.is i))->Wl H' p->Kp K p H H'->Q v H')
include B in
theorem xC (F:bT K "_law_action" "_law_action" ir f fd)(ak:⋯ "_law_draw" 1 ["_law_well_here","_law_many"] (jj K))(fP:⋯ "_law_number" 2 ["_law_well_here"] (Dp K)):(!0) 3 f fd ["_law_well_here","_law_wide"] (Dq K):=by
 exists 0,["_law_well_here","_law_wide","_law_there","_law_none"]
 obtain⟨p,b,rfl,hp,q⟩:=h;exists 2,ir,2,aE (aR (mK (aa eB (aa gC ah)))),r2,J2,e2;exists 2,ir,1,ao (ss 3 nk (sW (uv je) (jG (aa (mK (aa dM ah)) (aa (mK (aa dM (aa (ec fP hr (aa bg ah)) ah))) ah))) (cB (mC gx) 'd' (cX ze rfl B.int vL (aa (noM (W4 qM)) ah))) (λ_ _=>rfl))) J2,r1,J1,e1;refine⟨_,(ao (ss 2 nk (sW (uv je) (jG (aa (mK (aa dM (aa (ec fP hr (aa bg ah)) ah))) (aa (mK (aa dM (aa (ec fP hr (aa bg ah)) ah))) (aa (mK (aa dM ah)) ah)))) (cB (mC mZ) 'd' ei) (λ_ _=>rfl))) J1),?_⟩
 ext
 refine⟨p,rfl,hp,λi H1 hi qO k1 t1 n1=>?_⟩;have x1:=bM (.tup [V.str "plus",V.int i]) n1;refine⟨p,rfl,qO.ext x1,λj H2 hj mY k2 t2 n2=>?_⟩
 ext
 intro t3 n3 D nD;have x2:=bM (.tup [V.str "is",V.int j]) n2;have x3:=bM (.tup [V.str "gone"]) n3;have x4:=bM (.lst [V.ref t1,V.ref t2,V.ref t3]) nD;obtain⟨ys,ep⟩:=(qO.ext x1).lst;have yL:=mY.ext (x2.trans (x3.trans x4));have f1:tupQ K (upd H1 t1 (.tup [V.str "plus",V.int i])) t1=some (bR.plus i).v:=aF;have f1:=(x2.trans (x3.trans x4)).tup (k2.tup ep f1);have f2:tupQ K (upd H2 t2 (.tup [V.str "is",V.int j])) t2=some (bR.is j).v:=aF;have f2:=(x3.trans x4).tup f2;have f3:tupQ K (upd (upd H2 t2 (.tup [V.str "is",V.int j])) t3 (.tup [V.str "gone"])) t3=some bR.gone.v:=aF;have f3:=x4.tup f3;have k4:=k1.trans (x1.kp.trans (k2.trans (x2.trans (x3.trans x4)).kp));have fD:=af (H:=upd (upd H2 t2 (.tup [V.str "is",V.int j])) t3 (.tup [V.str "gone"])) (a:=D) (o:=.lst [V.ref t1,V.ref t2,V.ref t3]);have F1:D≠p:=(mY.ext (x2.trans x3)).ne nD;generalize upd (upd (upd H2 t2 (.tup [V.str (Str.ofString "is"),V.int j])) t3 (.tup [V.str (Str.ofString "gone")])) D (.lst [V.ref t1,V.ref t2,V.ref t3])=G at *;refine⟨p,7,rfl,yL,by decide,by decide,λd H5 d0 d1 yM k5=>⟨d,rfl,_,aJ (k5.keep D _ fD F1),?_⟩⟩;obtain⟨ys,eq⟩:=yL.lst;obtain⟨r,t,er,ht,qN,hs⟩:∃r t,j3 [V.ref t1,V.ref t2,V.ref t3] (d / 3)=some (.ref r)/\tupQ K H5 r=some (bR.v t)/\t.sm/\True:=by
   rcases(by omega:d / 3=0∨d / 3=1∨d / 3=2)with e | e | e <;> rw[e]
   . exact⟨t1,.plus i,rfl,k5.tup eq f1,hi,trivial⟩
   . exact⟨t2,.is j,rfl,k5.tup eq f2,hj,trivial⟩
   . exact⟨t3,.gone,rfl,k5.tup eq f3,trivial,trivial⟩
 refine⟨_,er,?_⟩;have k6:=k4.trans k5;clear f1 f2 f3 fD yL qO mY eq ep x1 x2 x3 x4;rw[e1]
 ext
 intro u1 m1;have x1:=bM (.tup [V.str "gone"]) m1;refine⟨p,rfl,yM.ext x1,λl H6 hl hp6 k7 u2 m2 u3 m3=>?_⟩;have x2:=bM (.tup [V.str "is",V.int l]) m2;have x3:=bM (.lst [V.ref u1,V.ref u2]) m3;obtain⟨ys,ep⟩:=(yM.ext x1).lst;have vh:=hp6.ext (x2.trans x3);have f1:tupQ K (upd H5 u1 (.tup [V.str "gone"])) u1=some bR.gone.v:=aF;have f1:=(x2.trans x3).tup (k7.tup ep f1);have f2:tupQ K (upd H6 u2 (.tup [V.str "is",V.int l])) u2=some (bR.is l).v:=aF;have f2:=x3.tup f2;have ft:=(x2.trans x3).tup (k7.tup ep (x1.tup ht));have k8:=k6.trans (x1.kp.trans (k7.trans (x2.trans x3).kp));have fD:=af (H:=upd H6 u2 (.tup [V.str "is",V.int l])) (a:=u3) (o:=.lst [V.ref u1,V.ref u2]);have F1:u3≠p:=(hp6.ext x2).ne m3;generalize upd (upd H6 u2 (.tup [V.str (Str.ofString "is"),V.int l])) u3 (.lst [V.ref u1,V.ref u2])=G7 at *;refine⟨p,2,rfl,vh,by decide,by decide,λg H8 g0 g1 La k9=>?_⟩;refine .inr ⟨g,rfl,.inl X2,_,aJ (k9.keep u3 _ fD F1),?_⟩;obtain⟨ys,eq⟩:=vh.lst;obtain⟨s2,m,es,hm,sm,hg⟩:∃s2 m,j3 [V.ref u1,V.ref u2] (g * if (!b)=true then 1 else 0)=some (.ref s2)/\tupQ K H8 s2=some (bR.v m)/\m.sm/\(m=.gone∨(b=false/\∃i,m=.is i)):=by
   cases b
   . rcases(by omega:g=0∨g=1)with rfl | rfl
     . exact⟨u1,.gone,rfl,k9.tup eq f1,trivial,.inl rfl⟩
     . exact⟨u2,.is l,rfl,k9.tup eq f2,hl,.inr ⟨rfl,l,rfl⟩⟩
   . rcases(by omega:g=0∨g=1)with rfl | rfl <;> exact⟨u1,.gone,rfl,k9.tup eq f1,trivial,.inl rfl⟩
 refine⟨_,es,?_⟩;rw[e2]
 ext
 intro T nT;have xT:=bM (.tup [V.ref r,V.ref s2]) nT;exact q _ t m _ ⟨T,r,s2,rfl,aF,xT.tup (k9.tup eq ft),xT.tup hm⟩ qN sm hg (La.ext xT) (k8.trans (k9.trans xT.kp))
def iM (K:Frag)(H:Hp)(v:V)(a b c:Int)(pl:Str):Prop:=∃R,v=.ref R/\tupQ K H R=some [.int a,.int b,.int c,.str pl]
structure F2 (a b c:Int)(pl:Str):Prop where
 a:1<=a/\a<=64
 b:3<=b/\b<=16
 c:1<=c/\c<=64
 p:pl=Str.ofString "fullest"∨pl=Str.ofString "eldest"
inductive Ii (K:Frag)(vs:List V)(H:Hp)(Q:VK)(E9:XK):Prop
 | mk (p:_) (_:vs=[.ref p]) (_:Wl H p) (_:∀(v:V) (a b c:Int) (pl:Str) (H':Hp),iM K H' v a b c pl->F2 a b c pl->Wl H' p->Kp K p H H'->Q v H')
include B in
theorem Bg (F:bT K "_law_rule" "_law_rule" gb f fd)(ak:⋯ "_law_draw" 1 ["_law_well_here","_law_many"] (jj K)):(!0) 2 f fd ["_law_well_here"] (Ii K):=by
 exists 0,["_law_well_here","_law_way","_law_tray_here","_law_fan","_law_rows_here"]
 obtain⟨p,rfl,hp,q⟩:=h;exists 2,gb,4,aE (aR (mK (aa eB (aa gC (aa jA (aa (sW (uv je) (jG (aa dM (aa dM ah))) 'd' (λ_ _=>rfl)) ah)))))),r4,J4,e4;exists 2,gb,3,ao (ss 4 nk (sW (uv je) (jG (aa (cB (mA bu) ei 'd') (aa (cB (mA bu) ei 'd') ah))) cF (λ_ _=>rfl))) J4,r3,J3,e3;exists 2,gb,2,ao (ss 3 nk (sW (uv je) (jG (aa (cB (mA bu) ei 'd') (aa (cB (mA bu) ei 'd') ah))) cF (λ_ _=>rfl))) J3,r2,J2,e2;exists 2,gb,1,ao (ss 2 nk (sW (uv je) (jG (aa (cB (mA bu) ei 'd') (aa (cB (mA bu) ei 'd') ah))) cF (λ_ _=>rfl))) J2,r1,J1,e1;refine⟨_,(ao (ss 1 nk (cB (mC mZ) 'd' ei)) J1),?_⟩
 ext
 refine⟨p,8,rfl,hp,by decide,by decide,λd H1 d0 d1 qO k1=>⟨d,rfl,?_⟩⟩;have dd:d / 7=0∨d / 7=1:=X2
 rw[e1]
 ext
 refine⟨p,4,rfl,qO,by decide,by decide,λa1 H2 a10 a11 mY k2=>⟨a1,rfl,p,64,rfl,mY,by decide,by decide,λa2 H3 a20 a21 B4 k3=>⟨a2,rfl,λD nD=>?_⟩⟩⟩;obtain⟨a,ea,ha⟩:∃a,j3 [V.int (1 + a1),V.int (1 + a2)] (d / 7)=some (.int a)/\1<=a/\a<=64:=by
   rcases dd with e | e <;> rw[e]
   . exact⟨1 + a1,rfl,by omega,by omega⟩
   . exact⟨1 + a2,rfl,by omega,by omega⟩
 refine⟨_,ea,?_⟩;have x3:=bM (.lst [V.int (1 + a1),V.int (1 + a2)]) nD;have B4:=B4.ext x3;have k3:=k1.trans (k2.trans (k3.trans x3.kp));generalize upd H3 D _=G3 at B4 k3 ⊢;rw[e2]
 ext
 refine⟨p,3,rfl,B4,by decide,by decide,λb1 H4 b10 b11 yL k4=>⟨b1,rfl,p,14,rfl,yL,by decide,by decide,λb2 H5 b20 b21 yM k5=>⟨b2,rfl,λD nD=>?_⟩⟩⟩;obtain⟨b,eb,hb⟩:∃b,j3 [V.int (3 + b1),V.int (3 + b2)] (d / 7)=some (.int b)/\3<=b/\b<=16:=by
   rcases dd with e | e <;> rw[e]
   . exact⟨3 + b1,rfl,by omega,by omega⟩
   . exact⟨3 + b2,rfl,by omega,by omega⟩
 refine⟨_,eb,?_⟩;have x5:=bM (.lst [V.int (3 + b1),V.int (3 + b2)]) nD;have yM:=yM.ext x5;have k5:=k3.trans (k4.trans (k5.trans x5.kp));generalize upd H5 D _=G5 at yM k5 ⊢;rw[e3]
 ext
 refine⟨p,4,rfl,yM,by decide,by decide,λc1 H6 c10 c11 hp6 k6=>⟨c1,rfl,p,64,rfl,hp6,by decide,by decide,λc2 H7 c20 c21 vh k7=>⟨c2,rfl,λD nD=>?_⟩⟩⟩;obtain⟨c,ec,hc⟩:∃c,j3 [V.int (1 + c1),V.int (1 + c2)] (d / 7)=some (.int c)/\1<=c/\c<=64:=by
   rcases dd with e | e <;> rw[e]
   . exact⟨1 + c1,rfl,by omega,by omega⟩
   . exact⟨1 + c2,rfl,by omega,by omega⟩
 refine⟨_,ec,?_⟩;have x7:=bM (.lst [V.int (1 + c1),V.int (1 + c2)]) nD;have vh:=vh.ext x7;have k7:=k5.trans (k6.trans (k7.trans x7.kp));generalize upd H7 D _=G7 at vh k7 ⊢;rw[e4]
 ext
 intro D nD;have x8:=bM (.lst [V.str (Str.ofString "fullest"),V.str (Str.ofString "eldest")]) nD;refine⟨p,2,rfl,vh.ext x8,by decide,by decide,λg H9 g0 g1 F3 k9=>⟨g,rfl,_,aJ (k9.keep D _ af (vh.ne nD)),?_⟩⟩;obtain⟨pl,ep,oV⟩:∃pl,j3 [V.str (Str.ofString "fullest"),V.str (Str.ofString "eldest")] g=some (.str pl)/\(pl=Str.ofString "fullest"∨pl=Str.ofString "eldest"):=by
   rcases(by omega:g=0∨g=1)with rfl | rfl
   . exact⟨_,rfl,.inl rfl⟩
   . exact⟨_,rfl,.inr rfl⟩
 refine⟨_,ep,λT nT=>?_⟩;exact q _ a b c pl _ ⟨T,rfl,aF⟩ ⟨ha,hb,hc,oV⟩ (F3.ext (Ext.new nT)) (k7.trans (x8.kp.trans (k9.trans (Ext.new nT).kp)))
structure Fr (K:Frag)(H0 H H':Hp):Prop where
 k:∀a o,new K H0 a->H a=some o->H' a=some o
 t:∀a xs,tupQ K H a=some xs->tupQ K H' a=some xs
theorem Fr.ext (x:Ext K H H'):Fr K H0 H H':=⟨λ_ _ _ h=>x.at h,λ_ _ h=>x.tup h⟩
theorem Fr.kp {o:HO}(h0:H0 p=some o)(hp:H p=some (.lst xs))(k:Kp K p H H'):Fr K H0 H H':=
 ⟨λa _ n h=>k.keep a _ h λz=>(by rw[z]at n;rw[n.1]at h0;cases h0),λ_ _ h=>k.tup hp h⟩
theorem Fr.trans {H2:Hp}(x:Fr K H0 H H1)(y:Fr K H0 H1 H2):Fr K H0 H H2:=⟨λa o n h=>y.k a o n (x.k a o n h),λa xs h=>y.t a xs (x.t a xs h)⟩
mutual
theorem aL.fr {H0 H H':Hp}(k:Fr K H0 H H'):∀{d:PyData}{v:V},aL K H0 H d v->aL K H0 H' d v
 | .none,v,h=>h
 | .int i,v,h=>h
 | .str s,v,h=>h
 | .list ds,v,h=>by
   unfold aL at h ⊢;obtain⟨a,vs,e,n,ha,hs⟩:=h;exact⟨a,vs,e,n,k.k a _ n ha,ai.fr k hs⟩
 | .tuple ds,v,h=>by
   unfold aL at h ⊢;obtain⟨a,vs,e,ha,hs⟩:=h;exact⟨a,vs,e,k.t _ _ ha,ai.fr k hs⟩
 | .bool _,v,h=>h
 | .dict _,v,h=>h
theorem ai.fr {H0 H H':Hp}(k:Fr K H0 H H'):∀{ds:List PyData}{vs:List V},ai K H0 H ds vs->ai K H0 H' ds vs
 | [],vs,h=>h
 | d::ds,vs,h=>by
   unfold ai at h ⊢;obtain⟨v,r,e,h1,h2⟩:=h;exact⟨v,r,e,aL.fr k h1,ai.fr k h2⟩
end
theorem vj {q a:Addr}{o o':HO}(k:pO K p q H H')(hp:H' p=some o)(hq:H' q=some o')(n:new K H' a):new K H a:=by
 refine⟨?_,n.2⟩;cases e:H a with
 | none=>rfl
 | some u=>
   have:=k.keep a u e (λz=>by rw[z]at n;rw[n.1]at hp;cases hp) (λz=>by rw[z]at n;rw[n.1]at hq;cases hq);rw[n.1]at this;cases this
theorem dX {a:Addr}{o:HO}(k:Kp K p H H')(hp:H' p=some o)(n:new K H' a):new K H a:=vj (q:=p) k.l hp hp n
theorem ai.map {d:α->PyData}{l:List α}{a:α}(h:ai K H0 H (l.map d) us)(g:aL K H0 H (d a) u):ai K H0 H ((l++[a]).map d) (us++[u]):=by
 rw[bj];exact h.snoc g
def Se (o:Option Int):Prop:=∀i,o=some i->i.natAbs < 10 ^ 60
structure abr (vs:List lq):Prop where
 l:0 < vs.length/\vs.length<=5
 n:∀p∈vs,0<=p.1/\p.1 < 40/\Se p.2
 up:(vs.map (·.1)).Pairwise (· < ·)
structure yN (lo hi c:Int)(rows:List (Int×List lq)):Prop where
 l:rows.length<=24/\(rows.length:Int)<=c
 k:∀r∈rows,lo<=r.1/\r.1 < hi
 v:∀r∈rows,abr r.2
 up:(rows.map (·.1)).Pairwise (· < ·)
theorem Bh {l:List Int}(h:l.Pairwise (· < ·))(g:∀i∈l,i < n):(l++[n]).Pairwise (· < ·):=by
 rw[rg];exact⟨h,Fu _ _,λa ha b hb=>by rw[cq.mp hb];exact g a ha⟩
inductive vm (K:Frag)(vs:List V)(H:Hp)(Q:VK)(E9:XK):Prop
 | mk (p rv a b c pl lo hi:_) (_:vs=[.ref p,rv,.int lo,.int hi]) (_:Wl H p) (_:iM K H rv a b c pl) (_:F2 a b c pl) (_:0<=lo) (_:lo<=hi) (_:hi<=lo + 24) (_:hi<=10 ^ 12) (_:∀D us rows H',new K H D->H' D=some (.lst us)->ai K H H' (rows.map fF) us->yN lo hi c rows->Wl H' p->Kp K p H H'->Q (.ref D) H')
include B in
theorem Bj (F:bT K "_law_rows" "_law_rows" gc f fd)(ak:⋯ "_law_draw" 1 ["_law_well_here","_law_many"] (jj K))(lJ:⋯ "_law_value" 2 ["_law_well_here"] (Ih K)):(!0) 3 f fd ["_law_well_here","_law_rule_here","_law_low","_law_high"] (vm K):=by
 exists 0,["_law_well_here","_law_rule_here","_law_low","_law_high","_law_found_here","_law_key","_law_number_here","_law_versions","_law_turn"]
 obtain⟨p,rv,a,b,c,pl,lo,hi,rfl,hp,⟨R0,rfl,hR0⟩,ro,l0,l1,l2,l3,q⟩:=h;refine aq (rest:=(A4 ((fC ((aj gc).getD 1 'r')).getD 0 'r')).drop 3) (aE (j4 (Uh PySem.F.plainAttrs_list PySem.F.slot_list_append PySem.F.type_list_append fz jA (aa (mK (aa sJ (aa Qi ah))) ah)))) λr4 J4 e4=>?_;refine aq (rest:=(fC ((A4 ((fC ((aj gc).getD 1 'r')).getD 0 'r')).getD 2 'r')).drop 1) (aE (ss 6 nk (cB (mA bu) (cB (mA bu) C9 ei) 'd'))) λr3 J3 e3=>?_;refine aq (rest:=(A4 ((fC ((aj gc).getD 1 'r')).getD 0 'r')).drop 1) (ao (ss 7 nk (jG ah)) (ao (mH PassesOwn.never rfl (RE (jE rfl B.range (am (aa (sW (uv je) (jG (aa ei (aa ei (aa ei (aa ei ah))))) 'd' (λ_ _=>rfl)) ah)))) (gn 8 nk) (ao (j4 (Uh PySem.F.plainAttrs_list PySem.F.slot_list_append PySem.F.type_list_append fz Qi (aa (mK (aa C9 (aa (ec lJ hr (aa bg ah)) ah))) ah))) J3)) J4)) λr2 J2 e2=>?_;refine aq (rest:=(A4 ((fC ((aj gc).getD 1 'r')).getD 0 'r')).drop 0) (ao (ss 6 nk (sW (uv je) (jG (aa ei (aa ei (aa 'd' ah)))) 'd' (λ_ _=>rfl))) J2) λr1 J1 e1=>?_;refine⟨_,(ao (ss 4 nk (jG ah)) (ao (mH PassesOwn.never rfl (r2M (AQ rfl B.range (am (aa eB (aa gC ah))))) (gn 5 nk) (aE (iV (tw (Ui (cM (cz (om fL) (jm 'd') (jm ei) (aH _))) (Mg (cM (cz (om (mA i9)) (jm (tN B.len jA)) (jm (iq cF)) (aH _)))))) J1 cD))) (aE (aR jA)))),?_⟩
 ext
 intro R nR;have OJ:R≠p:=hp.ne nR;obtain⟨yp,ep⟩:=hp.lst;have x1:=bM (.lst []) nR;have qO:=hp.ext x1;have ZK:upd H R (.lst []) p=some (.lst yp):=x1.at ep;have e0R:upd H R (.lst []) R=some (.lst []):=af;have Qm:=x1.tup hR0;generalize eG:upd H R (.lst [])=G0 at *;refine⟨by omega,by omega,by omega,by omega,?_⟩;refine gP (λi σ H'=>Ex6 λ(v5 v6 v7 v8:Option V) (us:List V) (rows:List (Int×List lq))=>ZH (rH σ [some (.ref p),some (.ref R0),some (.int lo),some (.int hi),some (.ref R),v5,v6,v7,v8]) (H' R=some (.lst us)) (ai K G0 H' (rows.map fF) us) (rows.length<=i) (yN lo (lo + i) c rows) (Wl H' p) (Fr K G0 G0 H') (pO K p R G0 H')) ⟨_,_,_,_,[],[],rfl,e0R,ai.nil,ag _,⟨⟨by decide,by have:=ro.c;simp;omega⟩,λ_ h=>absurd h List.not_mem_nil,λ_ h=>absurd h List.not_mem_nil,.nil⟩,qO,Fr.ext Ext.refl,pO.refl⟩ ?_ ?_
 . rintro i σ H1 eY ⟨v5,v6,v7,v8,us,rows,rfl,h1,h2,h3,h4,h5,h6,h7⟩
   ext
   have hi2:(i:Int) < hi - lo:=X2
   obtain⟨y1,ep1⟩:=h5.lst;refine⟨p,2,rfl,h5,by decide,by decide,λd H2 d0 d1 mY k2=>⟨rfl,?_⟩⟩;have fr2:=Fr.kp ZK ep1 k2;have U0:=k2.keep R _ h1 OJ;have h22:=h2.fr fr2;have ZL:=h6.trans fr2;have h72:=h7.trans k2.l;have Yr:yN lo (lo + ((i + 1:Nat):Int)) c rows:=⟨h4.l,λr hr=>by have:=h4.k r hr;omega,h4.v,h4.up⟩
   refine jP (λc1=>⟨_,aJ U0,_,aZ (ZL.t _ _ Qm),_,rfl,c,rfl,jP (λc2=>?_) (λ_=>⟨_,_,_,_,us,rows,rfl,U0,h22,by omega,Yr,mY,ZL,h72⟩)⟩) (λ_=>⟨_,_,_,_,us,rows,rfl,U0,h22,by omega,Yr,mY,ZL,h72⟩);clear Yr;rw[e1]
   ext
   have lu:us.length=rows.length:=by rw[h2.len,ab]
   refine⟨p,9,rfl,mY,by decide,by decide,λn9 H3 n90 n91 B4 k3 D1 nD1=>?_⟩;have y1:=bM (.lst [V.int 0,V.int 0,V.int n9]) nD1;refine⟨p,3,rfl,B4.ext y1,by decide,by decide,λm3 H4 m30 m31 yL k4=>⟨m3,rfl,_,aJ (k4.keep D1 _ af (B4.ne nD1)),?_⟩⟩;obtain⟨n0,en0,hn0⟩:∃n,j3 [V.int 0,V.int 0,V.int n9] m3=some (.int n)/\0<=n/\n<=8:=by
     rcases(by omega:m3=0∨m3=1∨m3=2)with rfl | rfl | rfl
     . exact⟨0,rfl,by decide,by decide⟩
     . exact⟨0,rfl,by decide,by decide⟩
     . exact⟨n9,rfl,by omega,by omega⟩
   have ZM:=k3.trans (y1.kp.trans k4);obtain⟨y2,ep2⟩:=mY.lst;have fr4:=ZL.trans (Fr.kp ZK ep2 ZM);have h24:=h22.fr (Fr.kp ZK ep2 ZM);have ZN:=ZM.keep R _ U0 OJ;have h74:=h72.trans ZM.l;refine⟨_,en0,?_⟩;rw[e2]
   ext
   intro D2 nD2 D3 nD3;have z1:=bM (.lst []) nD2;have z2:=bM (.lst [V.int 1,V.int 1,V.int 2,V.int 5]) nD3;refine⟨p,4,rfl,yL.ext (z1.trans z2),by decide,by decide,λm4 H5 m40 m41 yM k5=>⟨m4,rfl,_,aJ (k5.keep D3 _ af ((yL.ext z1).ne nD3)),?_⟩⟩;obtain⟨j,ej,hj⟩:∃n,j3 [V.int 1,V.int 1,V.int 2,V.int 5] m4=some (.int n)/\1<=n/\n<=5:=by
     rcases(by omega:m4=0∨m4=1∨m4=2∨m4=3)with rfl | rfl | rfl | rfl
     . exact⟨1,rfl,by decide,by decide⟩
     . exact⟨1,rfl,by decide,by decide⟩
     . exact⟨2,rfl,by decide,by decide⟩
     . exact⟨5,rfl,by decide,by decide⟩
   refine⟨_,ej,j,rfl,by omega,by omega,?_⟩;have ne2:D2≠p:=yL.ne nD2;have abv:R≠D2:=ay ZN nD2.1;have d5:H5 D2=some (.lst []):=k5.keep D2 _ (z2.at af) ne2;have kD:pO K p D2 (upd H4 D2 (.lst [])) H5:=(z2.kp.trans k5).l;have hR5:=kD.keep R _ (z1.at ZN) OJ abv;obtain⟨y5,ep5⟩:=yM.lst;refine gP (λk σ H'=>ZF λ(v8:Option V) (n:Int) (vs:List V) (ws:List lq)=>Al9 (rH σ [some (.ref p),some (.ref R0),some (.int lo),some (.int hi),some (.ref R),some (.int (lo + i)),some (.int n),some (.ref D2),v8]) (H' D2=some (.lst vs)) (ai K H5 H' (ws.map fN) vs) (ws.length=k) (0<=n/\n<=8 + 4 * k) (∀q∈ws,0<=q.1/\q.1 < n/\Se q.2) ((ws.map (·.1)).Pairwise (· < ·)) (Wl H' p) (pO K p D2 H5 H')) ⟨_,n0,[],[],rfl,d5,ai.nil,rfl,by omega,λ_ h=>absurd h List.not_mem_nil,.nil,yM,pO.refl⟩ ?_ ?_
   . rintro k σ H6 hk ⟨v8,n,vs,ws,rfl,g1,g2,g3,g4,g5,g6,hp6,k6⟩;have D9:k < 5:=X2
     have lv:vs.length=ws.length:=by rw[g2.len,ab]
     ext
     obtain⟨y6,ep6⟩:=hp6.lst;refine⟨.inl ⟨_,aQ.of g1⟩,p,rfl,hp6,λo H7 so vh k7 t1 n1=>?_⟩;have a1:=bM (.tup [V.int n,on o]) n1;have ZO:=a1.at (k7.keep D2 _ g1 ne2);have f7:=(Fr.kp ep5 ep6 k7).trans (Fr.ext a1);have Qn:aL K H5 (upd H7 t1 (.tup [V.int n,on o])) (fN (n,o)) (.ref t1):=by
       unfold fN;exact aL.tt.mpr ⟨t1,_,rfl,aF,ai.cons (aL.ii.mpr rfl) (ai.cons (aL.oo.mpr rfl) ai.nil)⟩
     have gg:=(g2.fr f7).map Qn;have f8:=Fr.kp (K:=K) d5 ZO (Kp.upd (o:=.lst (vs++[V.ref t1])) ZO);have gg:=gg.fr f8;have La:=(vh.ext a1).upd (o:=.lst (vs++[V.ref t1])) ne2.symm;have k8:=k6.trans ((k7.trans a1.kp).l.trans (Kp.r (Kp.upd (o:=.lst (vs++[V.ref t1])) ZO)));refine⟨_,ZO,by omega,?_⟩;have g18:=af (H:=upd H7 t1 (.tup [V.int n,on o])) (a:=D2) (o:=.lst (vs++[V.ref t1]));generalize upd (upd H7 t1 (.tup [V.int n,on o])) D2 (.lst (vs++[V.ref t1]))=G8 at *;obtain⟨y8,ep8⟩:=La.lst;rw[e3]
     ext
     refine⟨p,4,rfl,La,by decide,by decide,λm H9 m0 m1 F3 k9=>⟨m,rfl,_,_,_,ws++[(n,o)],rfl,k9.keep D2 _ g18 ne2,gg.fr (Fr.kp ep5 ep8 k9),by rw[ar,g3];rfl,⟨by omega,by omega⟩,λx hx=>?_,?_,F3,k8.trans k9.l⟩⟩
     . rcases de.mp hx with hx | hx
       . have:=g5 x hx;exact⟨this.1,by omega,this.2.2⟩
       . rw[cq.mp hx];exact⟨g4.1,by show n < _;omega,so⟩
     . rw[bj];refine Bh g6 λx hx=>?_;obtain⟨y,hy,rfl⟩:=fg.mp hx;exact(g5 y hy).2.1
   . rintro σ H6 ⟨v8,n,vs,ws,rfl,g1,g2,g3,g4,g5,g6,hp6,k6⟩;rw[e4]
     ext
     have k46:Kp K p H4 H6:=(kD.trans k6).kp nD2;have Yt:=k46.keep R _ ZN OJ;obtain⟨y4,ep4⟩:=yL.lst;have f46:=Fr.kp (H0:=G0) ZK ep4 k46;have h26:=h24.fr f46;refine⟨.inl ⟨_,aQ.of Yt⟩,λT nT=>?_⟩;have a1:=bM (.tup [V.int (lo + i),V.ref D2]) nT;have U1:=a1.at Yt;have nb:∀a,new K H4 a->new K G0 a:=λa n=>vj h74 ep4 ZN n;have n5:∀a,new K H5 a->new K G0 a:=λa n=>nb a (dX (kD.kp nD2) ep5 n);have Qn:aL K G0 (upd H6 T (.tup [V.int (lo + i),V.ref D2])) (fF (lo + i,ws)) (.ref T):=by
       unfold fF;exact aL.tt.mpr ⟨T,_,rfl,aF,ai.cons (aL.ii.mpr rfl) (ai.cons (aL.ll.mpr ⟨D2,vs,rfl,nb D2 nD2,a1.at g1,(g2.qx n5).ext a1⟩) ai.nil)⟩
     have gg:=(h26.ext a1).map Qn;have f8:=Fr.kp (K:=K) e0R U1 (Kp.upd (o:=.lst (us++[V.ref T])) U1);have gg:=gg.fr f8;refine⟨_,U1,by omega,_,_,_,_,_,rows++[(lo + i,ws)],rfl,rfl,gg,by rw[ar];simp;omega,?_,((hp6.ext a1).upd OJ.symm),fr4.trans (f46.trans ((Fr.ext a1).trans f8)),h74.trans ((k46.trans a1.kp).l.trans (Kp.r (Kp.upd U1)))⟩;refine⟨⟨by rw[ar];simp;omega,by rw[ar];simp;omega⟩,λr hr=>?_,λr hr=>?_,?_⟩
     . rcases de.mp hr with hr | hr
       . have:=h4.k r hr;omega
       . rw[cq.mp hr];constructor <;> (dsimp only;omega)
     . rcases de.mp hr with hr | hr
       . exact h4.v r hr
       . rw[cq.mp hr];exact⟨by dsimp only;omega,λq hq=>⟨(g5 q hq).1,by have:=(g5 q hq).2.1;omega,(g5 q hq).2.2⟩,g6⟩
     . rw[bj];refine Bh h4.up λx hx=>?_;obtain⟨y,hy,rfl⟩:=fg.mp hx;exact(h4.k y hy).2
 . rintro σ H1 ⟨v5,v6,v7,v8,us,rows,rfl,h1,h2,h3,h4,h5,h6,h7⟩
   ext
   rw[<- eG]at h7 h2;have el:lo + ((hi - lo).toNat:Int)=hi:=X2
   rw[el]at h4;exact q R us rows H1 nR h1 (h2.old (Ext.new nR)) h4 h5 (h7.kp nR)
def Nt.rn (e:Nt):RN:=⟨some e.n,some e.lo,some e.hi,some e.t,some e.m⟩
def Nt.d (e:Nt):PyData:=e.rn.d
theorem Ij {a:Addr}{t:bR}(h:tupQ K H a=some t.v):aL K H0 H (Kz (some t)) (.ref a):=by
 cases t with
 | plus n=>exact aL.tt.mpr ⟨a,_,rfl,h,ai.cons (aL.ss.mpr rfl) (ai.cons (aL.ii.mpr rfl) ai.nil)⟩
 | is n=>exact aL.tt.mpr ⟨a,_,rfl,h,ai.cons (aL.ss.mpr rfl) (ai.cons (aL.ii.mpr rfl) ai.nil)⟩
 | gone=>exact aL.tt.mpr ⟨a,_,rfl,h,ai.cons (aL.ss.mpr rfl) ai.nil⟩
theorem Qo {v:V}{e:Nt}(h:tupQ K H T=some [.int e.n,.int e.lo,.int e.hi,v])(g:xB K H v e.t e.m):aL K H0 H e.d (.ref T):=by
 obtain⟨a,r,s,rfl,h1,h2,h3⟩:=g;exact aL.tt.mpr ⟨T,_,rfl,h,ai.cons (aL.ii.mpr rfl) (ai.cons (aL.ii.mpr rfl) (ai.cons (aL.ii.mpr rfl) (ai.cons (aL.tt.mpr ⟨a,_,rfl,h1,ai.cons (Ij h2) (ai.cons (Ij h3) ai.nil)⟩) ai.nil)))⟩
theorem xB.ext {v:V}{t m:bR}(h:xB K H v t m)(x:Ext K H H'):xB K H' v t m:=by
 obtain⟨a,r,s,e,h1,h2,h3⟩:=h;exact⟨a,r,s,e,x.tup h1,x.tup h2,x.tup h3⟩
structure U3 (lo hi f:Int)(e:Nt):Prop where
 s:lo<=e.lo/\e.lo < e.hi/\e.hi<=hi
 n:40 * f < e.n/\e.n < 40 * f + 40
 t:e.t.sm
 m:e.m=.gone∨∃i,e.m=.is i/\i.natAbs < 10 ^ 60/\e.hi - e.lo=1
structure Qp (lo hi f a:Int)(aM:List Nt):Prop where
 l:aM.length<=5/\(aM.length:Int)<=a
 e:∀e∈aM,U3 lo hi f e
 up:(aM.map (·.n)).Pairwise (· < ·)
inductive Bk (K:Frag)(vs:List V)(H:Hp)(Q:VK)(E9:XK):Prop
 | mk (p rv a b c pl eT e0 e1 nT n0 n1 f:_) (_:vs=[.ref p,rv,.ref eT,.ref nT,.int f]) (_:Wl H p) (_:iM K H rv a b c pl) (_:F2 a b c pl) (_:tupQ K H eT=some [.int e0,.int e1]) (_:tupQ K H nT=some [.int n0,.int n1]) (_:e0<=n0) (_:n0 < n1) (_:n1<=e1) (_:n1<=n0 + 30) (_:1<=f) (_:f<=3) (_:0<=e0) (_:e1<=10 ^ 12) (_:∀D us aM H',new K H D->H' D=some (.lst us)->ai K H H' (aM.map Nt.d) us->Qp e0 e1 f a aM->Wl H' p->Kp K p H H'->Q (.ref D) H')
include B in
theorem Bl (F:bT K "_law_tray" "_law_tray" fk f fd)(ak:⋯ "_law_draw" 1 ["_law_well_here","_law_many"] (jj K))(jT:⋯ "_law_action" 3 ["_law_well_here","_law_wide"] (Dq K)):(!0) 4 f fd ["_law_well_here","_law_rule_here","_law_ends","_law_near","_law_floor"] (Bk K):=by
 exists 0,["_law_well_here","_law_rule_here","_law_ends","_law_near","_law_floor","_law_number_here","_law_found_here","_law_k","_law_low","_law_high","_law_some"]
 obtain⟨p,rv,a,b,c,pl,eT,w0,w1,nT,n0,n1,f,rfl,hp,⟨R0,rfl,hR0⟩,ro,he,hn,l0,l1,l2,l3,f1,f2,l4,l5,q⟩:=h;refine aq (rest:=(fC ((aj fk).getD 2 'r')).drop 5) (aE (j4 (Uh PySem.F.plainAttrs_list PySem.F.slot_list_append PySem.F.type_list_append fz C9 (aa (mK (aa sJ (aa Dc (aa R7 (aa (ec jT hr (aa bg (aa (fS (mA Ci) (cB (mA gK) R7 Dc) ei (aH _)) ah))) ah))))) ah)))) λr5 J5 e5=>?_;refine aq (rest:=(fC ((aj fk).getD 2 'r')).drop 4) (ao (iW (sW (uv je) Kr 'd' (λ_ _=>rfl)) (kX (dF (n:=2) rfl (aA (gn 8 nk) (aA (gn 9 nk) dN))))) J5) λr4 J4 e4=>?_;refine aq (rest:=(fC ((aj fk).getD 2 'r')).drop 3) (ao (ss 10 nk (jG (aa (mK (aa Dc (aa (cB (mA bu) Dc ei) ah))) (aa (mK (aa Dc (aa (cB (mA bu) Dc ei) ah))) (aa (mK (aa Dc (aa R7 ah))) (aa eB (aa (mK (aa (iq eB) (aa R7 ah))) (aa (mK (aa Dc (aa (iq eB) ah))) ah)))))))) J4) λr3 J3 e3=>?_;refine aq (rest:=(fC ((aj fk).getD 2 'r')).drop 2) (ao (ss 9 nk (cB (mA bu) (cB (mA bu) Dc ei) (ec ak hr (aa bg (aa (cB (mA gK) (iq gC) Dc) ah))))) J3) λr2 J2 e2=>?_;refine aq (rest:=(fC ((aj fk).getD 2 'r')).drop 1) (ao (ss 8 nk (cB (mA bu) (iq gC) (ec ak hr (aa bg (aa (cB (mA gK) (iq gC) (iq gC)) ah))))) J2) λr1 J1 e1=>?_;refine⟨_,(ao (ss 5 nk (cB (mA bu) (cB (mC gx) ei jA) 'd')) (ao (ss 6 nk (jG ah)) (ao (mH PassesOwn.never rfl (RE (jE rfl B.range (am (aa (ec ak hr (aa bg (aa (cB (mA bu) (bL (sQ rfl) rfl B.min EN (aa (iq cF) (aa ei ah))) ei) ah))) ah)))) (gn 7 nk) (ao (ss 5 nk (cB (mA bu) (cB (mA bu) sJ ei) (sW (uv je) (jG (aa ei (aa ei (aa 'd' ah)))) 'd' (λ_ _=>rfl)))) J1)) (aE (aR C9))))),?_⟩
 ext
 refine⟨p,8,rfl,hp,by decide,by decide,λd H1 d0 d1 qO k1=>⟨d,rfl,λR nR=>?_⟩⟩;obtain⟨yp,ep⟩:=hp.lst;have x1:=bM (.lst []) nR;have OJ:R≠p:=qO.ne nR;obtain⟨y1,ep1⟩:=qO.lst;have Qm:=x1.tup (k1.tup ep hR0);have heT:=x1.tup (k1.tup ep he);have ZP:=x1.tup (k1.tup ep hn);simp_arith [↓eqT Qm];refine⟨p,_,rfl,qO.ext x1,by have:=ro.a;omega,by have:=ro.a;omega,λm H2 m0 m1 mY k2=>⟨m,rfl,by omega,by omega,?_⟩⟩;have hm5:m<=5/\m<=a:=X2
 have e2R:H2 R=some (.lst []):=k2.keep R _ af OJ;obtain⟨y2,e2p⟩:=mY.lst;obtain⟨yx,epx⟩:=(qO.ext x1).lst;have Qm:=k2.tup epx Qm;have heT:=k2.tup epx heT;have ZP:=k2.tup epx ZP;have kR:pO K p R (upd H1 R (.lst [])) H2:=k2.l;refine gP (λi σ H'=>Ex8 λ(n:Int) (v6 v7 v8 v9 v10:Option V) (us:List V) (aM:List Nt)=>UT (rH σ [some (.ref p),some (.ref R0),some (.ref eT),some (.ref nT),some (.int f),some (.int n),some (.ref R),v6,v7,v8,v9]) (H' R=some (.lst us)) (ai K H2 H' (aM.map Nt.d) us) (aM.length=i) (40 * f<=n/\n<=40 * f + 7 + 5 * i) (∀e∈aM,U3 w0 w1 f e/\e.n<=n) ((aM.map (·.n)).Pairwise (· < ·)) (Wl H' p) (Fr K H2 H2 H') (pO K p R H2 H')) ⟨_,_,_,_,_,none,[],[],rfl,e2R,ai.nil,rfl,by omega,λ_ h=>absurd h List.not_mem_nil,.nil,mY,Fr.ext Ext.refl,pO.refl⟩ ?_ ?_
 . rintro i σ H3 hi ⟨n,v6,v7,v8,v9,_,us,aM,rfl,h1,h2,h3,h4,h5,h6,h7,h8,h9⟩
   ext
   have hi5:i < 5:=X2
   obtain⟨y3,ep3⟩:=h7.lst;refine⟨p,5,rfl,h7,by decide,by decide,λg H4 g0 g1 yL k4 D1 nD1=>?_⟩;have z1:=bM (.lst [V.int 0,V.int 0,V.int g]) nD1;refine⟨p,3,rfl,yL.ext z1,by decide,by decide,λm3 H5 m30 m31 yM k5=>⟨m3,rfl,_,aJ (k5.keep D1 _ af (yL.ne nD1)),?_⟩⟩;obtain⟨u,eu,hu⟩:∃n,j3 [V.int 0,V.int 0,V.int g] m3=some (.int n)/\0<=n/\n<=4:=by
     rcases(by omega:m3=0∨m3=1∨m3=2)with rfl | rfl | rfl
     . exact⟨0,rfl,by decide,by decide⟩
     . exact⟨0,rfl,by decide,by decide⟩
     . exact⟨g,rfl,by omega,by omega⟩
   have k35:=k4.trans (z1.kp.trans k5);have f5:=h8.trans (Fr.kp e2p ep3 k35);have hn5:=f5.t _ _ ZP;refine⟨_,eu,u,rfl,?_⟩;rw[e1];simp_arith [↓eqT hn5];refine⟨p,_,rfl,yM,by omega,by omega,λl H6 l00 l01 hp6 k6=>⟨l,rfl,?_⟩⟩;rw[e2];obtain⟨y5,ep5⟩:=yM.lst;have f6:=f5.trans (Fr.kp e2p ep5 k6);have hn6:=f6.t _ _ ZP;simp_arith [↓eqT hn6];refine⟨p,_,rfl,hp6,by omega,by omega,λr H7 ra rb vh k7=>⟨r,rfl,?_⟩⟩;rw[e3];obtain⟨y6,ep6⟩:=hp6.lst;have f7:=f6.trans (Fr.kp e2p ep6 k7);have Sf:=f7.t _ _ heT
   ext
   intro s1 m1 s2 m2 s3 m3';have b1:=bM (.tup [V.int (n0 + l),V.int (n0 + l + 1)]) m1;have b2:=bM (.tup [V.int (n0 + l),V.int (n0 + l + 1)]) m2;have b3:=bM (.tup [V.int (n0 + l),V.int (n0 + l + 1 + r)]) m3';refine⟨_,aZ ((b1.trans (b2.trans b3)).tup Sf),_,rfl,λs4 m4=>?_⟩;have b4:=bM (.tup [V.int w0,V.int (n0 + l + 1 + r)]) m4;refine⟨_,aZ ((b1.trans (b2.trans (b3.trans b4))).tup Sf),_,rfl,λs5 m5 s6 m6=>?_⟩;have b5:=bM (.tup [V.int (n0 + l),V.int w1]) m5;have b6:=bM (.lst [V.ref s1,V.ref s2,V.ref s3,V.ref eT,V.ref s4,V.ref s5]) m6;have B6:=b1.trans (b2.trans (b3.trans (b4.trans (b5.trans b6))));have q1:=(b2.trans (b3.trans (b4.trans (b5.trans b6)))).tup (aF (H:=H7) (a:=s1) (xs:=[V.int (n0 + l),V.int (n0 + l + 1)]));have q2:=(b3.trans (b4.trans (b5.trans b6))).tup (aF (H:=upd H7 s1 (.tup [V.int (n0 + l),V.int (n0 + l + 1)])) (a:=s2) (xs:=[V.int (n0 + l),V.int (n0 + l + 1)]));have q3:=(b4.trans (b5.trans b6)).tup (aF (a:=s3) (xs:=[V.int (n0 + l),V.int (n0 + l + 1 + r)]));have q4:=(b5.trans b6).tup (aF (a:=s4) (xs:=[V.int w0,V.int (n0 + l + 1 + r)]));have q5:=b6.tup (aF (a:=s5) (xs:=[V.int (n0 + l),V.int w1]));have q6:=B6.tup Sf;have aby:s6≠p:=(vh.ext (b1.trans (b2.trans (b3.trans (b4.trans b5))))).ne m6;have hs6:=af (H:=upd (upd (upd (upd (upd H7 s1 (.tup [V.int (n0 + l),V.int (n0 + l + 1)])) s2 (.tup [V.int (n0 + l),V.int (n0 + l + 1)])) s3 (.tup [V.int (n0 + l),V.int (n0 + l + 1 + r)])) s4 (.tup [V.int w0,V.int (n0 + l + 1 + r)])) s5 (.tup [V.int (n0 + l),V.int w1])) (a:=s6) (o:=.lst [V.ref s1,V.ref s2,V.ref s3,V.ref eT,V.ref s4,V.ref s5]);have La:=vh.ext B6;have f8:=f7.trans (Fr.ext B6);have k8:=k35.trans (k6.trans (k7.trans B6.kp));generalize upd (upd (upd (upd (upd (upd H7 s1 _) s2 _) s3 _) s4 _) s5 _) s6 _=G8 at q1 q2 q3 q4 q5 q6 hs6 La f8 k8 ⊢;rw[e4]
   ext
   refine⟨p,6,rfl,La,by decide,by decide,λd6 H9 d60 d61 F3 k9=>⟨d6,rfl,_,aJ (k9.keep s6 _ hs6 aby),?_⟩⟩;obtain⟨y8,ep8⟩:=La.lst;obtain⟨S,lo,eY,eS,qS,Y5⟩:∃S lo eY,j3 [V.ref s1,V.ref s2,V.ref s3,V.ref eT,V.ref s4,V.ref s5] d6=some (.ref S)/\tupQ K G8 S=some [V.int lo,V.int eY]/\w0<=lo/\lo < eY/\eY<=w1:=by
     rcases(by omega:d6=0∨d6=1∨d6=2∨d6=3∨d6=4∨d6=5)with rfl | rfl | rfl | rfl | rfl | rfl
     . exact⟨s1,_,_,rfl,q1,by omega,by omega,by omega⟩
     . exact⟨s2,_,_,rfl,q2,by omega,by omega,by omega⟩
     . exact⟨s3,_,_,rfl,q3,by omega,by omega,by omega⟩
     . exact⟨eT,_,_,rfl,q6,by omega,by omega,by omega⟩
     . exact⟨s4,_,_,rfl,q4,by omega,by omega,by omega⟩
     . exact⟨s5,_,_,rfl,q5,by omega,by omega,by omega⟩
   have qS:=k9.tup ep8 qS;clear q1 q2 q3 q4 q5 q6 hs6 b1 b2 b3 b4 b5 b6 B6;refine⟨_,eS,S,rfl,_,qS,rfl,_,_,rfl,_,_,rfl,rfl,?_⟩;have f9:=f8.trans (Fr.kp e2p ep8 k9);have k39:=k8.trans k9;have h19:=k39.keep R _ h1 OJ;rw[e5]
   ext
   refine⟨.inl ⟨_,aQ.of h19⟩,p,_,rfl,F3,λv t m H10 hv st sm gm hp10 k10 T nT=>?_⟩;obtain⟨y9,ep9⟩:=F3.lst;have a1:=bM (.tup [V.int (n + 1 + u),V.int lo,V.int eY,v]) nT;have Qq:=a1.at (k10.keep R _ h19 OJ);have lu:us.length=aM.length:=by rw[h2.len,ab]
   have f39:=(Fr.kp (K:=K) (H0:=H2) e2p ep3 k39).trans ((Fr.kp e2p ep9 k10).trans (Fr.ext a1));have Qn:aL K H2 (upd H10 T (.tup [V.int (n + 1 + u),V.int lo,V.int eY,v])) (Nt.d ⟨n + 1 + u,lo,eY,t,m⟩) (.ref T):=Qo aF (hv.ext a1);have fu:=Fr.kp (K:=K) e2R Qq (Kp.upd (o:=.lst (us++[V.ref T])) Qq);have gg:=((h2.fr f39).map Qn).fr fu;refine⟨_,Qq,by omega,_,_,_,_,_,none,_,aM++[⟨n + 1 + u,lo,eY,t,m⟩],rfl,rfl,gg,by rw[ar,h3];rfl,⟨by omega,by omega⟩,λe he=>?_,?_,(hp10.ext a1).upd OJ.symm,h8.trans (f39.trans fu),h9.trans ((k39.trans (k10.trans a1.kp)).l.trans (Kp.r (Kp.upd Qq)))⟩
   . rcases de.mp he with he | he
     . exact⟨(h5 e he).1,by have:=(h5 e he).2;omega⟩
     . rw[cq.mp he];refine⟨⟨Y5,⟨by dsimp only;omega,by dsimp only;omega⟩,st,?_⟩,mx _⟩;rcases gm with gm | ⟨g1,i',gi⟩
       . exact .inl gm
       . rw[gi]at sm;exact .inr ⟨i',gi,sm,by have:=of_decide_eq_false g1;dsimp only;omega⟩
   . rw[bj];refine Bh h6 λx hx=>?_;obtain⟨y,hy,rfl⟩:=fg.mp hx;have:=(h5 y hy).2;show y.n < n + 1 + u;omega
 . rintro σ H3 ⟨n,v6,v7,v8,v9,_,us,aM,rfl,h1,h2,h3,h4,h5,h6,h7,h8,h9⟩
   ext
   refine q R us aM H3 (dX k1 ep1 nR) h1 (h2.qx λa n=>dX k1 ep1 (bB x1 (dX k2 e2p n))) ⟨by omega,λe he=>(h5 e he).1,h6⟩ h7 (k1.trans ((kR.trans h9).kp nR))
inductive Tr where
 | leaf (a:Addr) (lo hi:Int) (rows:List (Int×List lq))
 | inner (a:Addr) (lo hi:Int) (aV:List Int) (aM:List Nt) (kids:List Tr)
def Tr.a:Tr->Addr
 | .leaf a _ _ _=>a
 | .inner a _ _ _ _ _=>a
mutual
def Tr.adr:Tr->List Addr
 | .leaf a _ _ _=>[a]
 | .inner a _ _ _ _ ks=>a::gW ks
def gW:List Tr->List Addr
 | []=>[]
 | t::ts=>t.adr++gW ts
end
mutual
def bq (a b c:Int):Tr->Nat->Int->Int->Prop
 | .leaf _ l h rows,f,lo,hi=>f=0/\l=lo/\h=hi/\lo < hi/\yN lo hi c rows
 | .inner _ l h aV aM kids,f,lo,hi=>l=lo/\h=hi/\aV.length<=3/\(aV.length:Int) + 1<=b/\∃g,f=g + 1/\Qp lo hi f a aM/\bz a b c kids g lo aV hi
def bz (a b c:Int):List Tr->Nat->Int->List Int->Int->Prop
 | [],_,_,_,_=>False
 | t::ts,g,lo,[],hi=>bq a b c t g lo hi/\ts=[]
 | t::ts,g,lo,q::qs,hi=>bq a b c t g lo q/\bz a b c ts g q qs hi
end
def kE:Key:=.inr "ends"
def kR:Key:=.inr "rows"
def kC:Key:=.inr "kids"
def Ak:Key:=.inr "pivots"
def kT:Key:=.inr "tray"
def kN:Key:=.inr "number"
theorem Qs:kE≠kC:=X9
theorem NT:Ak≠kC:=X9
theorem U4:kT≠kC:=X9
def F4:Option Int->List (Key×V)
 | none=>[]
 | some n=>[(kN,.int n)]
mutual
def iN (K:Frag)(H0 H:Hp)(S:Addr->Option Int):Tr->Prop
 | .leaf a lo hi rows=>∃e R Z us,H a=some (.dK ([(kE,.ref e),(kR,.ref R),(kC,.ref Z)]++F4 (S a)))/\new K H0 a/\tupQ K H e=some [.int lo,.int hi]/\new K H0 R/\H R=some (.lst us)/\ai K H0 H (rows.map fF) us/\new K H0 Z/\H Z=some (.lst [])
 | .inner a lo hi aV aM kids=>∃e D Y Z us,H a=some (.dK ([(kE,.ref e),(Ak,.ref D),(kT,.ref Y),(kC,.ref Z)]++F4 (S a)))/\new K H0 a/\tupQ K H e=some [.int lo,.int hi]/\(new K H0 D/\H D=some (.lst (aV.map V.int)))/\(new K H0 Y/\H Y=some (.lst us)/\ai K H0 H (aM.map Nt.d) us)/\(new K H0 Z/\H Z=some (.lst (kids.map λt=>.ref t.a)))/\cu K H0 H S kids
def cu (K:Frag)(H0 H:Hp)(S:Addr->Option Int):List Tr->Prop
 | []=>True
 | t::ts=>iN K H0 H S t/\cu K H0 H S ts
end
mutual
theorem iN.fr {H0 H H':Hp}{S:Addr->Option Int}(k:Fr K H0 H H'):∀{t:Tr},iN K H0 H S t->iN K H0 H' S t
 | .leaf a lo hi rows,h=>by
   unfold iN at h ⊢;obtain⟨e,R,Z,us,h1,n1,h2,n3,h3,h4,n5,h5⟩:=h;exact⟨e,R,Z,us,k.k _ _ n1 h1,n1,k.t _ _ h2,n3,k.k _ _ n3 h3,h4.fr k,n5,k.k _ _ n5 h5⟩
 | .inner a lo hi aV aM kids,h=>by
   unfold iN at h ⊢;obtain⟨e,D,Y,Z,us,h1,n1,h2,⟨n3,h3⟩,⟨n4,h4,h5⟩,⟨n6,h6⟩,h7⟩:=h;exact⟨e,D,Y,Z,us,k.k _ _ n1 h1,n1,k.t _ _ h2,⟨n3,k.k _ _ n3 h3⟩,⟨n4,k.k _ _ n4 h4,h5.fr k⟩,⟨n6,k.k _ _ n6 h6⟩,cu.fr k h7⟩
theorem cu.fr {H0 H H':Hp}{S:Addr->Option Int}(k:Fr K H0 H H'):∀{ts:List Tr},cu K H0 H S ts->cu K H0 H' S ts
 | [],h=>h
 | t::ts,h=>by
   unfold cu at h ⊢;exact⟨iN.fr k h.1,cu.fr k h.2⟩
end
mutual
theorem iN.old {H0 H1 H:Hp}{S:Addr->Option Int}(x:∀a,new K H0 a->new K H1 a):∀{t:Tr},iN K H0 H S t->iN K H1 H S t
 | .leaf a lo hi rows,h=>by
   unfold iN at h ⊢;obtain⟨e,R,Z,us,h1,n1,h2,n3,h3,h4,n5,h5⟩:=h;exact⟨e,R,Z,us,h1,x _ n1,h2,x _ n3,h3,h4.qx x,x _ n5,h5⟩
 | .inner a lo hi aV aM kids,h=>by
   unfold iN at h ⊢;obtain⟨e,D,Y,Z,us,h1,n1,h2,⟨n3,h3⟩,⟨n4,h4,h5⟩,⟨n6,h6⟩,h7⟩:=h;exact⟨e,D,Y,Z,us,h1,x _ n1,h2,⟨x _ n3,h3⟩,⟨x _ n4,h4,h5.qx x⟩,⟨x _ n6,h6⟩,cu.old x h7⟩
theorem cu.old {H0 H1 H:Hp}{S:Addr->Option Int}(x:∀a,new K H0 a->new K H1 a):∀{ts:List Tr},cu K H0 H S ts->cu K H1 H S ts
 | [],h=>h
 | t::ts,h=>by
   unfold cu at h ⊢;exact⟨iN.old x h.1,cu.old x h.2⟩
end
mutual
theorem iN.adr {H0 H:Hp}{S:Addr->Option Int}:∀{t:Tr},iN K H0 H S t->∀a∈t.adr,new K H0 a/\∃o,H a=some (.dK o)
 | .leaf a lo hi rows,h,b,hb=>by
   unfold iN at h;unfold Tr.adr at hb;obtain⟨e,R,Z,us,h1,n1,_⟩:=h;rw[cq.mp hb];exact⟨n1,_,h1⟩
 | .inner a lo hi aV aM kids,h,b,hb=>by
   unfold iN at h;unfold Tr.adr at hb;obtain⟨e,D,Y,Z,us,h1,n1,_,_,_,_,h7⟩:=h;rcases List.mem_cons.mp hb with rfl | hb
   . exact⟨n1,_,h1⟩
   . exact cu.adr h7 b hb
theorem cu.adr {H0 H:Hp}{S:Addr->Option Int}:∀{ts:List Tr},cu K H0 H S ts->∀a∈gW ts,new K H0 a/\∃o,H a=some (.dK o)
 | [],_,b,hb=>by
   unfold gW at hb;cases hb
 | t::ts,h,b,hb=>by
   unfold cu at h;unfold gW at hb;rcases de.mp hb with hb | hb
   . exact iN.adr h.1 b hb
   . exact cu.adr h.2 b hb
end
theorem cu.snoc {H0 H:Hp}{S:Addr->Option Int}{t:Tr}(g:iN K H0 H S t):∀{ts:List Tr},cu K H0 H S ts->cu K H0 H S (ts++[t])
 | [],_=>by
   show cu K H0 H S [t];unfold cu;exact⟨g,by unfold cu;trivial⟩
 | u::ts,h=>by
   unfold cu at h;show cu K H0 H S (u::(ts++[t]));unfold cu;exact⟨h.1,cu.snoc g h.2⟩
theorem o7 (t:Tr):∀ts:List Tr,gW (ts++[t])=gW ts++t.adr
 | []=>by
   show gW [t]=_;unfold gW;simp[gW]
 | u::ts=>by
   show gW (u::(ts++[t]))=_;unfold gW;rw[o7 t ts,gL]
theorem Kp.gX {u o:HO}(h:H p=some u):Kp K p H (upd H p o):=⟨λq u e n=>by rw[au n];exact e,λb ys e _=>by rw[au (λz=>by rw[z,h]at e;cases e)];exact e⟩
theorem Fr.tW {o0 o':HO}(h0:H0 A=some o0)(hA:H A=some (.dK aB)):Fr K H0 H (upd H A o'):=
 ⟨λa o n h=>by rw[au (λz=>by rw[z]at n;rw[n.1]at h0;cases h0)];exact h,λa xs h=>by
   rw[rj (λz=>by rw[z]at h;unfold tupQ at h;rw[hA]at h;cases h)];exact h⟩
theorem yN.mono {lo jx eY c:Int}{rows:List (Int×List lq)}(h:yN lo hi c rows)(h1:jx<=lo)(h2:hi<=eY):yN jx eY c rows:=⟨h.l,λr hr=>by have:=h.k r hr;omega,h.v,h.up⟩
theorem Sg {hi:Int}:∀{aV:List Int}{lo:Int}{i:Nat},aV.Pairwise (· < ·)->(∀k∈aV,lo < k/\k < hi)->lo < hi->i < aV.length + 1->∃l h,(lo::aV)[i]?=some l/\(aV++[hi])[i]?=some h/\lo<=l/\l < h/\h<=hi
 | [],lo,i,_,_,lh,eY=>by
   obtain rfl:i=0:=by simp at eY;exact eY
   exact⟨lo,hi,rfl,rfl,mx _,lh,mx _⟩
 | q::ps,lo,i,up,U5,lh,eY=>by
   have hq:=U5 q Y2;cases i with
   | zero=>exact⟨lo,q,rfl,rfl,mx _,hq.1,by omega⟩
   | succ i=>
     rw[List.pairwise_cons]at up;obtain⟨l,h,e1,e2,h1,h2,h3⟩:=Sg (aV:=ps) (lo:=q) (i:=i) up.2 (λk hk=>⟨up.1 k hk,(U5 k (by simp[hk])).2⟩) hq.2 (by simp at eY;omega);exact⟨l,h,e1,e2,by omega,h2,h3⟩
theorem dI {i:Nat}{v:V}(h:xs[i]?=some v):j3 xs (0 + (i:Int))=some v:=by
 have hl:=(bo.mp h).1;unfold j3 ED;rw[t5,Hk X2,Hk X2,my];exact h
theorem NU {a b c hi:Int}{g:Nat}:∀{ts:List Tr}{aV:List Int}{lo:Int},ts.length=aV.length + 1->(∀(j:Nat) (t:Tr),ts[j]?=some t->∃l,(lo::aV)[j]?=some l/\∃h,(aV++[hi])[j]?=some h/\bq a b c t g l h)->bz a b c ts g lo aV hi
 | [],_,_,h,_=>by simp at h
 | t::ts,[],lo,h,k=>by
   unfold bz;obtain⟨l,e1,h',e2,ok⟩:=k 0 t rfl;cases e1;cases e2;exact⟨ok,px.mp (by simpa using h)⟩
 | t::ts,q::qs,lo,h,k=>by
   unfold bz;obtain⟨l,e1,h',e2,ok⟩:=k 0 t rfl;cases e1;cases e2;exact⟨ok,NU (by simpa using h) λj u hj=>k (j + 1) u hj⟩
inductive o8 (K:Frag)(n:Nat)(vs:List V)(H:Hp)(Q:VK)(E9:XK):Prop
 | mk (p rv a b c pl bs eT e0 e1:_) (f:Nat) (_:vs=[.ref p,rv,.int bs,.ref eT,.int f]) (_:3 + f < n) (_:f<=3) (_:Wl H p) (_:iM K H rv a b c pl) (_:F2 a b c pl) (_:tupQ K H eT=some [.int e0,.int e1]) (_:(0<=e0/\e0 < e1/\e1<=10 ^ 12)) (_:(0<=bs/\bs<=10 ^ 12)) (_:∀t H',iN K H H' (λ_=>none) t->bq a b c t f e0 e1->t.adr.Nodup->Wl H' p->Kp K p H H'->Q (.ref t.a) H')
include B in
theorem xE {n:Nat}(F:bT K "_law_room" "_law_room" bG f fd)(ak:⋯ "_law_draw" 1 ["_law_well_here","_law_many"] (jj K))(cY:⋯ "_law_rows" 3 ["_law_well_here","_law_rule_here","_law_low","_law_high"] (vm K))(cZ:⋯ "_law_tray" 4 ["_law_well_here","_law_rule_here","_law_ends","_law_near","_law_floor"] (Bk K))(iG:⋯ "_law_room" (4 + n) ["_law_well_here","_law_rule_here","_law_base","_law_ends","_law_floor"] (o8 K n)):(!0) (4 + n + 1) f fd ["_law_well_here","_law_rule_here","_law_base","_law_ends","_law_floor"] (o8 K (n + 1)):=by
 exists 0,["_law_well_here","_law_rule_here","_law_base","_law_ends","_law_floor","_law_near","_law_some","_law_many","_law_pivots","_law_lows","_law_highs","_law_room_here"]
 obtain⟨p,rv,a,b,c,pl,bs,eT,lo,hi,f,rfl,hf,f3,hp,⟨R0,rfl,hR0⟩,ro,he,ee,hbs,q⟩:=h;exists 2,bG,10,aE (aR Ks),r10,J10,e10;exists 2,bG,9,ao (Hh hr.units Ks dM (pP (ck [ "_law_k","_law_well_here","_law_rule_here","_law_base","_law_floor","_law_lows","_law_highs" ] [none,some 0,some 1,some 2,some 4,some 9,some 10]) rfl (RE (jE rfl B.range (am (aa (tN B.len R7) ah)))) 'j' 'v' (λ_ _ _ _=>(vU iG (hr.mono X2) rfl (aa cF (aa eB (aa gC (aa (RG (qm K (am (aa (sW (uv (GS K)) sJ bg (λ_ _=>rfl)) (aa (sW (uv (GS K)) C9 bg (λ_ _=>rfl)) ah))))) (aa (cB (mA gK) jA ei) ah))))))))) J10,r9,J9,e9;exists 2,bG,8,ao (ss 11 nk (Fj (nj gC (nj Dc (nj (vU cZ (hr.mono X2) rfl (aa bg (aa cF (aa gC (aa sJ (aa jA ah)))))) UG))))) J9,r8,J8,e8;exists 2,bG,7,ao (sset (i:=10) nk rfl (Or.inr rfl) (cB cR Dc (jG (aa (iq gC) ah)))) J8,r7,J7,e7;exists 2,bG,6,ao (sset (i:=9) nk rfl (Or.inr rfl) (cB cR (jG (aa (iq gC) ah)) Dc)) J7,r6,J6,e6;exists 2,bG,5,ao (ss 8 nk (qp rfl rfl B.sorted rfl B.set (aa (pP (ck [ "_law_k","_law_some","_law_well_here" ] [none,some 6,some 0]) rfl (RE (jE rfl B.range (am (aa Qi ah)))) 'j' 'v' (λ_ _ _ _=>(sW (uv (GS K)) cF (vU ak (hr.mono X2) rfl (aa eB (aa (bL (XR (EW K)) rfl B.len EM (aa cF ah)) ah))) (λ_ _=>rfl)))) ah))) J6,r5,J5,e5;exists 2,bG,4,ao (ss 7 nk (cB (mC gx) (vU ak (hr.mono X2) rfl (aa bg (aa (bL (sQ rfl) rfl B.min EN (aa (iq cF) (aa ei ah))) ah))) (cX sV rfl B.int vL (aa (fS (UB (eI (ma _ 64) hr.units)) C9 (jG ah) (aH _)) ah)))) J5,r4,J4,e4;exists 2,bG,3,ao (sset (i:=6) nk rfl (Or.inr rfl) (pP (ck [ "_law_key","_law_ends" ] [none,some 3]) rfl (r2M (AQ rfl B.range (am (aa eB (aa (cB (mA bu) eB ei) ah))))) 'j' (λ_ _ _ _=>(yv (UQ (ET (om (mA i9)) (om (mA i9)) (jm (Ku K cF)) cN (jm (Ku K cF)))))) (λ_ _ _ _=>bg))) J4,r3,J3,e3;exists 2,bG,2,ao (iV (cM (cz (om fL) ZJ (jm ei) (aH _))) (aE (aR (Fj (nj gC (nj (vU cY (hr.mono X2) rfl (aa bg (aa cF (aa (iq sJ) (aa (iq sJ) ah))))) (nj (jG ah) UG)))))) cD) J3,r2,J2,e2;exists 2,bG,1,W5 (iV (cM (cz (om (mA QZ)) (jm (iq sJ)) (jm (iq sJ)) (aH _))) (aE (ss 5 nk (mK (aa (iq gC) (aa (cB (mA bu) (iq gC) ei) ah))))) cD) J2,r1,J1,e1;refine⟨_,(ao (ss 5 nk (mK (aa (bL (Jk rfl) rfl B.max Uc (aa (iq gC) (aa eB ah))) (aa (bL (sQ rfl) rfl B.min EN (aa (iq gC) (aa (cB (mA bu) eB ei) ah))) ah)))) J1),?_⟩;simp_arith [↓eqT he];intro N0 nN0;have x1:=bM (.tup [V.int (if bs > lo then bs else lo),V.int (if bs + 24 < hi then bs + 24 else hi)]) nN0;have hN0:tupQ K (upd H N0 (.tup [V.int (if bs > lo then bs else lo),V.int (if bs + 24 < hi then bs + 24 else hi)])) N0=_:=aF;have qO:=hp.ext x1;have Zq:=x1.tup he;have hR1:=x1.tup hR0;generalize eG1:upd H N0 (.tup [V.int (if bs > lo then bs else lo),V.int (if bs + 24 < hi then bs + 24 else hi)])=G1 at *;rw[e1]
 ext
 obtain⟨J,eJ⟩:∃J:St->Hp->Prop,J=λσ G=>∃N n0 n1,σ=[some (V.ref p),some (V.ref R0),some (V.int bs),some (V.ref eT),some (V.int f),some (V.ref N),none,none,none,none,none,none]/\tupQ K G N=some [.int n0,.int n1]/\lo<=n0/\n0 < n1/\n1<=hi/\n1<=n0 + 24/\Ext K H G:=⟨_,rfl⟩
 refine⟨J,?_,?_⟩
 . simp_arith [↓eqT hN0,↓eqT Zq];rw[eJ];refine jP (λc1 T nT=>?_) (λc1=>?_)
   . exact⟨T,lo,lo + 1,rfl,aF,by omega,by omega,by omega,by omega,x1.trans (Ext.new nT)⟩
   . refine⟨N0,_,_,rfl,hN0,?_,?_,?_,?_,x1⟩ <;> (repeat' split) <;> (repeat' split at c1) <;> omega
 intro σ G2 hJ;rw[eJ]at hJ;obtain⟨N,n0,n1,rfl,hN,l0,l1,l2,l3,x2⟩:=hJ;clear eJ J hN0 qO Zq hR1 x1 nN0 eG1;have mY:=hp.ext x2;have Ka:=x2.tup he;have U0:=x2.tup hR0;rw[e2]
 ext
 refine jP (λc0=>?_) (λc0=>?_)
 . intro A nA;have xA:=bM (.dK []) nA;have hA:upd G2 A (.dK []) A=some (.dK []):=af;have kb:∀F,pO K p A (upd G2 A (.dK [])) F->Kp K p H F:=λF k=>x2.kp.trans (k.kp nA);have Yu:=mY.ext xA;have ZQ:=xA.tup Ka;have ZR:=xA.tup U0;have ZS:=xA.tup hN;have U6:A≠p:=mY.ne nA;obtain⟨yA,epA⟩:=Yu.lst;have oA:∀a,new K (upd G2 A (.dK [])) a->new K H a:=λa n=>bB (x2.trans xA) n;generalize upd G2 A (.dK [])=GA at *;refine⟨_,aZ ZS,_,rfl,_,aZ ZS,_,rfl,p,_,a,b,c,pl,n0,n1,rfl,Yu,⟨R0,rfl,ZR⟩,ro,by omega,by omega,by omega,by omega,λD us rows H1 nD hD al rk B4 k3 Z nZ=>?_⟩;have xZ:=bM (.lst []) nZ;have Qt:=k3.keep A _ hA U6;have f3:=(Fr.kp (K:=K) (H0:=GA) epA epA k3).trans (Fr.ext xZ);have ZT:=xZ.at Qt;have f4:=f3.trans (Fr.tW (K:=K) (o':=.dK [(kE,.ref eT),(kR,.ref D),(kC,.ref Z)]) hA ZT);have dA:D≠A:=λz=>by rw[z]at nD;rw[nD.1]at hA;cases hA
   have zA:Z≠A:=λz=>by rw[z]at nZ;rw[nZ.1]at Qt;cases Qt
   refine⟨ZT,q (.leaf A lo hi rows) _ ?_ ?_ ?_ ((B4.ext xZ).upd U6.symm) ?_⟩
   . unfold iN;obtain⟨y3,epA'⟩:=B4.lst;refine⟨eT,D,Z,us,af,bB x2 nA,f4.t _ _ ZQ,oA D nD,by rw[au dA];exact xZ.at hD,?_,oA Z (dX k3 epA' nZ),by rw[au zA];exact af⟩;exact(al.fr ((Fr.ext xZ).trans (Fr.tW hA ZT))).qx oA
   . unfold bq;exact⟨by omega,rfl,rfl,ee.2.1,rk.mono l0 l2⟩
   . unfold Tr.adr;simp
   . exact kb _ (k3.l.trans (xZ.Xa.trans (Kp.r (Kp.gX ZT))))
 rw[e3]
 ext
 refine⟨by omega,by omega,by omega,by omega,λS nS=>?_⟩;refine nc (λi acc σ G=>FI λ(v0:Option V) (ks:List Int)=>Ye (rH σ [v0,some (V.ref eT)]) (acc=ks.map V.int) (ks.length<=i) (∀k∈ks,lo < k/\k < hi) (G S=some (.lst acc)) (Kp K S (upd G2 S (.lst [])) G)) ⟨_,[],rfl,rfl,ag _,λ_ h=>absurd h List.not_mem_nil,af,Kp.refl⟩ ?_ ?_
 . rintro i acc σ G3 eY ⟨v0,ks,rfl,rfl,lk,hk,hS,kS⟩;have h25:i < 25:=X2
   simp_arith [↓eqT (((kS.ext nS).tup Ka))];refine jP (λc1=>jP (λc2=>?_) (λc2=>⟨_,ks,rfl,rfl,by omega,hk,hS,kS⟩)) (λc1=>⟨_,ks,rfl,rfl,by omega,hk,hS,kS⟩);exact⟨hS,by rw[ab];exact eI lk X2,_,ks++[bs + i],rfl,by rw[bj];rfl,by rw[ar];simp;omega,λk D9=>(by rcases de.mp D9 with h | h;exact hk k h;rw[cq.mp h];omega),trivial,kS.trans (Kp.upd hS)⟩
 rintro acc σ G3 ⟨v0,ks,rfl,rfl,lk,hk,hS,kS⟩;have x3:=x2.trans (kS.ext nS);have B4:=hp.ext x3;have Vz:=x3.tup he;have hR3:=x3.tup hR0;have hN3:=(kS.ext nS).tup hN;clear kS mY Ka U0 hN;rw[e4];simp_arith [↓eqT hR3];refine⟨p,_,rfl,B4,by have:=ro.b;split <;> omega,by have:=ro.b;split <;> omega,λm H4 m0 m1 yL k4 E1 nE1=>?_⟩;have hm:m<=3/\m + 1<=b:=by have:=ro.b;split at m1 <;> omega
 have z4:=bM (.lst []) nE1;have neS:S≠p:=λz=>by obtain⟨y,e⟩:=(hp.ext x2).lst;rw[z]at nS;rw[nS.1]at e;cases e
 have ZU:=z4.at (k4.keep S _ hS neS);obtain⟨mm,emm,h00,h01,h02⟩:∃mm:Int,(m * if (!(ks.map V.int).isEmpty)=true then 1 else 0)=mm/\0<=mm/\mm<=m/\(0 < mm->0 < ks.length):=by
   refine⟨_,rfl,?_⟩;cases ks with
   | nil=>simp;omega
   | cons k r=>simp;omega
 refine⟨_,aQ.of ZU,aQ.of af,m,rfl,.inl X2,?_⟩;rw[emm];have Yv:=k4.trans z4.kp;have yM:=yL.ext z4;obtain⟨y3,ep3⟩:=B4.lst;have he5:=Yv.tup ep3 Vz;have hR5:=Yv.tup ep3 hR3;have hN5:=Yv.tup ep3 hN3;have K5:Kp K p H (upd H4 E1 (.lst [])):=x3.kp.trans Yv;clear z4 Vz hR3 hN3 hS Yv;generalize upd H4 E1 (.lst [])=G5 at *;rw[e5]
 ext
 refine⟨by omega,by omega,λD nD=>?_⟩;have F1:D≠p:=yM.ne nD;have abE:S≠D:=ay ZU nD.1;have hpD:=yM.ext (bM (.lst []) nD);refine nc (λi acc σ G=>FI λ(v0:Option V) (ps:List Int)=>Al7 (rH σ [v0,some (V.ref S),some (V.ref p)]) (acc=ps.map V.int) (ps.length=i) (∀k∈ps,lo < k/\k < hi) (G D=some (.lst acc)) (Wl G p) (pO K p D (upd G5 D (.lst [])) G)) ⟨_,[],rfl,rfl,rfl,λ_ h=>absurd h List.not_mem_nil,af,hpD,pO.refl⟩ ?_ ?_
 . rintro i acc σ G6 eY ⟨v0,ps,rfl,rfl,lp,hps,hD,hp6,k6⟩;have hS6:=k6.keep S _ ((bM (.lst []) nD).at ZU) neS abE;have lk0:=h02 X2;simp_arith [↓OG hS6];refine⟨p,_,rfl,hp6,by rw[ab];omega,by rw[ab];omega,λr H7 r0 r1 vh k7=>⟨r,rfl,_,aJ (k7.keep S _ hS6 neS),?_⟩⟩;obtain⟨x,hx,ex⟩:=Yq ks r0 (by rw[ab]at r1;exact r1);have hD7:=k7.keep D _ hD F1;exact⟨_,ex,hD7,by rw[ab];omega,_,ps++[x],rfl,by rw[bj];rfl,by rw[ar,lp];rfl,λk D9=>(by rcases de.mp D9 with h | h;exact hps k h;rw[cq.mp h];exact hk x hx),trivial,vh.upd F1.symm,k6.trans (k7.l.trans (Kp.r (Kp.upd hD7)))⟩
 rintro acc σ G6 ⟨v0,ps,rfl,rfl,lp,hps,hD,hp6,k6⟩
 ext
 refine⟨ps,aQ.of hD,by omega,λPv aV nPv up mem lpv=>?_⟩;have K6:Kp K p H G6:=K5.trans (k6.kp nD);obtain⟨yp,ep⟩:=hp.lst;obtain⟨yp6,ep6⟩:=hp6.lst;have lpi:aV.length<=3/\(aV.length:Int) + 1<=b:=X2
 have U5:∀k∈aV,lo < k/\k < hi:=λk D9=>hps k ((mem k).mp D9);have hN6:=(k6.kp nD).tup (Wl.lst yM).choose_spec hN5;have he6:=K6.tup ep he;have Yt:=K6.tup ep hR0;have Yw:Pv≠p:=hp6.ne nPv;have z6:=bM (.lst (aV.map V.int)) nPv;have Vx:=af (H:=G6) (a:=Pv) (o:=.lst (aV.map V.int));have abF:new K H Pv:=dX K6 ep6 nPv;have hN7:=z6.tup hN6;have Sf:=z6.tup he6;have U1:=z6.tup Yt;have vh:=hp6.ext z6;have K7:=K6.trans z6.kp;clear hN6 he6 Yt he5 hR5 hN5 ZU k6 hD hpD mem hps lpv K5 yM;generalize upd G6 Pv (.lst (aV.map V.int))=G7 at *;rw[e6];simp_arith [↓eqT Sf];intro t1' m1';have w1:=bM (.lst [V.int lo]) m1';refine⟨_,w1.at Vx,by rw[ab];omega,λLw nLw=>?_⟩;have Wx:Lw≠p:=(vh.ext w1).ne nLw;have w2:=w1.trans (Ext.new (o:=.lst (V.int lo::aV.map V.int)) nLw);have hLw:upd (upd G7 t1' (.lst [V.int lo])) Lw (.lst (V.int lo::aV.map V.int)) Lw=some (.lst ((lo::aV).map V.int)):=af;have he8:=w2.tup Sf;have hP8:=w2.at Vx;generalize upd (upd G7 t1' (.lst [V.int lo])) Lw (.lst (V.int lo::aV.map V.int))=G8 at *;rw[e7];simp_arith [↓eqT he8];intro t2' m2';have w3:=bM (.lst [V.int hi]) m2';refine⟨_,w3.at hP8,by rw[ab];omega,λUp nUp=>?_⟩;have neU:Up≠p:=(vh.ext (w2.trans w3)).ne nUp;have w4:=w2.trans (w3.trans (Ext.new (o:=.lst (aV.map V.int++[V.int hi])) nUp));have hUp:upd (upd G8 t2' (.lst [V.int hi])) Up (.lst (aV.map V.int++[V.int hi])) Up=some (.lst ((aV++[hi]).map V.int)):=by rw[af,bj];rfl
 have hL9:=(w3.trans (Ext.new (o:=.lst (aV.map V.int++[V.int hi])) nUp)).at hLw;have hP9:=w4.at Vx;have he9:=w4.tup Sf;have hR9:=w4.tup U1;have hN9:=w4.tup hN7;have F3:=vh.ext w4;have K9:=K7.trans w4.kp;clear w1 w2 w3 w4 he8 hP8 hLw Vx Sf U1 hN7 vh K7;generalize upd (upd G8 t2' (.lst [V.int hi])) Up (.lst (aV.map V.int++[V.int hi]))=G9 at *;rw[e8]
 ext
 intro A nA;have xA:=bM (.dK []) nA;have hA:upd G9 A (.dK []) A=some (.dK []):=af;have kb:∀F,pO K p A (upd G9 A (.dK [])) F->Kp K p H F:=λF k=>K9.trans (k.kp nA);have U6:A≠p:=F3.ne nA;obtain⟨y9,ep9⟩:=F3.lst;have nAH:new K H A:=dX K9 ep9 nA;have oA:∀a,new K (upd G9 A (.dK [])) a->new K H a:=λa n=>dX K9 ep9 (bB xA n);have Yu:=F3.ext xA;have ZQ:=xA.tup he9;have ZR:=xA.tup hR9;have ZS:=xA.tup hN9;have hLA:=xA.at hL9;have hUA:=xA.at hUp;have hPA:=xA.at hP9;obtain⟨yA,epA⟩:=Yu.lst;generalize upd G9 A (.dK [])=GA at *;obtain⟨g,rfl⟩:∃g,f=g + 1:=⟨f - 1,by omega⟩
 refine⟨p,_,a,b,c,pl,eT,lo,hi,N,n0,n1,((g + 1:Nat):Int),rfl,Yu,⟨R0,rfl,ZR⟩,ro,ZQ,ZS,l0,l1,l2,by omega,by omega,by omega,by omega,by omega,λY us aM H1 nY hY al tk hp10 k10=>?_⟩;have Qt:=k10.keep A _ hA U6;refine⟨Qt,?_⟩;have f10:=(Fr.kp (K:=K) (H0:=GA) epA epA k10).trans (Fr.tW (K:=K) (o':=.dK [(kE,.ref eT),(Ak,.ref Pv),(kT,.ref Y)]) hA Qt);have kA:pO K p A GA (upd H1 A (.dK [(kE,.ref eT),(Ak,.ref Pv),(kT,.ref Y)])):=k10.l.trans (Kp.r (Kp.gX Qt));have neY:Y≠p:=λz=>by rw[z]at nY;rw[nY.1]at epA;cases epA
 have yA':Y≠A:=λz=>by rw[z]at nY;rw[nY.1]at hA;cases hA
 have hY1:upd H1 A (.dK [(kE,.ref eT),(Ak,.ref Pv),(kT,.ref Y)]) Y=some (.lst us):=by rw[au yA'];exact hY
 have al1:=al.fr (Fr.tW (K:=K) (o':=.dK [(kE,.ref eT),(Ak,.ref Pv),(kT,.ref Y)]) hA Qt);have Yx:upd H1 A (.dK [(kE,.ref eT),(Ak,.ref Pv),(kT,.ref Y)]) A=some (.dK [(kE,.ref eT),(Ak,.ref Pv),(kT,.ref Y)]):=af;have ZV:=hp10.upd (o:=.dK [(kE,.ref eT),(Ak,.ref Pv),(kT,.ref Y)]) U6.symm;change r9 _ _ (upd H1 A (.dK [(kE,.ref eT),(Ak,.ref Pv),(kT,.ref Y)]));have neg:∀{a:Addr}{o:HO},G9 a=some o->a≠A:=λh z=>by rw[z]at h;rw[nA.1]at h;cases h
 have nP:Pv≠A:=neg hP9;have nL:Lw≠A:=neg hL9;have nU:Up≠A:=neg hUp;have ob:∀a,new K (upd H1 A (.dK [(kE,.ref eT),(Ak,.ref Pv),(kT,.ref Y)])) a->new K GA a:=λa n=>vj kA ZV.lst.choose_spec Yx n;generalize upd H1 A (.dK [(kE,.ref eT),(Ak,.ref Pv),(kT,.ref Y)])=GB at *;clear k10 Qt hY al hp10;have hLB:=kA.keep Lw _ hLA Wx nL;have hUB:=kA.keep Up _ hUA neU nU;have hPB:=kA.keep Pv _ hPA Yw nP;obtain⟨yB,epB⟩:=ZV.lst;rw[e9]
 ext
 refine⟨_,aJ hLB,by rw[ab,List.length_cons];omega,by rw[ab,List.length_cons];omega,λZ nZ=>?_⟩;have xZ:=bM (.lst []) nZ;have neZ:Z≠p:=ZV.ne nZ;have nZA:A≠Z:=ay Yx nZ.1;have hZ0:upd GB Z (.lst []) Z=some (.lst []):=af;have hpZ:=ZV.ext xZ;have hLZ:=xZ.at hLB;have hAZ:=xZ.at Yx;have hUZ:=xZ.at hUB;have epZ:=xZ.at epB;have nLZ:Lw≠Z:=ay hLB nZ.1;have nUZ:Up≠Z:=ay hUB nZ.1;have kz:∀F,pO K p Z (upd GB Z (.lst [])) F->Kp K p GB F:=λF k=>k.kp nZ;have oz:∀a,new K (upd GB Z (.lst [])) a->new K GB a:=λa n=>bB xZ n;have hRZ:=xZ.tup (f10.t _ _ ZR);generalize upd GB Z (.lst [])=GZ at *;refine nc (λi acc σ G=>FI λ(v0:Option V) (ts:List Tr)=>UT (rH σ [v0,some (V.ref p),some (V.ref R0),some (V.int bs),some (V.int ((g + 1:Nat):Int)),some (V.ref Lw),some (V.ref Up)]) (acc=ts.map (λt=>.ref t.a)) (ts.length=i) ((∀j t,ts[j]?=some t->∃l h,(lo::aV)[j]?=some l/\(aV++[hi])[j]?=some h/\bq a b c t g l h)) (cu K GZ G (λ_=>none) ts) ((gW ts).Nodup) (G Z=some (.lst acc)) (Wl G p) (Fr K GZ GZ G) (pO K p Z GZ G)) ⟨_,[],rfl,rfl,rfl,λj t (h:([]:List Tr)[j]?=some t)=>absurd h (by rw[List.getElem?_nil];intro h;cases h),by unfold cu;trivial,by unfold gW;exact .nil,hZ0,hpZ,Fr.ext Ext.refl,pO.refl⟩ ?_ ?_
 . rintro i acc σ G eY ⟨v0,ts,rfl,rfl,lt,tk',la,nd,hZ,hpG,fG,kG⟩;have hiL:i < aV.length + 1:=by rw[ab,List.length_cons]at eY;omega
   have hLG:=kG.keep Lw _ hLZ Wx nLZ;have hUG:=kG.keep Up _ hUZ neU nUZ;simp_arith [↓OG hLG,↓OG hUG];obtain⟨l,h,el,eh,My,Rf,ZA⟩:=Sg up U5 ee.2.1 hiL;refine⟨_,dI (xs:=(lo::aV).map V.int) (by rw[ax,el];rfl),_,dI (by rw[ax,eh];rfl),λT nT=>?_⟩;have xT:=bM (.tup [V.int l,V.int h]) nT;obtain⟨yG,epG⟩:=hpG.lst;refine⟨p,_,a,b,c,pl,bs,T,l,h,g,by simp,by omega,by omega,hpG.ext xT,⟨R0,rfl,xT.tup (fG.t _ _ hRZ)⟩,ro,aF,by omega,hbs,λt H4 lt4 Yr nd4 yL k4=>?_⟩;have fT:=(Fr.ext (K:=K) (H0:=GZ) xT).trans (Fr.kp (K:=K) epZ (xT.at epG) k4);have VF:=k4.keep Z _ (xT.at hZ) neZ;have fU:=fT.trans (Fr.kp (K:=K) hZ0 VF (Kp.upd (o:=.lst (ts.map (λt=>V.ref t.a)++[V.ref t.a])) VF));have oT:∀a,new K (upd G T (.tup [V.int l,V.int h])) a->new K GZ a:=λa n=>vj kG epG hZ (bB xT n);refine⟨VF,by rw[ab];omega,_,ts++[t],rfl,by rw[bj];rfl,by rw[ar,lt];rfl,λj u hj=>?_,(cu.snoc ((lt4.old oT).fr (Fr.kp (K:=K) hZ0 VF (Kp.upd VF))) (la.fr fU)),?_,trivial,yL.upd neZ.symm,fG.trans fU,kG.trans ((xT.kp.trans k4).l.trans (Kp.r (Kp.upd VF)))⟩
   . by_cases Vy:j < ts.length
     . rw[gN Vy]at hj;obtain⟨l',h',e1,e2,e3⟩:=tk' j u hj;exact⟨l',e1,h',e2,e3⟩
     . rw[i5 X2]at hj;have hj0:j - ts.length=0:=by
         have:=(bo.mp hj).1;simp at this;omega
       rw[hj0]at hj;cases hj;obtain rfl:j=i:=X2
       exact⟨l,el,h,eh,Yr⟩
   . rw[o7,oy];refine⟨nd,nd4,λx hx y hy z=>?_⟩;subst z;obtain⟨_,o,e1⟩:=la.adr x hx;have n2:=(lt4.adr x hy).1;have:=xT.at e1;rw[n2.1]at this;cases this
 rintro acc σ G ⟨v0,ts,rfl,rfl,lt,tk',la,nd,hZ,hpG,fG,kG⟩;have VG:=kz G kG;have VH:=VG.keep A _ Yx U6;have hYG:=VG.keep Y _ hY1 neY;have hPG:=VG.keep Pv _ hPB Yw;refine⟨_,.inl ⟨_,kC,VH,rfl,(by show 3 < sizeLine;decide),rfl⟩,?_⟩;rw[show putK [(kE,V.ref eT),(Ak,V.ref Pv),(kT,V.ref Y)] kC (V.ref Z)=[(kE,V.ref eT),(Ak,V.ref Pv),(kT,V.ref Y),(kC,V.ref Z)] from wH (by simp[Qs,NT,U4])];rw[e10]
 ext
 have fA:=Fr.tW (K:=K) (H0:=GB) (o':=.dK [(kE,V.ref eT),(Ak,V.ref Pv),(kT,V.ref Y),(kC,V.ref Z)]) Yx VH;refine q (.inner A lo hi aV aM ts) _ ?_ ?_ ?_ (hpG.upd U6.symm) (kb _ (kA.trans (VG.l.trans (Kp.r (Kp.gX VH)))))
 . have oB:∀a,new K GB a->new K H a:=λa n=>oA a (ob a n);have nZH:new K H Z:=oB Z nZ;have fBG:=Fr.kp (K:=K) (H0:=GB) epB epB VG;have FA:=fBG.trans fA;have neo:∀{a:Addr}{xs:List V},G a=some (.lst xs)->a≠A:=λh z=>by rw[z,VH]at h;cases h
   have atl:∀{a:Addr}{xs:List V},G a=some (.lst xs)->upd G A (.dK [(kE,V.ref eT),(Ak,V.ref Pv),(kT,V.ref Y),(kC,V.ref Z)]) a=some (.lst xs):=λh=>by rw[au (neo h)];exact h
   have lZ:cu K GZ (upd G A (.dK [(kE,V.ref eT),(Ak,V.ref Pv),(kT,V.ref Y),(kC,V.ref Z)])) (λ_=>none) ts:=la.fr (Fr.tW hAZ VH);unfold iN;exact⟨eT,Pv,Y,Z,us,af,nAH,FA.t _ _ (f10.t _ _ ZQ),⟨abF,atl hPG⟩,⟨oA Y nY,atl hYG,((al1.fr (Fr.kp (K:=K) epA epB VG)).fr (Fr.tW hA VH)).qx oA⟩,⟨nZH,atl hZ⟩,lZ.old λa n=>oB a (oz a n)⟩
 . unfold bq;refine⟨rfl,rfl,lpi.1,lpi.2,g,rfl,tk,NU (by rw[lt,ab,List.length_cons];omega) λj t hj=>?_⟩;obtain⟨l',h',e1,e2,e3⟩:=tk' j t hj;exact⟨l',e1,h',e2,e3⟩
 . unfold Tr.adr;rw[List.nodup_cons];refine⟨λhm=>?_,nd⟩;have:=(la.adr A hm).1;rw[this.1]at hAZ;cases hAZ
theorem xF :(!0) 4 f fd ["_law_well_here","_law_rule_here","_law_base","_law_ends","_law_floor"] (o8 K 0):=
 ⟨λ_ _ _ _ h=>by cases h;omega,λ_ _ _ _ _ _ _ _ _ _ _ _ _ h=>by cases h;omega⟩
include B in
theorem qe {f:Addr}{fd:FuncData}(F:bT K "_law_room" "_law_room" bG f fd)(ak:⋯ "_law_draw" 1 ["_law_well_here","_law_many"] (jj K))(cY:⋯ "_law_rows" 3 ["_law_well_here","_law_rule_here","_law_low","_law_high"] (vm K))(cZ:⋯ "_law_tray" 4 ["_law_well_here","_law_rule_here","_law_ends","_law_near","_law_floor"] (Bk K))(b:Binds K fd ["_law_well_here","_law_rule_here","_law_base","_law_ends","_law_floor"] [])(kp:keepIn K (.ref f)=true)(m:mg "_law_room"=some (.ref f)):∀n:Nat,(!0) (4 + n) f fd ["_law_well_here","_law_rule_here","_law_base","_law_ends","_law_floor"] (o8 K n)
 | 0=>xF
 | n + 1=>xE B F ak cY cZ ⟨f,fd,qe F ak cY cZ b kp m n,b,kp,m⟩
include B in
theorem Bm (F:bT K "_law_room" "_law_room" bG f fd)(ak:⋯ "_law_draw" 1 ["_law_well_here","_law_many"] (jj K))(cY:⋯ "_law_rows" 3 ["_law_well_here","_law_rule_here","_law_low","_law_high"] (vm K))(cZ:⋯ "_law_tray" 4 ["_law_well_here","_law_rule_here","_law_ends","_law_near","_law_floor"] (Bk K))(b:Binds K fd ["_law_well_here","_law_rule_here","_law_base","_law_ends","_law_floor"] [])(kp:keepIn K (.ref f)=true)(m:mg "_law_room"=some (.ref f)):(!0) 11 f fd ["_law_well_here","_law_rule_here","_law_base","_law_ends","_law_floor"] (o8 K 7):=qe B F ak cY cZ b kp m 7
mutual
def Tr.pre:Tr->List Tr
 | .leaf a lo hi rows=>[.leaf a lo hi rows]
 | .inner a lo hi aV aM ks=>.inner a lo hi aV aM ks::c6 ks
def c6:List Tr->List Tr
 | []=>[]
 | t::ts=>t.pre++c6 ts
end
mutual
theorem cG:∀t:Tr,t.adr=t.pre.map Tr.a
 | .leaf a lo hi rows=>by unfold Tr.adr Tr.pre;rfl
 | .inner a lo hi aV aM ks=>by unfold Tr.adr Tr.pre;rw[List.map_cons,ko ks];rfl
theorem ko:∀ts:List Tr,gW ts=(c6 ts).map Tr.a
 | []=>by unfold gW c6;rfl
 | t::ts=>by unfold gW c6;rw[bj,cG t,ko ts]
end
theorem rV (us:List Tr):∀ts:List Tr,c6 (ts++us)=c6 ts++c6 us
 | []=>by show c6 us=_;unfold c6;simp[c6]
 | t::ts=>by
   show c6 (t::(ts++us))=_;unfold c6;rw[rV us ts,gL];cases us <;> simp[c6]
def Tr.kids:Tr->List Tr
 | .leaf _ _ _ _=>[]
 | .inner _ _ _ _ _ ks=>ks
theorem iH (t:Tr):t.pre=t::c6 t.kids:=by
 cases t <;> (unfold Tr.pre Tr.kids) <;> first | rfl | (unfold c6;rfl)
theorem abL:kE≠kR:=X9
theorem Yy:kE≠Ak:=X9
theorem abM:kE≠kT:=X9
theorem KJ:kE≠kN:=X9
theorem abN:kR≠kC:=X9
theorem U7:kR≠kN:=X9
theorem Yz:Ak≠kT:=X9
theorem NV:Ak≠kN:=X9
theorem U8:kT≠kN:=X9
theorem KL:kC≠kN:=X9
theorem vN {k k':Key}{v:V}{r:List (Key×V)}(h:k≠k'):c8 ((k,v)::r) k'=c8 r k':=dZ h
theorem vP {k:Key}{v:V}{r:List (Key×V)}:c8 ((k,v)::r) k=some v:=dY rfl
theorem Dr {t:Tr}(h:iN K H0 H S t):∃aB Z,H t.a=some (.dK aB)/\c8 aB kC=some (.ref Z)/\H Z=some (.lst (t.kids.map λt=>.ref t.a))/\cu K H0 H S t.kids:=by
 cases t with
 | leaf a lo hi rows=>
   unfold iN at h;obtain⟨e,R,Z,us,h1,n1,h2,n3,h3,h4,n5,h5⟩:=h;exact⟨_,Z,h1,(vN Qs).trans ((vN abN).trans vP),h5,by unfold Tr.kids cu;trivial⟩
 | inner a lo hi aV aM ks=>
   unfold iN at h;obtain⟨e,D,Y,Z,us,h1,n1,h2,⟨n3,h3⟩,⟨n4,h4,h5⟩,⟨n6,h6⟩,h7⟩:=h;exact⟨_,Z,h1,(vN Qs).trans ((vN NT).trans ((vN U4).trans vP)),h6,h7⟩
theorem qA {a:Addr}{v:V}(e:H a=some (.dK aB))(h:c8 aB (.inr x)=some v):sU H a (.str x) (some v):=h ▸ sU.k (k:=.inr x) e
mutual
def Tr.ht:Tr->Nat
 | .leaf _ _ _ _=>0
 | .inner _ _ _ _ _ ks=>Lb ks + 1
def Lb:List Tr->Nat
 | []=>0
 | t::ts=>max t.ht (Lb ts)
end
theorem Ik:∀{ts:List Tr}{t:Tr},t∈ts->t.ht<=Lb ts
 | u::ts,t,h=>by
   unfold Lb;rcases List.mem_cons.mp h with rfl | h
   . omega
   . have:=Ik h;omega
theorem cu.mem {H0 H:Hp}{S:Addr->Option Int}:∀{ts:List Tr}{t:Tr},cu K H0 H S ts->t∈ts->iN K H0 H S t
 | u::ts,t,h,hm=>by
   unfold cu at h;rcases List.mem_cons.mp hm with rfl | hm
   . exact h.1
   . exact cu.mem h.2 hm
inductive tX (K:Frag)(n:Nat)(vs:List V)(H:Hp)(Q:VK)(E9:XK):Prop
 | mk (t H0 S:_) (_:vs=[.ref t.a]) (_:t.ht < n) (_:t.adr.length<=1000) (_:iN K H0 H S t) (_:∀D H',new K H D->H' D=some (.lst (t.adr.map V.ref))->Ext K H H'->Q (.ref D) H')
include B in
theorem yO {n:Nat}(F:bT K "_law_all" "_law_all" kZ f fd)(jk:⋯ "_law_all" n ["_law_room_here"] (tX K n)):(!0) (n + 1) f fd ["_law_room_here"] (tX K (n + 1)):=by
 exists 0,["_law_room_here","_law_found_here","_law_one"]
 obtain⟨t,H0,S,rfl,ht,hl,la,q⟩:=h;refine⟨_,(ao (ss 1 nk (jG (aa bg ah))) (ao (mH PassesOwn.never rfl (kO (bU (jm 'q'))) (gn 2 nk) (aE (ss 1 nk (cB cR cF (vU jk (hr.mono X2) rfl (aa eB ah)))))) (aE (aR cF)))),?_⟩
 ext
 intro D nD;have x1:=bM (.lst [V.ref t.a]) nD;obtain⟨aB,Z,e1,e2,e3,lk⟩:=Dr (la.fr (Fr.ext x1));have hD:upd H D (.lst [V.ref t.a]) D=some (.lst ([t.a].map V.ref)):=af;generalize upd H D (.lst [V.ref t.a])=G at *;refine⟨_,qA e1 e2,Z,rfl,⟨_,aQ.of e3⟩,?_⟩;have pk:=iH t;have la':=cG t;rw[pk,List.map_cons,<- ko]at la';refine fX (xs:=t.kids.map λt=>.ref t.a) (λi σ H'=>∃(v2:Option V) (D:Addr),σ=[some (V.ref t.a),some (V.ref D),v2]/\H' D=some (.lst ((t.a::gW (t.kids.take i)).map V.ref))/\new K H D/\Ext K H H'/\Ext K G H') ⟨_,D,rfl,by rw[hD,List.take_zero];unfold gW;rfl,nD,x1,Ext.refl⟩ ?_ ?_ ?_
 . rintro i σ H' _ ⟨v2,D,rfl,_,_,_,y⟩;exact aQ.of (y.at e3)
 . rintro i x σ H' hx ⟨v2,D,rfl,hD,nD,xH,y⟩;rw[ax]at hx;obtain⟨u,hu,rfl⟩:=bp.mp hx;have mu:=bb hu;have et:t.kids.take (i + 1)=t.kids.take i++[u]:=by rw[List.take_add_one,hu];rfl
   have le:∀us vs:List Tr,(gW us).length<=(gW (us++vs)).length:=λus vs=>by rw[ko,ko,ab,ab,rV,ar];omega
   have l1:(gW (t.kids.take (i + 1))).length<=1000:=by
     have:=le (t.kids.take (i + 1)) (t.kids.drop (i + 1));rw[vT]at this;rw[la',List.length_cons]at hl;omega
   rw[et,o7,ar]at l1
   ext
   refine⟨u,H0,S,rfl,?_,by omega,(lk.mem mu).fr (Fr.ext y),λD2 H2 n2 h2 x2=>⟨D2,rfl,_,x2.at hD,_,h2,?_,λD3 n3=>?_⟩⟩
   . have:=Ik mu;have:t.ht=Lb t.kids + 1:=by
       cases t with
       | leaf=>cases mu
       | inner a lo hi aV aM ks=>unfold Tr.ht Tr.kids;rfl
     omega
   . rw[ab,ab,List.length_cons];omega
   . have x3:=x2.trans (Ext.new (o:=.lst ((t.a::gW (t.kids.take i)).map V.ref++u.adr.map V.ref)) n3);exact⟨by rw[et,o7,<- bj];rfl,bB (xH.trans x2) n3,xH.trans x3,y.trans x3⟩
 . rintro σ H' ⟨v2,D,rfl,hD,nD,xH,y⟩
   ext
   rw[ab,dv,<- la']at hD;exact q D H' nD hD xH
theorem yP :(!0) 0 f fd ["_law_room_here"] (tX K 0):=
 ⟨λ_ _ _ _ h=>by cases h;omega,λ_ _ _ _ _ _ _ _ _ _ _ _ _ h=>by cases h;omega⟩
include B in
theorem rW {f:Addr}{fd:FuncData}(F:bT K "_law_all" "_law_all" kZ f fd)(b:Binds K fd ["_law_room_here"] [])(kp:keepIn K (.ref f)=true)(m:mg "_law_all"=some (.ref f)):∀n:Nat,(!0) n f fd ["_law_room_here"] (tX K n)
 | 0=>yP
 | n + 1=>yO B F ⟨f,fd,rW F b kp m n,b,kp,m⟩
include B in
theorem Ds (F:bT K "_law_all" "_law_all" kZ f fd)(b:Binds K fd ["_law_room_here"] [])(kp:keepIn K (.ref f)=true)(m:mg "_law_all"=some (.ref f)):(!0) 5 f fd ["_law_room_here"] (tX K 5):=rW B F b kp m 5
mutual
def flat:PyData->Bool
 | .list _=>false
 | .tuple ds=>Al ds
 | _=>true
def Al:List PyData->Bool
 | []=>true
 | d::ds=>flat d&&Al ds
end
mutual
theorem aL.flat {H0 H1 H:Hp}:∀{d:PyData}{v:V},eV.flat d=true->aL K H0 H d v->aL K H1 H d v
 | .none,v,_,h=>h
 | .int i,v,_,h=>h
 | .str s,v,_,h=>h
 | .list ds,v,f,h=>by unfold eV.flat at f;cases f
 | .tuple ds,v,f,h=>by
   unfold eV.flat at f;unfold aL at h ⊢;obtain⟨a,vs,e,ha,hs⟩:=h;exact⟨a,vs,e,ha,ai.flat f hs⟩
 | .bool _,v,_,h=>h
 | .dict _,v,_,h=>h
theorem ai.flat {H0 H1 H:Hp}:∀{ds:List PyData}{vs:List V},Al ds=true->ai K H0 H ds vs->ai K H1 H ds vs
 | [],vs,_,h=>h
 | d::ds,vs,f,h=>by
   unfold Al at f;rw[cp]at f;unfold ai at h ⊢;obtain⟨v,r,e,h1,h2⟩:=h;exact⟨v,r,e,aL.flat f.1 h1,ai.flat f.2 h2⟩
end
theorem gY {α:Type}{d:α->PyData}(h:∀a,flat (d a)=true):∀l:List α,Al (l.map d)=true
 | []=>rfl
 | a::l=>by
   rw[List.map_cons];unfold Al;rw[h a,gY h l];rfl
theorem rX (p:lq):flat (fN p)=true:=by
 obtain⟨n,o⟩:=p;cases o <;> rfl
theorem vn (e:Nt):flat e.d=true:=by
 obtain⟨n,lo,hi,t,m⟩:=e;cases t <;> cases m <;> rfl
theorem Il {c:Addr}{rows:List (Int×List lq)}(hc:H c=some (.lst us))(al:ai K H0 H (rows.map fF) us)(nD:new K H D)(hz:rows.length<=1000)
   (elt:∀(k:Int) (B:Addr) (ys:List V) (H':Hp) (Q':VK),H' B=some (.lst ys)->(∀l T,new K H' l->new K (upd H' l (.lst ys)) T->Q' (.ref T) (upd (upd H' l (.lst ys)) T (.tup [.int k,.ref l])))->te [some (.int k),some (.ref B)] H' Q')
   (fin:∀vs H',H' D=some (.lst vs)->ai K H H' (rows.map fF) vs->Ext K H H'->Q H'):b7 (ug K c) (pS K 2 (iy (bI 0) (iy (bI 1) vB))) pI te D Q [v0,v1] 'l':=by
 obtain⟨L,e1,e2,hL⟩:=ai.zip al;have lL:L.length=rows.length:=by rw[e2,ab]
 refine fQ (xs:=us) (λi acc σ' H'=>∃v0 v1,σ'=[v0,v1]/\H' D=some (.lst acc)/\acc.length=i/\ai K 'l' H' ((rows.take i).map fF) acc/\Kp K D 'l' H') ⟨_,_,rfl,af,rfl,ai.nil,Kp.refl⟩ ?_ ?_ ?_
 . rintro i acc σ' H' _ ⟨v0,v1,rfl,hD,_,_,k⟩;exact aQ.of ((k.ext nD).at hc)
 . rintro i x acc σ' H' hx ⟨v0,v1,rfl,hD,ln,ha,k⟩;rw[e1,ax]at hx;obtain⟨q,hq,rfl⟩:=bp.mp hx;have xk:=k.ext nD;obtain⟨T0,B,ys,e3,h1,h2,h3⟩:=lA ((hL q (bb hq)).ext xk);have hi:i < rows.length:=by
     have:=(bo.mp hq).1;omega
   have er:rows[i]?=some q.2:=by rw[e2,ax,hq];rfl
   rw[e3];unfold pI;simp only[pS,↓MZ,iy,vB,bI,List.set_cons_zero,List.set_cons_succ];refine⟨_,h1,rfl,_,_,rfl,_,_,rfl,rfl,?_⟩;rw[Hk trivial];refine elt q.2.1 B ys H' _ h2 λl T nl nT=>?_;have y1:=bM (.lst ys) nl;have y2:=y1.trans (Ext.new (o:=.tup [.int q.2.1,.ref l]) nT);have lG:=y2.at hD;have Qn:aL K 'l' (upd (upd H' l (.lst ys)) T (.tup [.int q.2.1,.ref l])) (fF q.2) (.ref T):=by
     unfold fF;exact aL.tt.mpr ⟨T,_,rfl,aF,ai.cons (aL.ii.mpr rfl) (ai.cons (aL.ll.mpr ⟨l,ys,rfl,dX k hD nl,(Ext.new (K:=K) nT).at af,(h3.flat (gY rX _)).ext y2⟩) ai.nil)⟩
   refine⟨lG,by rw[ln];exact cm hi (cw hz Y1),_,_,rfl,af,by rw[ar,ln];rfl,?_,k.trans (y2.kp.trans (Kp.upd lG))⟩;rw[List.take_add_one,er,fi];exact((ha.ext y2).map Qn).fr (Fr.kp (K:=K) (H0:=upd H D (.lst [])) af lG (Kp.upd lG))
 . rintro acc σ' H' ⟨v0,v1,rfl,hD,ln,ha,k⟩;rw[show us.length=rows.length from by rw[e1,ab,lL],dv]at ha;exact fin acc H' hD (ha.old (Ext.new nD)) (k.ext nD)
theorem bz.len {a b c hi:Int}{g:Nat}:∀{ts:List Tr}{aV:List Int}{lo:Int},bz a b c ts g lo aV hi->ts.length=aV.length + 1
 | [],_,_,h=>by unfold bz at h;exact h.elim
 | t::ts,[],lo,h=>by unfold bz at h;rw[h.2];rfl
 | t::ts,q::qs,lo,h=>by unfold bz at h;rw[List.length_cons,List.length_cons,bz.len h.2]
theorem Qu {t:Tr}(h:iN K H0 H S t)(e:S t.a=some n):∃aB,H t.a=some (.dK aB)/\c8 aB kN=some (.int n):=by
 cases t with
 | leaf a lo hi rows=>
   unfold iN at h;obtain⟨e',R,Z,us,h1,_⟩:=h;rw[show S a=some n from e]at h1;exact⟨_,h1,(vN KJ).trans ((vN U7).trans ((vN KL).trans vP))⟩
 | inner a lo hi aV aM ks=>
   unfold iN at h;obtain⟨e',D,Y,Z,us,h1,_⟩:=h;rw[show S a=some n from e]at h1;exact⟨_,h1,(vN KJ).trans ((vN NV).trans ((vN U8).trans ((vN KL).trans vP)))⟩
theorem ai.lK {H0 H:Hp}:∀ns:List Int,ai K H0 H (ns.map PyData.int) (ns.map V.int)
 | []=>ai.nil
 | n::ns=>ai.cons (aL.ii.mpr rfl) (ai.lK ns)
def Tr.told (g:Addr->Int):Tr->PyData
 | .leaf a _ _ rows=>.tuple [.str "leaf",.int (g a),.list (rows.map fF)]
 | .inner a _ _ aV aM ks=>.tuple [.str "inner",.int (g a),.list (aV.map PyData.int),.list (ks.map λt=>.int (g t.a)),.list (aM.map Nt.d)]
inductive Im (K:Frag)(vs:List V)(H:Hp)(Q:VK)(E9:XK):Prop
 | mk (t H0 S g a b c f lo hi:_) (_:vs=[.ref t.a]) (_:iN K H0 H S t) (_:S t.a=some (g t.a)) (_:(∀u∈t.kids,S u.a=some (g u.a))) (_:bq a b c t f lo hi) (_:∀v H',aL K H H' (t.told g) v->Ext K H H'->Q v H')
include B in
theorem Bo (F:bT K "_law_told" "_law_told" jL f fd):(!0) 1 f fd ["_law_room_here"] (Im K):=by
 exists 0,["_law_room_here","_law_numbers"]
 obtain⟨t,H0,S,g,a,b,c,f,lo,hi,rfl,la,s0,s1,ok,q⟩:=h;exists 2,jL,2,aE (aR (mK (aa dM (aa 'q' (aa (cX cg rfl B.list cA (aa 'q' ah)) (aa cF (aa (cX cg rfl B.list cA (aa 'q' ah)) ah))))))),r2,J2,e2;exists 2,jL,1,ao (Zn (i:=1) nk rfl (Or.inl rfl) (ck [ "_law_one" ] [none]) rfl (kO (bU (jm 'q'))) 'j' 'v' (λ_ _ _ _=>'q')) J2,r1,J1,e1;refine⟨_,(ao (iV (cM (cz (om (UI (eI (ma _ 64) hr.units))) (jm 'q') (jm (jG ah)) (aH _))) (aE (aR (mK (aa dM (aa 'q' (aa (pP (ck [ "_law_key","_law_versions" ] [none,none]) rfl (kO (bU (jm 'q'))) (λ_ _ _ _=>(kX (iK K (n:=2) rfl (aA (gn 0 nk) (aA (gn 1 nk) dN))))) 'v' (λ_ _ _ _=>(RG (qm K (am (aa bg (aa (cX (gA K) rfl B.list cA (aa cF ah)) ah))))))) ah)))))) cD) J1),?_⟩
 ext
 obtain⟨aB,Z,k1,k2,k3,lk⟩:=Dr la;refine⟨_,qA k1 k2,λE0' n0=>⟨Z,rfl,_,aQ.of ((Ext.new n0).at k3),aQ.of af,?_⟩⟩;have x0:=bM (.lst []) n0;have ZW:=la.fr (Fr.ext x0);generalize upd H E0' (.lst [])=G at *;cases t with
 | leaf a' jx eY rows=>
   unfold iN at ZW;obtain⟨e,R,Z',us,h1,n1,h2,n3,h3,h4,n5,h5⟩:=ZW;rw[show S a'=some (g a') from s0]at h1;unfold bq at ok;refine bw rfl ⟨_,qA h1 ((vN KJ).trans ((vN U7).trans ((vN KL).trans vP))),_,qA h1 ((vN abL).trans vP),R,rfl,⟨_,aQ.of h3⟩,λD nD=>Il h3 h4 nD (by have:=ok.2.2.2.2.l;omega) (λk B ys H' Q' hB qq=>?_) (λvs H' hD al xx T nT=>?_)⟩
   . simp_arith [↓OG hB];exactλl nl T nT=>qq l T nl nT
   . have xT:=bM (.tup [V.str (Str.ofString "leaf"),V.int (g a'),V.ref D]) nT;refine q _ _ ?_ (x0.trans (xx.trans xT));unfold Tr.told;exact aL.tt.mpr ⟨T,_,rfl,aF,ai.cons (aL.ss.mpr rfl) (ai.cons (aL.ii.mpr rfl) (ai.cons (aL.ll.mpr ⟨D,vs,rfl,bB x0 nD,xT.at hD,(al.ext xT).old x0⟩) ai.nil))⟩
 | inner a' jx eY aV aM ks=>
   unfold iN at ZW;obtain⟨e,D,Y,Z',us,h1,n1,h2,⟨n3,h3⟩,⟨n4,h4,h5⟩,⟨n6,h6⟩,h7⟩:=ZW;rw[show S a'=some (g a') from s0]at h1;have ks0:ks≠[]:=by
     unfold bq at ok;obtain⟨_,_,_,_,g',_,_,ok⟩:=ok;intro z;rw[z]at ok;unfold bz at ok;exact ok
   refine aK (by cases ks with | nil=>exact absurd rfl ks0 | cons x r=>simp[Tr.kids]) ?_;rw[e1]
   ext
   refine⟨_,qA h1 ((vN Qs).trans ((vN NT).trans ((vN U4).trans vP))),Z',rfl,⟨_,aQ.of h6⟩,λN nN=>?_⟩;have ZX:ks.length<=4:=by
     unfold bq at ok;obtain⟨_,_,l3,_,g',_,_,ok⟩:=ok;have:=bz.len ok;omega
   refine gH (L:=ks) (f:=λt=>V.ref t.a) (g:=λt=>V.int (g t.a)) (aQ.of h6) nN X2 (λu hu H' Q' xx qq=>?_) (λH1 hN x1=>?_)
   . ext
     obtain⟨kv,ev,vv⟩:=Qu ((h7.mem hu).fr (Fr.ext xx)) (s1 u hu);exact⟨_,qA ev vv,qq _ Ext.refl⟩
   rw[e2]
   ext
   have h11:=x1.at h1;have h31:=x1.at h3;refine⟨_,qA h11 ((vN KJ).trans ((vN NV).trans ((vN U8).trans ((vN KL).trans vP)))),_,qA h11 ((vN Yy).trans vP),D,rfl,_,aJ h31,λl1 m1=>?_⟩;have y1:=bM (.lst (aV.map V.int)) m1;refine⟨_,qA (y1.at h11) ((vN abM).trans ((vN Yz).trans vP)),Y,rfl,_,aJ ((x1.trans y1).at h4),λl2 m2 T nT=>?_⟩;have y2:=bM (.lst us) m2;have y3:=bM (.tup [V.str (Str.ofString "inner"),V.int (g a'),V.ref l1,V.ref N,V.ref l2]) nT;have xx:=x0.trans x1;refine q _ _ ?_ (xx.trans (y1.trans (y2.trans y3)));unfold Tr.told;refine aL.tt.mpr ⟨T,_,rfl,aF,ai.cons (aL.ss.mpr rfl) (ai.cons (aL.ii.mpr rfl) (ai.cons (aL.ll.mpr ⟨l1,_,rfl,bB xx m1,(y2.trans y3).at af,ai.lK aV⟩) (ai.cons (aL.ll.mpr ⟨N,_,rfl,bB x0 nN,(y1.trans (y2.trans y3)).at hN,?_⟩) (ai.cons (aL.ll.mpr ⟨l2,us,rfl,bB (xx.trans y1) m2,y3.at af,?_⟩) ai.nil))))⟩
   . have:=ai.lK (K:=K) (H0:=H) (H:=upd (upd (upd H1 l1 (.lst (aV.map V.int))) l2 (.lst us)) T (.tup [V.str (Str.ofString "inner"),V.int (g a'),V.ref l1,V.ref N,V.ref l2])) (ks.map λt=>g t.a);rw[dq,dq]at this;exact this
   . exact(h5.flat (gY vn _)).ext (x1.trans (y1.trans (y2.trans y3)))
theorem Dt {a:Addr}{o:HO}(hA:H A=some (.dK aB))(h:tupQ K H a=some xs):tupQ K (upd H A o) a=some xs:=by
 rw[rj (λz=>by rw[z]at h;unfold tupQ at h;rw[hA]at h;cases h)];exact h
theorem jl {a:Addr}{o:HO}(hA:H A=some (.dK aB))(h:H a=some (.lst xs)):upd H A o a=some (.lst xs):=by
 rw[au (λz=>by rw[z,hA]at h;cases h)];exact h
def Sh (u:HO):Prop:=(∀xs,u≠.lst xs)/\∀xs,u≠.tup xs
theorem Si :Sh (.dK aB):=⟨λ_ z=>(by cases z),λ_ z=>(by cases z)⟩
theorem NW {c:Addr}{fs:List (Str×V)}:Sh (.ins c dx fs):=⟨λ_ z=>(by cases z),λ_ z=>(by cases z)⟩
theorem Dw {a:Addr}{u o:HO}(hA:H A=some u)(ou:Sh u)(h:tupQ K H a=some xs):tupQ K (upd H A o) a=some xs:=by
 rw[rj (λz=>by rw[z]at h;unfold tupQ at h;rw[hA]at h;cases u <;> first | cases h;done | exact ou.2 _ rfl)];exact h
theorem kq {a:Addr}{u o:HO}(hA:H A=some u)(ou:Sh u)(h:H a=some (.lst xs)):upd H A o a=some (.lst xs):=by
 rw[au (λz=>by rw[z,hA]at h;exact ou.1 _ (Option.some.inj h))];exact h
mutual
theorem aL.gX {H0 H:Hp}{A:Addr}{u o:HO}(hA:H A=some u)(ou:Sh u):∀{d:PyData}{v:V},aL K H0 H d v->aL K H0 (upd H A o) d v
 | .none,v,h=>h
 | .int i,v,h=>h
 | .str s,v,h=>h
 | .list ds,v,h=>by
   unfold aL at h ⊢;obtain⟨a,vs,e,n,ha,hs⟩:=h;exact⟨a,vs,e,n,kq hA ou ha,ai.gX hA ou hs⟩
 | .tuple ds,v,h=>by
   unfold aL at h ⊢;obtain⟨a,vs,e,ha,hs⟩:=h;exact⟨a,vs,e,Dw hA ou ha,ai.gX hA ou hs⟩
 | .bool _,v,h=>h
 | .dict _,v,h=>h
theorem ai.gX {H0 H:Hp}{A:Addr}{u o:HO}(hA:H A=some u)(ou:Sh u):∀{ds:List PyData}{vs:List V},ai K H0 H ds vs->ai K H0 (upd H A o) ds vs
 | [],vs,h=>h
 | d::ds,vs,h=>by
   unfold ai at h ⊢;obtain⟨v,r,e,h1,h2⟩:=h;exact⟨v,r,e,aL.gX hA ou h1,ai.gX hA ou h2⟩
end
theorem ai.tW {o:HO}(hA:H A=some (.dK aB)){ds:List PyData}(h:ai K H0 H ds vs):ai K H0 (upd H A o) ds vs:=h.gX hA Si
def F5 (S:Addr->Option Int)(A:Addr)(n:Int):Addr->Option Int:=λx=>if x=A then some n else S x
theorem Dy {a:Addr}{l:List (Key×V)}(hA:H A=some (.dK aB))(hS:S A=none)(hl:(l.any λkv=>decide (kv.1=kN))=false)(h:H a=some (.dK (l++F4 (S a)))):
   upd H A (.dK (putK aB kN (.int n))) a=some (.dK (l++F4 (F5 S A n a))):=by
 by_cases e:a=A
 . subst e;rw[hS,hA]at h;injection h with h;injection h with h;rw[af,h,show F4 none=[] from rfl,List.append_nil,wH hl];unfold F5;rw[Hk rfl];rfl
 . rw[au e,h];unfold F5;rw[He e]
mutual
theorem iN.put {H0 H:Hp}{S:Addr->Option Int}{A:Addr}{n:Int}{aB:List (Key×V)}(hA:H A=some (.dK aB))(hS:S A=none):∀{t:Tr},iN K H0 H S t->iN K H0 (upd H A (.dK (putK aB kN (.int n)))) (F5 S A n) t
 | .leaf a lo hi rows,h=>by
   unfold iN at h ⊢;obtain⟨e,R,Z,us,h1,n1,h2,n3,h3,h4,n5,h5⟩:=h;exact⟨e,R,Z,us,Dy hA hS (by simp[KJ,U7,KL]) h1,n1,Dt hA h2,n3,jl hA h3,h4.tW hA,n5,jl hA h5⟩
 | .inner a lo hi aV aM kids,h=>by
   unfold iN at h ⊢;obtain⟨e,D,Y,Z,us,h1,n1,h2,⟨n3,h3⟩,⟨n4,h4,h5⟩,⟨n6,h6⟩,h7⟩:=h;exact⟨e,D,Y,Z,us,Dy hA hS (by simp[KJ,NV,U8,KL]) h1,n1,Dt hA h2,⟨n3,jl hA h3⟩,⟨n4,jl hA h4,h5.tW hA⟩,⟨n6,jl hA h6⟩,cu.put hA hS h7⟩
theorem cu.put {H0 H:Hp}{S:Addr->Option Int}{A:Addr}{n:Int}{aB:List (Key×V)}(hA:H A=some (.dK aB))(hS:S A=none):∀{ts:List Tr},cu K H0 H S ts->cu K H0 (upd H A (.dK (putK aB kN (.int n)))) (F5 S A n) ts
 | [],h=>h
 | t::ts,h=>by
   unfold cu at h ⊢;exact⟨iN.put hA hS h.1,cu.put hA hS h.2⟩
end
def rY (l:List Addr)(turn:Int):Addr->Int:=λx=>((l.idxOf x:Nat) + turn) % (l.length:Int)
def yQ (l:List Addr)(turn:Int)(k:Nat):Addr->Option Int:=λx=>if x∈l.take k then some (rY l turn x) else none
theorem xJ {l:List Addr}(nd:l.Nodup){k:Nat}{a:Addr}(h:l[k]?=some a):l.idxOf a=k:=by
 obtain⟨hk,e⟩:=bo.mp h;rw[<- e];exact nd.idxOf_getElem k hk
theorem KN {l:List Addr}(nd:l.Nodup){k:Nat}{a:Addr}(h:l[k]?=some a):yQ l turn (k + 1)=F5 (yQ l turn k) a (((k:Nat) + turn) % (l.length:Int))/\yQ l turn k a=none:=by
 have ek:rY l turn a=((k:Nat) + turn) % (l.length:Int):=by
   unfold rY;rw[xJ nd h]
 have na:a∉l.take k:=λm=>by
   obtain⟨i,hi,e⟩:=fw.mp m;have hi2:i < k:=by rw[eC]at hi;omega
   have:l[i]?=some a:=by rw[<- e,List.getElem_take,<- a9]
   have h1:=xJ nd this;have h2:=xJ nd h;omega
 refine⟨?_,He na⟩
 funext x
 unfold yQ F5;rw[List.take_add_one,h,fi]
 by_cases e:x=a
 . rw[e,Hk Y2,Hk rfl,ek]
 . rw[He e]
   by_cases m:x∈l.take k
   . rw[Hk (by simp[m])];exact(Hk m).symm
   . rw[He (by simp[m,e])];exact(He m).symm
theorem NY {l:List Addr}{a:Addr}(h:a∈l):yQ l turn l.length a=some (rY l turn a):=by
 unfold yQ;rw[dv,Hk h]
theorem KO {l:List Addr}{a:Addr}(h:a∈l):0<=rY l turn a/\rY l turn a < l.length:=by
 have:0 < l.length:=List.length_pos_of_mem h;unfold rY;exact⟨FK _ X2,zt _ X2⟩
theorem KP {l:List Addr}(nd:l.Nodup):(l.map (rY l turn)).Nodup:=by
 refine List.pairwise_map.mpr (pb.mpr λi j hi hj ij e=>?_);unfold rY at e;rw[xJ nd (a9 hi),xJ nd (a9 hj)]at e;have h1:=Int.emod_eq_emod_iff_emod_sub_eq_zero.mp e.symm;rw[show(j:Int) + turn - ((i:Int) + turn)=(j:Int) - i from by omega,Int.emod_eq_of_lt X2 X2]at h1;omega
def sz:Nat->Nat
 | 0=>1
 | f + 1=>1 + 4 * sz f
mutual
theorem bq.i0 {a b c:Int}:∀{t:Tr}{f:Nat}{lo hi:Int},bq a b c t f lo hi->t.adr.length<=sz f/\t.ht<=f
 | .leaf a' l h rows,f,lo,hi,ok=>by
   unfold bq at ok;unfold Tr.adr Tr.ht;rw[ok.1];exact⟨ag _,ag _⟩
 | .inner a' l h aV aM ks,f,lo,hi,ok=>by
   unfold bq at ok;obtain⟨_,_,l3,_,g,rfl,_,ok⟩:=ok;unfold Tr.adr Tr.ht;have h1:=bz.i0 ok;have h2:=bz.len ok;refine⟨?_,by omega⟩;rw[List.length_cons];show _<=1 + 4 * sz g;have:ks.length * sz g<=4 * sz g:=Nat.mul_le_mul_right _ X2;omega
theorem bz.i0 {a b c:Int}:∀{ts:List Tr}{g:Nat}{lo:Int}{aV:List Int}{hi:Int},bz a b c ts g lo aV hi->(gW ts).length<=ts.length * sz g/\Lb ts<=g
 | [],g,lo,aV,hi,ok=>by unfold bz at ok;exact ok.elim
 | t::ts,g,lo,[],hi,ok=>by
   unfold bz at ok;have h1:=bq.i0 ok.1;rw[ok.2];unfold gW Lb;rw[ar];unfold gW Lb;simp;omega
 | t::ts,g,lo,q::qs,hi,ok=>by
   unfold bz at ok;have h1:=bq.i0 ok.1;have h2:=bz.i0 ok.2;unfold gW Lb;rw[ar,List.length_cons,Nat.add_mul];omega
end
theorem Dz (t:Tr):t∈t.pre:=by rw[iH];exact cb ..
theorem xK:∀{ts:List Tr}{v:Tr},v∈ts->v∈c6 ts
 | t::ts,v,h=>by
   unfold c6;rcases List.mem_cons.mp h with rfl | h
   . exact js _ (Dz v)
   . exact cf _ (xK h)
mutual
theorem bq.pre {a b c:Int}:∀{t:Tr}{f:Nat}{lo hi:Int},bq a b c t f lo hi->∀u∈t.pre,∃f' jx eY,bq a b c u f' jx eY
 | .leaf a' l h rows,f,lo,hi,ok,u,hu=>by
   unfold Tr.pre at hu;rw[cq.mp hu];exact⟨f,lo,hi,ok⟩
 | .inner a' l h aV aM ks,f,lo,hi,ok,u,hu=>by
   unfold Tr.pre at hu;rcases List.mem_cons.mp hu with rfl | hu
   . exact⟨f,lo,hi,ok⟩
   . unfold bq at ok;obtain⟨_,_,l3,_,g,rfl,_,ok⟩:=ok;exact bz.pre ok u hu
theorem bz.pre {a b c:Int}:∀{ts:List Tr}{g:Nat}{lo:Int}{aV:List Int}{hi:Int},bz a b c ts g lo aV hi->∀u∈c6 ts,∃f' jx eY,bq a b c u f' jx eY
 | [],g,lo,aV,hi,ok,u,hu=>by unfold bz at ok;exact ok.elim
 | t::ts,g,lo,[],hi,ok,u,hu=>by
   unfold bz at ok;rw[ok.2]at hu;unfold c6 at hu;unfold c6 at hu;rw[List.append_nil]at hu;exact bq.pre ok.1 u hu
 | t::ts,g,lo,q::qs,hi,ok,u,hu=>by
   unfold bz at ok;unfold c6 at hu;rcases de.mp hu with hu | hu
   . exact bq.pre ok.1 u hu
   . exact bz.pre ok.2 u hu
end
mutual
theorem iN.pre {H0 H:Hp}{S:Addr->Option Int}:∀{t:Tr},iN K H0 H S t->∀u∈t.pre,iN K H0 H S u/\∀v∈u.kids,v∈t.pre
 | .leaf a lo hi rows,h,u,hu=>by
   unfold Tr.pre at hu;rw[cq.mp hu];exact⟨h,λv hv=>by cases hv⟩
 | .inner a lo hi aV aM ks,h,u,hu=>by
   have hk:cu K H0 H S ks:=by
     unfold iN at h;obtain⟨_,_,_,_,_,_,_,_,_,_,_,h7⟩:=h;exact h7
   unfold Tr.pre at hu ⊢;rcases List.mem_cons.mp hu with rfl | hu
   . exact⟨h,λv hv=>bc _ (xK hv)⟩
   . have:=cu.pre hk u hu;exact⟨this.1,λv hv=>bc _ (this.2 v hv)⟩
theorem cu.pre {H0 H:Hp}{S:Addr->Option Int}:∀{ts:List Tr},cu K H0 H S ts->∀u∈c6 ts,iN K H0 H S u/\∀v∈u.kids,v∈c6 ts
 | [],_,u,hu=>by unfold c6 at hu;cases hu
 | t::ts,h,u,hu=>by
   unfold cu at h;unfold c6 at hu ⊢;rcases de.mp hu with hu | hu
   . have:=iN.pre h.1 u hu;exact⟨this.1,λv hv=>js _ (this.2 v hv)⟩
   . have:=cu.pre h.2 u hu;exact⟨this.1,λv hv=>cf _ (this.2 v hv)⟩
end
theorem iN.abQ {t:Tr}(h:iN K H0 H S t){a:Addr}(ha:a∈t.adr):∃o,H a=some (.dK o)/\o.length<=5:=by
 rw[cG]at ha;obtain⟨u,hu,rfl⟩:=fg.mp ha;have l1:∀o,(F4 o).length<=1:=λo=>by cases o <;> simp[F4]
 have lu:=(h.pre u hu).1;cases u with
 | leaf a lo hi rows=>
   unfold iN at lu;obtain⟨e,R,Z,us,h1,_⟩:=lu;exact⟨_,h1,by rw[ar];have:=l1 (S a);simp;omega⟩
 | inner a lo hi aV aM ks=>
   unfold iN at lu;obtain⟨e,D,Y,Z,us,h1,_⟩:=lu;exact⟨_,h1,by rw[ar];have:=l1 (S a);simp;omega⟩
structure OL (a b c:Int)(pl:Str)(f:Nat)(last:Int)(ms:List Int)(fr:Int)(g:Addr->Int)(t:Tr):Prop where
 rl:F2 a b c pl
 f3:f<=3
 ok:bq a b c t f 0 (10 ^ 12)
 la:40 * (f:Int) + 40<=last/\last<=40 * (f:Int) + 48
 up:ms.Pairwise (· < ·)
 ml:ms.length<=4
 mr:∀m∈ms,1<=m/\m<=last
 nd:(t.adr.map g).Nodup
 gr:∀x∈t.adr,0<=g x/\g x < fr
 fr:1<=fr/\fr<=2000
def jB (a b c:Int)(pl:Str)(last:Int)(ms:List Int)(fr:Int)(g:Addr->Int)(t:Tr):PyData:=
 .tuple [.tuple [.int a,.int b,.int c,.str pl],.int last,.list (ms.map PyData.int),.int fr,.list (t.pre.map (Tr.told g))]
structure WAt (K:Frag)(H0 H:Hp)(W M:Addr)(im:V)(ks ms:List Int)(bs:Int)(t:Tr)(d:PyData)(S:Addr->Option Int):Prop where
 w:∃Kd,H W=some (.dK [(.inr "image",im),(.inr "top",.ref t.a),(.inr "keys",.ref Kd),(.inr "marks",.ref M),(.inr "base",.int bs)])/\H Kd=some (.lst (ks.map V.int))/\new K H0 Kd
 nW:new K H0 W
 im:aL K H0 H d im
 t:iN K H0 H S t
 m:H M=some (.lst (ms.map V.int))
 nM:new K H0 M
theorem Ext.abR {K:Frag}{o o':HO}(n:new K H p):Ext K H (upd (upd H p o) p o'):=by
 have e:upd (upd H p o) p o'=upd H p o':=by
   funext a
   by_cases h:a=p
   . rw[h,af,af]
   . rw[au h,au h,au h]
 rw[e];exact Ext.new n
theorem Kp.abS {G:Hp}{o:HO}(k:Kp K p H G)(n:new K H A):Kp K p H (upd G A o):=
 ⟨λq u e ne=>by rw[au (ay e n.1)];exact k.keep q u e ne,λb xs e m=>by rw[au (λz=>by rw[z,n.2]at m;cases m)];exact k.mod b xs e m⟩
inductive Io (K:Frag)(vs:List V)(H:Hp)(Q:VK)(E9:XK):Prop
 | mk (p:_) (_:vs=[.ref p]) (_:Wl H p) (_:∀W M im ks ms bs t S a b c pl f last fr g H',WAt K H H' W M im ks ms bs t 's' S->(∀x∈t.adr,S x=some (g x))->(∀k∈ks,0<=k/\k < 10 ^ 12)->ks.length<=30->OL a b c pl f last ms fr g t->Wl H' p->Kp K p H H'->Q (.ref W) H')
include B in
theorem yR (F:bT K "_law_world" "_law_world" bA f fd)(ak:⋯ "_law_draw" 1 ["_law_well_here","_law_many"] (jj K))(nV:⋯ "_law_rule" 2 ["_law_well_here"] (Ii K))(iG:⋯ "_law_room" 11 ["_law_well_here","_law_rule_here","_law_base","_law_ends","_law_floor"] (o8 K 7))(jk:⋯ "_law_all" 5 ["_law_room_here"] (tX K 5))(nX:⋯ "_law_told" 1 ["_law_room_here"] (Im K)):(!0) 12 f fd ["_law_well_here"] (Io K):=by
 exists 0,["_law_well_here","_law_rule_here","_law_floor","_law_far","_law_base","_law_last","_law_marks","_law_turn","_law_more","_law_top","_law_rooms","_law_k","_law_image","_law_keys"]
 obtain⟨p,rfl,hp,q⟩:=h;exists 2,bA,13,aE (aR (Fj (nj UU (nj R7 (nj Ny (nj C9 (nj jA UG))))))),r13,J13,e13;exists 2,bA,12,ao (ss 13 nk (qp rfl rfl B.sorted rfl B.set (aa (cB cR (jG (aa ei ah)) (pP (ck [ "_law_key" ] [none]) rfl (r2M (AQ rfl B.range (am (aa (cB (mA gK) jA ei) (aa (cB (mA bu) jA ei) ah))))) 'j' (λ_ _ _ _=>(yv (UQ (ET (om (mA gy)) (om (mA i9)) (jm ei) cN (jm (mh 1000000000000)))))) (λ_ _ _ _=>bg))) ah))) J13,r12,J12,e12;exists 2,bA,11,ao (ss 12 nk (mK (aa cF (aa sJ (aa C9 (aa (cB (mA bu) (tN B.len Kr) Dc) (aa (pP (ck [ "_law_room_here" ] [none]) rfl (kO (bU abm)) 'j' 'v' (λ_ _ _ _=>(ec nX hr (aa bg ah)))) ah))))))) J12,r11,J11,e11;exists 2,bA,10,ao (mH PassesOwn.never rfl (RE (jE rfl B.range (am (aa (tN B.len Kr) ah)))) (gn 11 nk) (aE (Hh hr.units (sW (uv je) Kr Ks (λ_ _=>rfl)) dM (cB (mC mU) (cB (mA bu) Ks Qi) (tN B.len Kr))))) J11,r10,J10,e10;exists 2,bA,9,ao (ss 10 nk (ec jk hr (aa R7 ah))) J10,r9,J9,e9;exists 2,bA,8,ao (ss 9 nk (ec iG hr (aa bg (aa cF (aa jA (aa (mK (aa ei (aa (mh 1000000000000) ah))) (aa eB ah))))))) J9,r8,J8,e8;exists 2,bA,7,ao (ss 8 nk 'd') J8,r7,J7,e7;exists 2,bA,6,ao (ss 7 nk 'd') J7,r6,J6,e6;exists 2,bA,5,ao (ss 6 nk (qp rfl rfl B.sorted rfl B.set (aa (pP (ck [ "_law_k","_law_well_here","_law_last" ] [none,some 0,some 5]) rfl (RE (jE rfl B.range (am (aa 'd' ah)))) 'j' 'v' (λ_ _ _ _=>(cB (mA bu) ei (ec ak hr (aa cF (aa eB ah)))))) ah))) J6,r5,J5,e5;exists 2,bA,4,ao (sset (i:=5) nk rfl (Or.inr rfl) (cB (mA bu) (cB (mA bu) (cB (mC gx) ei eB) ei) 'd')) J5,r4,J4,e4;exists 2,bA,3,ao (ss 4 nk (sW (uv je) (jG (aa ei (aa (cB (mA gK) (mh 1000000000000) ei) (aa gC ah)))) 'd' (λ_ _=>rfl))) J4,r3,J3,e3;exists 2,bA,2,ao (ss 3 nk (cB (mA bu) (cB (mC gx) (ec ak hr (aa bg (aa (mh 1000000) ah))) ei) 'd')) J3,r2,J2,e2;exists 2,bA,1,ao (ss 2 nk 'd') J2,r1,J1,e1;refine⟨_,(ao (ss 1 nk (ec nV hr (aa bg ah))) J1),?_⟩
 ext
 refine⟨p,rfl,hp,λrv a b c pl H1 hrv ro qO k1=>?_⟩;rw[e1]
 ext
 refine⟨p,4,rfl,qO,by decide,by decide,λfl H2 f0 f1 mY k2=>?_⟩;obtain⟨f,rfl⟩:∃f:Nat,fl=f:=⟨fl.toNat,by omega⟩
 have f3:f<=3:=X2
 rw[e2]
 ext
 refine⟨p,_,rfl,mY,by decide,by decide,λq1 H3 q10 q11 B4 k3=>⟨q1,rfl,p,24,rfl,B4,by decide,by decide,λq2 H4 q20 q21 yL k4=>⟨q2,rfl,?_⟩⟩⟩;rw[e3]
 ext
 intro D1 n1;have x1:=bM (.lst [V.int 0,V.int 999999999976,V.int (q1 * 999000 + q2)]) n1;refine⟨p,3,rfl,yL.ext x1,by decide,by decide,λm3 H5 m30 m31 yM k5=>⟨m3,rfl,_,aJ (k5.keep D1 _ af (yL.ne n1)),?_⟩⟩;obtain⟨bs,ebs,hbs⟩:∃n,j3 [V.int 0,V.int 999999999976,V.int (q1 * 999000 + q2)] m3=some (.int n)/\0<=n/\n<=10 ^ 12 - 24:=by
   rcases(by omega:m3=0∨m3=1∨m3=2)with rfl | rfl | rfl
   . exact⟨0,rfl,by decide,by decide⟩
   . exact⟨_,rfl,by decide,by decide⟩
   . exact⟨_,rfl,by omega,by omega⟩
 refine⟨_,ebs,?_⟩;rw[e4]
 ext
 refine⟨p,9,rfl,yM,by decide,by decide,λm9 H6 m90 m91 hp6 k6=>⟨m9,rfl,?_⟩⟩;obtain⟨last,el,hla⟩:∃last,40 * (f:Int) + 40 + m9=last/\40 * (f:Int) + 40<=last/\last<=40 * (f:Int) + 48:=⟨_,rfl,by omega,by omega⟩
 rw[el,e5]
 ext
 have K6:Kp K p H H6:=k1.trans (k2.trans (k3.trans (k4.trans (x1.kp.trans (k5.trans k6)))));obtain⟨yp1,ep1⟩:=qO.lst;have YA:iM K H6 rv a b c pl:=by
   obtain⟨R,e,h⟩:=hrv;exact⟨R,e,(k2.trans (k3.trans (k4.trans (x1.kp.trans (k5.trans k6))))).tup ep1 h⟩
 clear k1 k2 k3 k4 k5 k6 x1 qO mY B4 yL yM ep1 hrv ebs;refine⟨p,5,rfl,hp6,by decide,by decide,λm5 H7 m50 m51 vh k7=>?_⟩
 ext
 refine⟨by omega,by omega,λD nD=>?_⟩;have F1:D≠p:=vh.ne nD;refine nc (λi acc σ G=>FI λ(v0:Option V) (ns:List Int)=>Al7 (rH σ [v0,some (V.ref p),some (V.int last)]) (acc=ns.map V.int) (ns.length=i) (∀k∈ns,1<=k/\k<=last) (G D=some (.lst acc)) (Wl G p) (pO K p D (upd H7 D (.lst [])) G)) ⟨_,[],rfl,rfl,rfl,λ_ h=>absurd h List.not_mem_nil,af,vh.ext (Ext.new nD),pO.refl⟩ ?_ ?_
 . rintro i acc σ G eY ⟨v0,ns,rfl,rfl,ln,Ub,hD,hpG,kG⟩
   ext
   refine⟨p,_,rfl,hpG,by omega,by omega,λr G2 r0 r1 mY k2=>⟨r,rfl,?_⟩⟩;have lG:=k2.keep D _ hD F1;exact⟨lG,by rw[ab];omega,_,ns++[1 + r],rfl,by rw[bj];rfl,by rw[ar,ln];rfl,λk hk=>(by rcases de.mp hk with h | h;exact Ub k h;rw[cq.mp h];omega),trivial,mY.upd F1.symm,kG.trans (k2.l.trans (Kp.r (Kp.upd lG)))⟩
 rintro acc σ G ⟨v0,ns,rfl,rfl,ln,Ub,hD,hpG,kG⟩;refine⟨ns,aQ.of hD,by omega,λM ms nM up mem lm=>?_⟩;have K8:Kp K p H G:=K6.trans (k7.trans (kG.kp nD));have hM:upd G M (.lst (ms.map V.int)) M=some (.lst (ms.map V.int)):=af;have xM:=bM (.lst (ms.map V.int)) nM;have neM:M≠p:=hpG.ne nM;obtain⟨yG,epG⟩:=hpG.lst;have nMH:new K H M:=dX K8 epG nM;have hms:∀m∈ms,1<=m/\m<=last:=λm hm=>Ub m ((mem m).mp hm);have lms:ms.length<=4:=X2
 obtain⟨yp6,ep6⟩:=hp6.lst;have YB:iM K (upd G M (.lst (ms.map V.int))) rv a b c pl:=by
   obtain⟨R,e,h⟩:=YA;exact⟨R,e,xM.tup ((k7.trans (kG.kp nD)).tup ep6 h)⟩
 have La:=hpG.ext xM;have K8:=K8.trans xM.kp;clear hD kG k7 K6 hp6 vh YA mem Ub xM;generalize upd G M (.lst (ms.map V.int))=G8 at *;rw[e6]
 ext
 refine⟨p,100,rfl,La,by decide,by decide,λturn H9 t0 t1' F3 k9=>?_⟩;rw[e7]
 ext
 refine⟨p,4,rfl,F3,by decide,by decide,λmore H10 mo0 mo1 hp10 k10=>?_⟩;rw[e8]
 ext
 intro T nT;have xT:=bM (.tup [V.int 0,V.int 1000000000000]) nT;have hT:tupQ K (upd H10 T (.tup [V.int 0,V.int 1000000000000])) T=some [V.int 0,V.int 1000000000000]:=aF;have kT:=k9.trans (k10.trans xT.kp);obtain⟨y8,ep8⟩:=La.lst;have YC:iM K (upd H10 T (.tup [V.int 0,V.int 1000000000000])) rv a b c pl:=by
   obtain⟨R,e,h⟩:=YB;exact⟨R,e,kT.tup ep8 h⟩
 have hMT:=kT.keep M _ hM neM;have hpT:=hp10.ext xT;have KT:=K8.trans kT;clear hM La F3 hp10 k9 k10 xT ep8 YB K8 kT;generalize upd H10 T (.tup [V.int 0,V.int 1000000000000])=GT at *;refine⟨p,rv,a,b,c,pl,bs,T,0,10 ^ 12,f,rfl,by omega,f3,hpT,YC,ro,hT,by omega,by omega,λt H11 la ok nd hp11 k11=>?_⟩;have i0:=ok.i0;have s85:sz f<=85:=by
   rcases(by omega:f=0∨f=1∨f=2∨f=3)with rfl | rfl | rfl | rfl <;> decide
 rw[e9]
 ext
 refine⟨t,GT,_,rfl,by omega,by omega,la,λRm H12 nRm hRm jS=>?_⟩;have abT:=la.fr (Fr.ext jS);rw[e10]
 ext
 refine⟨_,aJ hRm,by rw[ab];omega,by rw[ab];omega,?_⟩;have k12:=k11.trans jS.kp;have abU:=k12.keep M _ hMT neM;rw[ab];obtain⟨A0,eA⟩:∃A0,t.adr=A0:=⟨_,rfl⟩
 rw[eA]at nd i0 hRm ⊢;have YD:∀a∈A0,new K GT a:=λa ha=>(la.adr a (by rw[eA];exact ha)).1;refine gP (λk σ G'=>∃v11,σ=[some (V.ref p),some rv,some (V.int f),some (V.int (q1 * 999000 + q2)),some (V.int bs),some (V.int last),some (V.ref M),some (V.int turn),some (V.int more),some (V.ref t.a),some (V.ref Rm),v11,none,none]/\iN K GT G' (yQ A0 turn k) t/\G' Rm=some (.lst (A0.map V.ref))/\G' M=some (.lst (ms.map V.int))/\Wl G' p/\Kp K p GT G') ⟨_,rfl,by
     have:yQ A0 turn 0=λ_=>none:=by funext x;unfold yQ;rw[List.take_zero,He Y2]
     rw[this];exact abT,hRm,abU,hp11.ext jS,k12⟩ ?_ ?_
 . rintro k σ G' hk ⟨v11,rfl,lak,hR,hMk,hpk,kk⟩;simp_arith [↓OG hR];have D9:k < A0.length:=by simpa using hk
   have eA':A0[k]?=some A0[k]:=a9 D9;have mA:A0[k]∈A0:=ph D9;obtain⟨aB,hA,l5⟩:=lak.abQ (by rw[eA];exact mA);obtain⟨es,en⟩:=KN nd (turn:=turn) eA';refine⟨by rw[ab];omega,_,dI (by rw[ax,eA'];rfl),A0[k],rfl,_,.inl ⟨aB,kN,hA,rfl,eI l5 Y1,rfl⟩,?_⟩;rw[ab,t5,es];exact⟨lak.put hA en,jl hA hR,jl hA hMk,hpk.upd (λz=>by obtain⟨y,e⟩:=hpk.lst;rw[z,hA]at e;cases e),Kp.abS kk (YD _ mA)⟩
 rintro σ G' ⟨v11,rfl,lak,hR,hMk,hpk,kk⟩;have hN:(A0.length:Int).toNat=A0.length:=rfl;rw[hN]at lak;have sg:∀x∈t.adr,yQ A0 turn A0.length x=some (rY A0 turn x):=λx hx=>NY (by rw[<- eA];exact hx);rw[e11]
 ext
 have eR:A0.map V.ref=t.pre.map (λu=>V.ref u.a):=by rw[<- eA,cG,dq];rfl
 rw[eR]at hR;refine⟨_,aJ hR,⟨_,aQ.of hR⟩,λD nD=>?_⟩;have NZ:t.pre.length=A0.length:=by rw[<- eA,cG,ab]
 have U5:∀u∈t.pre,u.a∈t.adr:=λu hu=>by rw[cG];exact cx hu
 refine Qk (L:=t.pre) (f:=λu=>V.ref u.a) (g:=Tr.told (rY A0 turn)) (aQ.of hR) nD X2 (λu hu H' Q' xx qq=>?_) (λvs H13 hD al ny=>?_)
 . ext
   obtain⟨lu,ku⟩:=lak.pre u hu;obtain⟨f',jx,eY,ok'⟩:=ok.pre u hu;exact⟨u,GT,_,rY A0 turn,a,b,c,f',jx,eY,rfl,lu.fr (Fr.ext xx),sg _ (U5 u hu),λv hv=>sg _ (U5 v (ku v hv)),ok',λv H'' at' x''=>qq v H'' x'' at'⟩
 intro I nI;rw[ab,NZ];have xI:=ny.trans (Ext.new (o:=.tup [rv,V.int last,V.ref M,V.int (A0.length + more),V.ref D]) nI);have hI:tupQ K (upd H13 I (.tup [rv,V.int last,V.ref M,V.int (A0.length + more),V.ref D])) I=some [rv,V.int last,V.ref M,V.int (A0.length + more),V.ref D]:=aF;have KG:=KT.trans kk;obtain⟨yG',epG'⟩:=hpk.lst;have oG:∀a,new K G' a->new K H a:=λa n=>dX KG epG' n;obtain⟨yT,epT⟩:=hpT.lst;have laI:=(lak.fr (Fr.ext xI)).old (λa n=>dX KT epT n);have hMI:=xI.at hMk;have hDI:=(bM (.tup [rv,V.int last,V.ref M,V.int (A0.length + more),V.ref D]) nI).at hD;have alI:=(al.ext (bM (.tup [rv,V.int last,V.ref M,V.int (A0.length + more),V.ref D]) nI)).qx oG;have YE:iM K (upd H13 I (.tup [rv,V.int last,V.ref M,V.int (A0.length + more),V.ref D])) rv a b c pl:=by
   obtain⟨R,e,h⟩:=YC;exact⟨R,e,xI.tup (kk.tup epT h)⟩
 have hpI:=hpk.ext xI;have KI:=KG.trans xI.kp;generalize upd H13 I (.tup [rv,V.int last,V.ref M,V.int (A0.length + more),V.ref D])=GI at *;have abV:aL K H GI (jB a b c pl last ms (A0.length + more) (rY A0 turn) t) (.ref I):=by
   obtain⟨R,e,h⟩:=YE;unfold jB;exact aL.tt.mpr ⟨I,_,rfl,hI,ai.cons (aL.tt.mpr ⟨R,_,e,h,ai.cons (aL.ii.mpr rfl) (ai.cons (aL.ii.mpr rfl) (ai.cons (aL.ii.mpr rfl) (ai.cons (aL.ss.mpr rfl) ai.nil)))⟩) (ai.cons (aL.ii.mpr rfl) (ai.cons (aL.ll.mpr ⟨M,_,rfl,nMH,hMI,ai.lK ms⟩) (ai.cons (aL.ii.mpr rfl) (ai.cons (aL.ll.mpr ⟨D,_,rfl,oG D nD,hDI,alI⟩) ai.nil))))⟩
 clear hI hDI alI al hD YE ny xI lak hMk hpk kk KG hR;rw[e12]
 ext
 intro D1 nD1;have y1:=bM (.lst [V.int 0]) nD1;refine⟨by omega,by omega,by omega,by omega,λD2 nD2=>?_⟩;refine nc (λi acc σ G=>FI λ(v0:Option V) (ks:List Int)=>Ye (rH σ [v0]) (acc=ks.map V.int) (ks.length<=i) (∀k∈ks,0<=k/\k < 10 ^ 12) (G D2=some (.lst acc)) (Kp K D2 (upd (upd GI D1 (.lst [V.int 0])) D2 (.lst [])) G)) ⟨_,[],rfl,rfl,ag _,λ_ h=>absurd h List.not_mem_nil,af,Kp.refl⟩ ?_ ?_
 . rintro i acc σ G eY ⟨v0,ks,rfl,rfl,lk,hk,hS,kS⟩;have h26:i < 26:=X2
   ext
   refine jP (λc1=>jP (λc2=>?_) (λc2=>⟨_,ks,rfl,rfl,by omega,hk,hS,kS⟩)) (λc1=>⟨_,ks,rfl,rfl,by omega,hk,hS,kS⟩);exact⟨hS,by rw[ab];omega,_,ks++[bs - 1 + i],rfl,by rw[bj];rfl,by rw[ar];simp;omega,λk D9=>(by rcases de.mp D9 with h | h;exact hk k h;rw[cq.mp h];omega),trivial,kS.trans (Kp.upd hS)⟩
 rintro acc σ G ⟨v0,ks,rfl,rfl,lk,hk,hS,kS⟩;have y2:=y1.trans (kS.ext nD2);refine⟨_,(kS.ext nD2).at af,_,hS,by rw[ab];simp;omega,λD3 nD3=>⟨0::ks,aQ.of af,by simp;omega,λKd keys nKd upk memk lkk=>?_⟩⟩;have y3:=y2.trans ((Ext.new (o:=.lst ([V.int 0]++ks.map V.int)) nD3).trans (Ext.new (o:=.lst (keys.map V.int)) nKd));have YF:upd (upd G D3 (.lst ([V.int 0]++ks.map V.int))) Kd (.lst (keys.map V.int)) Kd=some (.lst (keys.map V.int)):=af;have abW:new K GI Kd:=bB (y2.trans (Ext.new (o:=.lst ([V.int 0]++ks.map V.int)) nD3)) nKd;have e3:[V.int 0]++ks.map V.int=V.int 0::ks.map V.int:=rfl;rw[e3]at y3 YF;rw[e13]
 ext
 intro W nW;generalize upd (upd G D3 (.lst (V.int 0::ks.map V.int))) Kd (.lst (keys.map V.int))=GK at *;have yW:=Ext.abR (K:=K) (o:=.dK []) (o':=.dK [(.inr "image",V.ref I),(.inr "top",V.ref t.a),(.inr "keys",V.ref Kd),(.inr "marks",V.ref M),(.inr "base",V.int bs)]) nW;have Y:=y3.trans yW;have aen:0 < A0.length:=by rw[<- eA,cG,iH];simp
 obtain⟨yI,epI⟩:=hpI.lst;have oI:∀a,new K GI a->new K H a:=λa n=>dX KI epI n;refine q W M (.ref I) keys ms bs t _ a b c pl f last (A0.length + more) (rY A0 turn) _ ⟨⟨Kd,af,yW.at YF,oI Kd abW⟩,oI W (bB y3 nW),abV.ext Y,laI.fr (Fr.ext Y),Y.at hMI,nMH⟩ sg (λk D9=>?_) ?_ ⟨ro,f3,ok,hla,up,lms,hms,by rw[eA];exact KP nd,λx hx=>?_,by omega⟩ (hpI.ext Y) (KI.trans Y.kp)
 . rcases List.mem_cons.mp ((memk k).mp D9)with h | h
   . rw[h];decide
   . exact hk k h
 . rw[List.length_cons]at lkk;omega
 . have:=KO (turn:=turn) (l:=A0) (by rw[<- eA];exact hx);omega
def Qv (K:Frag)(H:Hp)(v:V)(e:Nt):Prop:=∃a u,v=.ref a/\tupQ K H a=some [.int e.n,.int e.lo,.int e.hi,u]
theorem Qv.ext {v:V}{e:Nt}(h:Qv K H v e)(x:Ext K H H'):Qv K H' v e:=by
 obtain⟨a,u,rfl,h⟩:=h;exact⟨a,u,rfl,x.tup h⟩
theorem N1 {v:V}{e:Nt}(h:aL K H0 H e.d v):Qv K H v e:=by
 obtain⟨a,b,u1,u2,rfl,h1,_⟩:=NG h;exact⟨a,_,rfl,h1⟩
def qB (K:Frag)(H:Hp)(L:List (V×Nt)):Prop:=∀q∈L,Qv K H q.1 q.2
theorem qB.ext {L:List (V×Nt)}(h:qB K H L)(x:Ext K H H'):qB K H' L:=λq hq=>(h q hq).ext x
def Nt.has (e:Nt)(k:Int):Bool:=decide (e.lo<=k)&&decide (k < e.hi)
def Nt.ZY (e e':Nt):Bool:=decide (e.lo < e'.hi)&&decide (e'.lo < e.hi)
inductive F6 (K:Frag)(vs:List V)(H:Hp)(Q:VK)(E9:XK):Prop
 | mk (v e k:_) (_:vs=[v,.int k]) (_:Qv K H v e) (_:Q (.bl (e.has k)) H)
include B in
theorem F7 (F:bT K "has_key" "has_key" Ah f fd):(!0) 1 f fd ["note","key"] (F6 K):=by
 exists 0,["note","key"]
 obtain⟨v,e,k,rfl,⟨a,u,rfl,h⟩,q⟩:=h;refine⟨_,(aE (aR (UP (ES (om (mA gy)) (mA i9) (jm (iq bg)) qM (iq bg))))),?_⟩;simp_arith [↓eqT h];unfold Nt.has at q;split
 . rename_i c
   rw[Hm c]at q;exact q
 . rename_i c
   rw[Kk c]at q;exact q
inductive Sj (K:Frag)(vs:List V)(H:Hp)(Q:VK)(E9:XK):Prop
 | mk (v v' e e':_) (_:vs=[v,v']) (_:Qv K H v e) (_:Qv K H v' e') (_:Q (.bl (e.ZY e')) H)
include B in
theorem xO (F:bT K "have_common" "have_common" pT f fd):(!0) 1 f fd ["note","other"] (Sj K):=by
 exists 0,["note","other"]
 obtain⟨v,v',e,e',rfl,⟨a,u,rfl,h⟩,⟨a',u',rfl,h'⟩,q⟩:=h;refine⟨_,(aE (aR (FD (fM (jm (fS (mA i9) (iq bg) (iq cF) (aH _))) (iC (fS (mA i9) (iq cF) (iq bg) (aH _))))))),?_⟩;simp_arith [↓eqT h,↓eqT h'];unfold Nt.ZY at q;split
 . rename_i c
   rw[Hm c]at q;exact q
 . rename_i c
   rw[Kk c]at q;exact q
def Ben (L M:List (V×Nt)):Prop:=∀q∈L,∀q'∈M,q.2.ZY q'.2=true->q.2.n < q'.2.n
inductive N2 (K:Frag)(vs:List V)(H:Hp)(Q:VK)(E9:XK):Prop
 | mk (D1 D2 L M:_) (_:vs=[.ref D1,.ref D2]) (_:H D1=some (.lst (L.map (·.1)))) (_:H D2=some (.lst (M.map (·.1)))) (_:qB K H L) (_:qB K H M) (_:L.length<=100) (_:M.length<=100) (_:Ben L M) (_:∀H',Ext K H H'->Q (.bl true) H')
include B in
theorem xP (F:bT K "are_beneath" "are_beneath" pZ f fd)(jU:⋯ "have_common" 1 ["note","other"] (Sj K)):(!0) 2 f fd ["notes","others"] (N2 K):=by
 exists 0,["notes","others"]
 obtain⟨D1,D2,L,M,rfl,h1,h2,h3,h4,l1,l2,bn,q⟩:=h;refine⟨_,(aE (aR (bL (Ko (cK rfl)) rfl B.all gO (aa (aaK (ck [ "note","other","others" ] [none,none,some 1]) rfl (kO (bU cN)) 'j' 'v' (λ_ _ _ _=>(kO (Ms K Dd))) (λ_ _ _ _=>(gn 1 nk)) (λ_ _ _ _=>(yv (ef (ec jU hr (aa bg (aa cF ah)))))) (λ_ _ _ _=>(fS (mA i9) (Ku K bg) (Ku K cF) (aH _)))) ah)))),?_⟩
 ext
 refine⟨⟨_,aQ.of h1⟩,λD nD=>?_⟩;refine u9 (xs:=L.map (·.1)) (λi acc σ' H'=>∃(v0 v1:Option V) (m:Nat),σ'=[v0,v1,some (V.ref D2)]/\acc=(List.replicate m true).map V.bl/\m<=i * 100/\H' D=some (.lst acc)/\Kp K D 'l' H') ⟨_,_,0,rfl,rfl,ag _,af,Kp.refl⟩ ?_ ?_ ?_
 . rintro i acc σ' H' _ ⟨v0,v1,m,rfl,_,_,_,k⟩;exact aQ.of ((k.ext nD).at h1)
 . rintro i x acc σ' H' hx ⟨v0,v1,m,rfl,rfl,lm,hD,k⟩;rw[ax]at hx;obtain⟨q1,hq1,rfl⟩:=bp.mp hx;have hi:i < L.length:=(bo.mp hq1).1;have m1:=bb hq1;have YG:=(k.ext nD).at h2
   ext
   refine⟨⟨_,aQ.of YG⟩,?_⟩;refine u9 (xs:=M.map (·.1)) (λj acc σ' H'=>∃(v1:Option V) (m:Nat),σ'=[some q1.1,v1,some (V.ref D2)]/\acc=(List.replicate m true).map V.bl/\m<=i * 100 + j/\H' D=some (.lst acc)/\Kp K D 'l' H') ⟨_,m,rfl,rfl,by omega,hD,k⟩ ?_ ?_ ?_
   . rintro j acc σ' H' _ ⟨v1,m,rfl,_,_,_,k⟩;exact aQ.of ((k.ext nD).at h2)
   . rintro j x acc σ' H2 hx ⟨v1,m,rfl,rfl,lm,hD,k⟩;rw[ax]at hx;obtain⟨q2,hq2,rfl⟩:=bp.mp hx;have hj:j < M.length:=(bo.mp hq2).1;have m2:=bb hq2;have n1:=(h3 q1 m1).ext (k.ext nD);have n2:=(h4 q2 m2).ext (k.ext nD)
     ext
     refine⟨q1.1,q2.1,q1.2,q2.2,rfl,n1,n2,_,rfl,?_⟩;cases hc:q1.2.ZY q2.2 with
     | false=>exact aK Y2 ⟨m,rfl,by omega,hD,k⟩
     | true=>
       obtain⟨a1,u1,e1,g1⟩:=n1;obtain⟨a2,u2,e2,g2⟩:=n2;rw[e1,e2];simp_arith [↓eqT g1,↓eqT g2];rw[Hm (bn q1 m1 q2 m2 hc)];exact⟨hD,by rw[ab,qr];omega,m + 1,by rw[xi,bj];rfl,by omega,k.trans (Kp.upd hD)⟩
   . rintro acc σ' H2 ⟨v1,m,rfl,rfl,lm,hD,k⟩;rw[ab]at lm;exact⟨_,_,rfl,m,rfl,by omega,hD,k⟩
 . rintro acc σ' H' ⟨v0,v1,m,rfl,rfl,lm,hD,k⟩;refine⟨_,aQ.of hD,?_⟩;rw[all_true];exact q _ (k.ext nD)
inductive Ip (K:Frag)(vs:List V)(H:Hp)(Q:VK)(E9:XK):Prop
 | mk (D L:_) (_:vs=[.ref D]) (_:H D=some (.lst (L.map (·.1)))) (_:qB K H L) (_:L.length<=60) (_:(L.map λq=>q.2.n).Pairwise (· < ·)) (_:∀H',Ext K H H'->Q (.bl true) H')
include B in
theorem F8 (F:bT K "is_tray" "is_tray" Aj f fd)(eE:⋯ "are_beneath" 2 ["notes","others"] (N2 K)):(!0) 3 f fd ["notes"] (Ip K):=by
 exists 0,["notes"]
 obtain⟨D,L,rfl,h1,h2,l1,up,q⟩:=h;refine⟨_,(aE (aR (bL (Ko (cK rfl)) rfl B.all gO (aa (pP (ck [ "place","note","notes" ] [none,none,some 0]) rfl (ieM (MB rfl B.enumerate (am (aa bg ah)))) (λ_ _ _ _=>(kX (iK K (n:=2) rfl (aA (gn 0 nk) (aA (gn 1 nk) dN))))) 'v' (λ_ _ _ _=>(ec eE hr (aa (lsM (Mq K (am (aa cF ah)))) (aa (vS (JL (K:=K)) eB (zB (cB (mA bu) bg ei)) GO) ah))))) ah)))),?_⟩
 ext
 refine⟨⟨_,aQ.of h1⟩,λD' nD=>?_⟩;refine PY (xs:=L.map (·.1)) (λi acc σ' H'=>∃(v0 v1:Option V),σ'=[v0,v1,some (V.ref D)]/\acc=(List.replicate i true).map V.bl/\H' D'=some (.lst acc)/\Kp K D' (upd H D' (.lst [])) H') ⟨_,_,rfl,rfl,af,Kp.refl⟩ ?_ ?_ ?_
 . rintro i acc σ' H' _ ⟨v0,v1,rfl,_,_,k⟩;exact aQ.of ((k.ext nD).at h1)
 . rintro i x acc σ' H1 T hx ⟨v0,v1,rfl,rfl,hD,k⟩ nT;rw[ax]at hx;obtain⟨q1,hq1,rfl⟩:=bp.mp hx;have hi:i < L.length:=(bo.mp hq1).1;have m1:=bb hq1
   ext
   intro p1 n1;have y1:=(bM (.tup [V.int i,q1.1]) nT).trans (Ext.new (o:=.lst [q1.1]) n1);have yk:=(k.ext nD).trans y1;refine⟨_,aQ.of (yk.at h1),λp2 n2=>?_⟩;have y2:=y1.trans (Ext.new (o:=.lst ((L.drop (i + 1)).map (·.1))) n2);have yk2:=(k.ext nD).trans y2;rw[show ql (L.map (·.1)) (some ((i:Int) + 1)) none=(L.drop (i + 1)).map (·.1) from by rw[show((i:Int) + 1)=((i + 1:Nat):Int) from rfl,sZ,Bn]];refine⟨p1,p2,[q1],L.drop (i + 1),rfl,(Ext.new (K:=K) n2).at af,af,λx hx=>?_,λx hx=>(h2 x (xn hx)).ext yk2,by simp,by rw[km];omega,λx hx y hy _=>?_,λH4 x4=>⟨(y2.trans x4).at hD,by rw[ab,qr];omega,?_,k.trans ((y2.trans x4).kp.trans (Kp.upd ((y2.trans x4).at hD)))⟩⟩
   . rw[cq.mp hx];exact(h2 q1 m1).ext yk2
   . rw[cq.mp hx];obtain⟨j,hj,ej⟩:=fw.mp hy;rw[km]at hj;rw[B1]at ej;have:=pb.mp up i (i + 1 + j) (by rw[ab];exact hi) (by rw[ab];omega) X2;rw[Fh,Fh]at this;obtain⟨_,e1⟩:=bo.mp hq1;rw[e1,ej]at this;exact this
   . show _=List.map V.bl (true::List.replicate i true);rw[<- List.replicate_succ,xi,bj];rfl
 . rintro acc σ' H' ⟨v0,v1,rfl,rfl,hD,k⟩;refine⟨_,aQ.of hD,?_⟩;rw[all_true];exact q _ (k.ext nD)
inductive DA (K:Frag)(vs:List V)(H:Hp)(Q:VK)(E9:XK):Prop
 | mk (D L lo hi last:_) (_:vs=[.ref D,.int lo,.int hi,.int last]) (_:H D=some (.lst (L.map (·.1)))) (_:qB K H L) (_:L.length<=100) (_:(∀q∈L,lo<=q.2.lo/\q.2.hi<=hi/\q.2.n<=last)) (_:∀H',Ext K H H'->Q (.bl true) H')
include B in
theorem yS (F:bT K "are_within" "are_within" rR f fd):(!0) 1 f fd ["notes","low","high","last"] (DA K):=by
 exists 0,["notes","low","high","last"]
 obtain⟨D,L,lo,hi,last,rfl,h1,h2,l1,UD,q⟩:=h;refine⟨_,(aE (aR (bL (Ko (cK rfl)) rfl B.all gO (aa (pP (ck [ "note","low","high","last" ] [none,some 1,some 2,some 3]) rfl (kO (bU cN)) 'j' 'v' (λ_ _ _ _=>(FD (fM (jm (fS (mA gy) cF (Ku K bg) (aH _))) (FD (fM (jm (fS (mA gy) (Ku K bg) eB (aH _))) (iC (fS (mA gy) (Ku K bg) gC (aH _))))))))) ah)))),?_⟩
 ext
 refine⟨⟨_,aQ.of h1⟩,λD' nD=>gH (L:=L) (f:=λq=>q.1) (g:=λ_=>V.bl true) (aQ.of h1) nD X2 (λx hx H' Q' xx qq=>?_) (λH1 hD x1=>?_)⟩
 . obtain⟨a,u,e,g⟩:=(h2 x hx).ext xx;obtain⟨c1,c2,c3⟩:=UD x hx;rw[e];simp_arith [↓eqT g];rw[Hk c1,Hk c2,Hm c3];exact qq _ Ext.refl
 . rw[all_map]at hD;refine⟨_,aQ.of hD,?_⟩;rw[all_true];exact q _ x1
theorem rZ (xs:List V)(v:V):j3 (xs++[v]) (-1)=some v:=by
 unfold j3 ED;rw[He Y1,Hk (by rw[ar];simp;omega)];have:((-1:Int) + ((xs++[v]).length:Int)).toNat=xs.length:=by rw[ar];simp;omega
 rw[this];simp
inductive N3 (K:Frag)(vs:List V)(H:Hp)(Q:VK)(E9:XK):Prop
 | mk (v r H0 D L last:_) (_:vs=[v,.ref D,.int last]) (_:aL K H0 H (fF r) v) (_:r.2≠[]) (_:H D=some (.lst (L.map (·.1)))) (_:qB K H L) (_:L.length<=100) (_:(∀p∈r.2,p.1<=last/\∀q∈L,p.1 < q.2.n)) (_:∀H',Ext K H H'->Q (.bl true) H')
include B in
theorem sf (F:bT K "is_row_beneath" "is_row_beneath" ki f fd)(i6:⋯ "has_key" 1 ["note","key"] (F6 K)):(!0) 2 f fd ["row","notes","last"] (N3 K):=by
 exists 0,["row","notes","last","key","versions","number"]
 obtain⟨v,r,H0,D,L,last,rfl,qN,hne,h1,h2,l1,UD,q⟩:=h;obtain⟨a,B',us,rfl,g1,g2,g3⟩:=lA qN;refine⟨_,(ao (iW bg (kX (dF (n:=2) rfl (aA (GN (i:=3) nk rfl (Or.inr rfl)) (aA (gn 4 nk) dN))))) (ao (sset (i:=5) nk rfl (Or.inr rfl) (iq (sW (uv je) jA (Ue qj ei) (λ_ _=>rfl)))) (aE (aR (FD (fM (jm (fS (mA gy) sJ eB (aH _))) (iC (bL (Ko (cK rfl)) rfl B.all gO (aa (pP (ck [ "note","number","key" ] [none,some 5,some 3]) rfl (kO (bU qM)) 'j' (λ_ _ _ _=>(yv (ef (ec i6 hr (aa bg (aa eB ah)))))) (λ_ _ _ _=>(fS (mA i9) cF (Ku K bg) (aH _)))) ah))))))))),?_⟩
 ext
 obtain⟨M,e1,e2,hM⟩:=ai.zip g3;obtain⟨M0,z,eM⟩:∃M0 z,M=M0++[z]:=by
   rcases mI M with h | ⟨M0,z,h⟩
   . rw[h]at e2;exact absurd e2 hne
   . exact⟨M0,z,by rw[h,List.concat_eq_append]⟩
 have zM:z∈M:=by rw[eM];simp
 obtain⟨t',ez,gz⟩:=rT (hM z zM);obtain⟨c1,c2⟩:=UD z.2 (by rw[e2];exact cx zM);refine⟨_,g1,rfl,_,_,rfl,_,_,rfl,rfl,B',rfl,_,aJ g2,_,(by rw[e1,eM,bj];exact rZ _ _),t',ez,_,aZ gz,_,rfl,_,rfl,bw c1 ⟨⟨_,aQ.of h1⟩,λD' nD=>?_⟩⟩;refine fQ (xs:=L.map (·.1)) (λi acc σ' H'=>∃(v0:Option V) (m:Nat),σ'=[v0,some (V.int z.2.1),some (V.int r.1)]/\acc=(List.replicate m true).map V.bl/\m<=i/\H' D'=some (.lst acc)/\Kp K D' (upd H D' (.lst [])) H') ⟨_,0,rfl,rfl,ag _,af,Kp.refl⟩ ?_ ?_ ?_
 . rintro i acc σ' H' _ ⟨v0,m,rfl,_,_,_,k⟩;exact aQ.of ((k.ext nD).at h1)
 . rintro i x acc σ' H' hx ⟨v0,m,rfl,rfl,lm,hD,k⟩;rw[ax]at hx;obtain⟨q1,hq1,rfl⟩:=bp.mp hx;have hi:i < L.length:=(bo.mp hq1).1;have m1:=bb hq1;have n1:=(h2 q1 m1).ext (k.ext nD)
   ext
   refine⟨q1.1,q1.2,_,rfl,n1,_,rfl,?_⟩;cases hc:q1.2.has r.1 with
   | false=>exact aK Y2 ⟨m,rfl,by omega,hD,k⟩
   | true=>
     obtain⟨a1,u1,ea,ga⟩:=n1;rw[ea];simp_arith [↓eqT ga];rw[Hm (c2 q1 m1)];exact⟨hD,by rw[ab,qr];omega,m + 1,by rw[xi,bj];rfl,by omega,k.trans (Kp.upd hD)⟩
 . rintro acc σ' H' ⟨v0,m,rfl,rfl,lm,hD,k⟩;refine⟨_,aQ.of hD,?_⟩;rw[all_true];exact q _ (k.ext nD)
def pL (rv:V)(last fresh:Int)(bF kn:Addr)(fl:V):List (Str×V):=[(("rule":Str),rv),(("last":Str),.int last),(("fresh":Str),.int fresh),(("due":Str),.ref bF),(("known":Str),.ref kn),(("floors":Str),fl)]
theorem r_l:¬ (("rule":Str)="last"):=X9
theorem r_f:¬ (("rule":Str)="fresh"):=X9
theorem r_d:¬ (("rule":Str)="due"):=X9
theorem r_k:¬ (("rule":Str)="known"):=X9
theorem r_o:¬ (("rule":Str)="floors"):=X9
theorem l_f:¬ (("last":Str)="fresh"):=X9
theorem l_d:¬ (("last":Str)="due"):=X9
theorem l_k:¬ (("last":Str)="known"):=X9
theorem l_o:¬ (("last":Str)="floors"):=X9
theorem f_d:¬ (("fresh":Str)="due"):=X9
theorem f_k:¬ (("fresh":Str)="known"):=X9
theorem f_o:¬ (("fresh":Str)="floors"):=X9
theorem d_k:¬ (("due":Str)="known"):=X9
theorem d_o:¬ (("due":Str)="floors"):=X9
theorem k_o:¬ (("known":Str)="floors"):=X9
structure Qw (K:Frag)(c:Addr):Prop where
 cl:uN K c
 rule:bK K c "rule"
 last:bK K c "last"
 fresh:bK K c "fresh"
 bF:bK K c "due"
 known:bK K c "known"
 Bp:bK K c "floors"
structure n8 (K:Frag)(H:Hp)(c s dx:Addr)(rv:V)(last fresh:Int)(bF:Addr)(ds:List V)(kn:Addr)(aB:List (Key×V))(fl:V):Prop where
 ins:H s=some (.ins c dx 'o')
 bF:H bF=some (.lst ds)
 kn:H kn=some (.dK aB)
inductive DB (K:Frag)(c:Addr)(vs:List V)(H:Hp)(Q:VK)(E9:XK):Prop
 | mk (x dx rv last fresh:_) (_:vs=[.ref x,rv,.int last,.int fresh]) (_:H x=some (.ins c dx [])) (_:∀bF kn T E H',(∀a∈[bF,kn,E],new K H a/\a≠x)->n8 K H' c x dx rv last fresh bF [.ref T] kn [] .bS->tupQ K H' T=some [.bS,.int 0,.int 1000000000000,.ref E]->H' E=some (.lst [])->bF≠kn->bF≠E->kn≠E->Kp K x H H'->Q .bS H')
include B in
theorem qC (F:bT K "__init__" "Survey.__init__" bW f fd)(SV:Qw K az):(!0) 1 f fd ["self","rule","last","fresh"] (DB K az):=by
 exists 0,["self","rule","last","fresh"]
 obtain⟨x,dx,rv,last,fresh,rfl,hx,q⟩:=h;exists 2,bW,5,aE (uR (iL cN (jm jQ))),r5,J5,e5;exists 2,bW,4,ao (uR (iL cN (jm MF))) J5,r4,J4,e4;exists 2,bW,3,ao (uR (iL cN (jm (jG (aa (mK (aa jQ (aa ei (aa (jb rfl B.Yl B.xh) (aa (jG ah) ah))))) ah))))) J4,r3,J3,e3;exists 2,bW,2,ao (uR (iL cN Qj)) J3,r2,J2,e2;exists 2,bW,1,ao (uR (iL cN Dd)) J2,r1,J1,e1;refine⟨_,(ao (uR (iL cN qM)) J1),?_⟩
 ext
 refine⟨_,_,_,hx,SV.cl,SV.rule,by decide,?_⟩;have h1:=af (H:=H) (a:=x) (o:=.ins az dx (bC "rule" rv []));have k1:Kp K x H (upd H x (.ins az dx (bC "rule" rv []))):=Kp.gX hx;generalize upd H x (.ins az dx (bC "rule" rv []))=G1 at *;rw[e1]
 ext
 refine⟨_,_,_,h1,SV.cl,SV.last,by simp[bC],?_⟩;have h2:=af (H:=G1) (a:=x) (o:=.ins az dx (bC "last" (.int last) (bC "rule" rv [])));have k2:Kp K x H (upd G1 x (.ins az dx (bC "last" (.int last) (bC "rule" rv [])))):=k1.trans (Kp.gX h1);generalize upd G1 x (.ins az dx (bC "last" (.int last) (bC "rule" rv [])))=G2 at *;rw[e2]
 ext
 refine⟨_,_,_,h2,SV.cl,SV.fresh,by simp[bC,r_l],?_⟩;have h3:=af (H:=G2) (a:=x) (o:=.ins az dx (bC "fresh" (.int fresh) (bC "last" (.int last) (bC "rule" rv []))));have k3:Kp K x H (upd G2 x (.ins az dx (bC "fresh" (.int fresh) (bC "last" (.int last) (bC "rule" rv []))))):=k2.trans (Kp.gX h2);have p3:bC "fresh" (.int fresh) (bC "last" (.int last) (bC "rule" rv []))=[(("rule":Str),rv),(("last":Str),.int last),(("fresh":Str),.int fresh)]:=by simp only[bC,r_l,r_f,l_f,Kt]
 rw[p3]at h3 k3 ⊢;generalize upd G2 x (.ins az dx [(("rule":Str),rv),(("last":Str),.int last),(("fresh":Str),.int fresh)])=G3 at *;rw[e3]
 ext
 intro E' nE T nT bF nd;have y1:=bM (.lst []) nE;have y2:=bM (.tup [V.bS,V.int 0,V.int 1000000000000,V.ref E']) nT;have y3:=bM (.lst [V.ref T]) nd;have Y:=y1.trans (y2.trans y3);have hE:=(y2.trans y3).at (af (H:=G3) (a:=E') (o:=.lst []));have hT:tupQ K _ T=_:=y3.tup (aF (H:=upd G3 E' (.lst [])) (a:=T) (xs:=[V.bS,V.int 0,V.int 1000000000000,V.ref E']));have hd:=af (H:=upd (upd G3 E' (.lst [])) T (.tup [V.bS,V.int 0,V.int 1000000000000,V.ref E'])) (a:=bF) (o:=.lst [V.ref T]);have h4:=Y.at h3;have k4:=k3.trans Y.kp;have xo:∀a,new K G3 a->new K H a/\a≠x:=λa n=>⟨dX k3 h3 n,λz=>by rw[z]at n;rw[n.1]at h3;cases h3⟩
 have nE3:=xo E' nE;have nd3:=xo bF (bB (y1.trans y2) nd);have dE:E'≠bF:=ay (y2.at (af (H:=G3) (a:=E') (o:=.lst []))) nd.1;generalize upd (upd (upd G3 E' (.lst [])) T (.tup [V.bS,V.int 0,V.int 1000000000000,V.ref E'])) bF (.lst [V.ref T])=G4 at *;refine⟨_,_,_,h4,SV.cl,SV.bF,by simp,?_⟩;have p5:bC "due" (.ref bF) [(("rule":Str),rv),(("last":Str),.int last),(("fresh":Str),.int fresh)]=[(("rule":Str),rv),(("last":Str),.int last),(("fresh":Str),.int fresh),(("due":Str),.ref bF)]:=by simp only[bC,r_d,l_d,f_d,Kt]
 rw[p5];have h5:=af (H:=G4) (a:=x) (o:=.ins az dx [(("rule":Str),rv),(("last":Str),.int last),(("fresh":Str),.int fresh),(("due":Str),.ref bF)]);have k5:Kp K x H (upd G4 x 'k'):=k4.trans (Kp.gX h4);have YH:upd G4 x 'k' E'=some (.lst []):=by rw[au nE3.2];exact hE
 have hd5:upd G4 x 'k' bF=some (.lst [V.ref T]):=by rw[au nd3.2];exact hd
 have tx:T≠x:=λz=>by rw[z]at hT;unfold tupQ at hT;rw[h4]at hT;cases hT
 have YI:tupQ K (upd G4 x 'k') T=some [V.bS,V.int 0,V.int 1000000000000,V.ref E']:=by rw[rj tx];exact hT
 generalize upd G4 x 'k'=G5 at *;rw[e4]
 ext
 intro kn nk;have y6:=bM (.dK []) nk;have h6:=y6.at h5;have hk6:=af (H:=G5) (a:=kn) (o:=.dK []);have nk5:new K H kn/\kn≠x:=⟨dX k5 h5 nk,λz=>by rw[z]at nk;rw[nk.1]at h5;cases h5⟩
 have dk:bF≠kn:=ay hd5 nk.1;have Ek:E'≠kn:=ay YH nk.1;have k6:=k5.trans y6.kp;have hE6:=y6.at YH;have hd6:=y6.at hd5;have hT6:=y6.tup YI;generalize upd G5 kn (.dK [])=G6 at *;refine⟨_,_,_,h6,SV.cl,SV.known,by simp,?_⟩;have p7:bC "known" (.ref kn) [(("rule":Str),rv),(("last":Str),.int last),(("fresh":Str),.int fresh),(("due":Str),.ref bF)]=[(("rule":Str),rv),(("last":Str),.int last),(("fresh":Str),.int fresh),(("due":Str),.ref bF),(("known":Str),.ref kn)]:=by simp only[bC,r_k,l_k,f_k,d_k,Kt]
 rw[p7];have h7:=af (H:=G6) (a:=x) (o:=.ins az dx [(("rule":Str),rv),(("last":Str),.int last),(("fresh":Str),.int fresh),(("due":Str),.ref bF),(("known":Str),.ref kn)]);rw[e5]
 ext
 refine⟨_,_,_,rfl,SV.cl,SV.Bp,by simp,?_⟩;have p8:bC "floors" .bS [(("rule":Str),rv),(("last":Str),.int last),(("fresh":Str),.int fresh),(("due":Str),.ref bF),(("known":Str),.ref kn)]=pL rv last fresh bF kn .bS:=by simp only[bC,r_o,l_o,f_o,d_o,k_o,Kt,pL]
 rw[p8,iU];refine q bF kn T E' _ (λa ha=>?_) ⟨af,by rw[au nd3.2];exact hd6,by rw[au nk5.2];exact hk6⟩ (by rw[rj tx];exact hT6) (by rw[au nE3.2];exact hE6) dk dE.symm Ek.symm (k6.trans (Kp.gX h6));simp only[List.mem_cons,List.not_mem_nil,Jn]at ha;rcases ha with rfl | rfl | rfl
 . exact nd3
 . exact nk5
 . exact nE3
theorem bf {a b:Str}(h:¬ (a=b)):(b==a)=false:=by simpa using λe:b=a=>h e.symm
section
variable {fresh:Int}
theorem Iq:List.lookup ("rule":Str) 'o'=some rv:=by simp only[pL,List.lookup,Hn]
theorem Ir:List.lookup ("last":Str) 'o'=some (.int last):=by simp only[pL,List.lookup,Hn,bf r_l]
theorem N4:List.lookup ("fresh":Str) 'o'=some (.int fresh):=by simp only[pL,List.lookup,Hn,bf r_f,bf l_f]
theorem Bq:List.lookup ("due":Str) 'o'=some (.ref bF):=by simp only[pL,List.lookup,Hn,bf r_d,bf l_d,bf f_d]
theorem DC:List.lookup ("known":Str) 'o'=some (.ref kn):=by simp only[pL,List.lookup,Hn,bf r_k,bf l_k,bf f_k,bf d_k]
theorem Am:List.lookup ("floors":Str) 'o'=some fl:=by simp only[pL,List.lookup,Hn,bf r_o,bf l_o,bf f_o,bf d_o,bf k_o]
end
inductive Sk (K:Frag)(c:Addr)(vs:List V)(H:Hp)(Q:VK)(E9:XK):Prop
 | mk (s dx rv last fresh bF ds kn aB fl n o:_) (_:vs=[.ref s,.int n,on o]) (_:n8 K H c s dx rv last fresh bF ds kn aB fl) (_:(o=none∨o=some n)) (_:0<=n) (_:n < fresh) (_:c8 aB (.inl n)=none) (_:∀H',Ext K H H'->Q (.bl true) H')
include B in
theorem qD (F:bT K "may_have" "Survey.may_have" jK f fd)(SV:Qw K az)(bP:⋯ "is_whole" 2 ["thing","low","high"] nK):(!0) 3 f fd ["self","number","due"] (Sk K az):=by
 exists 0,["self","number","due"]
 obtain⟨s,dx,rv,last,fresh,bF,ds,kn,aB,fl,n,o,rfl,sv,ho,n0,n1,nv,q⟩:=h;refine⟨_,(aE (aR (FD (fM (jm (fS EV eB (mK (aa jQ (aa cF ah))) aab)) (fM (ec bP hr (aa cF (aa ei (aa (cB (mA gK) (j7 (dH cN)) ei) ah)))) (iC (fS (Kf hr.units) cF (j7 (dH cN)) aab))))))),?_⟩
 ext
 intro T nT;have xT:=bM (.tup [V.bS,V.int n]) nT;have e1:EG (on o) [V.bS,V.int n]=true:=by
   rcases ho with rfl | rfl
   . rfl
   . simp[EG,on,Q9]
 refine⟨by rcases ho with rfl | rfl <;> rfl,rfl,bw e1 ⟨_,_,_,xT.at sv.ins,SV.cl,SV.fresh,_,N4,_,rfl,some n,0,fresh - 1,rfl,_,rfl,bw (by unfold wO;exact Hm X2) ⟨_,_,_,xT.at sv.ins,SV.cl,SV.known,_,DC,_,rfl,aB,xT.at sv.kn,?_⟩⟩⟩;rw[nv];exact q _ xT
inductive DE (K:Frag)(c:Addr)(vs:List V)(H:Hp)(Q:VK)(E9:XK):Prop
 | mk (s dx rv last fresh bF ds kn aB fl m:_) (_:vs=[.ref s,.int m]) (_:n8 K H c s dx rv last fresh bF ds kn aB fl) (_:(fl=.bS∨fl=.int m)) (_:bF≠s) (_:kn≠s) (_:∀H',n8 K H' c s dx rv last fresh bF ds kn aB (.int m)->Kp K s H H'->Q (.bl true) H')
include B in
theorem oh (F:bT K "has_floors" "Survey.has_floors" iR f fd)(SV:Qw K az):(!0) 1 f fd ["self","many"] (DE K az):=by
 exists 0,["self","many"]
 obtain⟨s,dx,rv,last,fresh,bF,ds,kn,aB,fl,m,rfl,sv,hf,ne1,ne2,q⟩:=h;refine⟨_,(W5 (iV (cM (cz (om mV) (jm (j7 (dH cN))) (jm jQ) (aH _))) (aE (uR (iL cN qM))) cD) (aE (aR (fS fL (j7 (dH cN)) cF (aH _))))),?_⟩
 ext
 refine⟨λσ G=>σ=[some (V.ref s),some (V.int m)]/\n8 K G az s dx rv last fresh bF ds kn aB (.int m)/\Kp K s H G,?_,?_⟩
 . ext
   refine⟨_,_,_,sv.ins,SV.cl,SV.Bp,_,Am,jP (λc=>?_) (λc=>?_)⟩
   . refine⟨_,_,_,sv.ins,SV.cl,SV.Bp,by simp[pL],?_⟩;have p8:bC "floors" (.int m) 'o'=pL rv last fresh bF kn (.int m):=by simp only[bC,r_o,l_o,f_o,d_o,k_o,Kt,QP,pL]
     rw[p8];exact⟨⟨af,by rw[au ne1];exact sv.bF,by rw[au ne2];exact sv.kn⟩,Kp.gX sv.ins⟩
   . rcases hf with rfl | rfl
     . exact absurd rfl c
     . exact⟨sv,Kp.refl⟩
 . rintro σ G ⟨rfl,sv',k⟩
   ext
   refine⟨_,_,_,sv'.ins,SV.cl,SV.Bp,_,Am,?_⟩;exact⟨rfl,by rw[Hm rfl];exact q G sv' k⟩
theorem Qx {c:Addr}{rows:List (Int×List lq)}{g:Int×List lq->V}{rest:St}(hc:H c=some (.lst us))(al:ai K H0 H (rows.map fF) us)(nD:new K H D)(hz:rows.length<=1000)
   (elt:∀r∈rows,∀(B:Addr) (H':Hp) (Q':VK),Ext K H H'->(∀H'',Ext K H' H''->Q' (g r) H'')->te (some (.int r.1)::some (.ref B)::rest) H' Q')
   (fin:∀H',H' D=some (.lst (rows.map g))->Ext K H H'->Q H'):b7 (ug K c) (pS K 2 (iy (bI 0) (iy (bI 1) vB))) pI te D Q (v0::v1::rest) 'l':=by
 obtain⟨L,e1,e2,hL⟩:=ai.zip al;have lL:L.length=rows.length:=by rw[e2,ab]
 refine fQ (xs:=us) (λi acc σ' H'=>∃v0 v1,σ'=v0::v1::rest/\H' D=some (.lst acc)/\acc=(rows.take i).map g/\Kp K D 'l' H') ⟨_,_,rfl,af,rfl,Kp.refl⟩ ?_ ?_ ?_
 . rintro i acc σ' H' _ ⟨v0,v1,rfl,hD,_,k⟩;exact aQ.of ((k.ext nD).at hc)
 . rintro i x acc σ' H' hx ⟨v0,v1,rfl,hD,rfl,k⟩;rw[e1,ax]at hx;obtain⟨q,hq,rfl⟩:=bp.mp hx;have xk:=k.ext nD;obtain⟨T0,B,ys,e3,h1,h2,h3⟩:=lA ((hL q (bb hq)).ext xk);have er:rows[i]?=some q.2:=by rw[e2,ax,hq];rfl
   have hlen:((rows.take i).map g).length<=1000:=by rw[ab,eC];omega
   rw[e3];unfold pI;simp only[pS,↓MZ,iy,vB,bI,List.set_cons_zero,List.set_cons_succ];refine⟨_,h1,rfl,_,_,rfl,_,_,rfl,rfl,?_⟩;rw[Hk trivial];refine elt q.2 (bb er) B H' _ xk λH'' x''=>?_;have lG:=x''.at hD;exact⟨lG,eI hlen Y1,_,_,rfl,af,by rw[List.take_add_one,er,fi,bj];rfl,k.trans (x''.kp.trans (Kp.upd lG))⟩
 . rintro acc σ' H' ⟨v0,v1,rfl,hD,rfl,k⟩;rw[show us.length=rows.length from by rw[e1,ab,lL],dv]at hD;exact fin H' hD (k.ext nD)
inductive Iu (K:Frag)(c:Addr)(vs:List V)(H:Hp)(Q:VK)(E9:XK):Prop
 | mk (s dx rv last fresh bF ds kn aB fl a b r pl v H0 n l h lo hi rows D L:_) (_:vs=[.ref s,v,.int lo,.int hi,.ref D]) (_:n8 K H c s dx rv last fresh bF ds kn aB fl) (_:iM K H rv a b r pl) (_:aL K H0 H (.tuple [.str "leaf",.int n,.list (List.map fF rows)]) v) (_:(l=lo/\h=hi)) (_:yN lo hi r rows) (_:H D=some (.lst (L.map (·.1)))) (_:qB K H L) (_:L.length<=100) (_:(∀q∈L,40<=q.2.n)) (_:40<=last) (_:∀H',Ext K H H'->Q (.bl true) H')
include B in
theorem kB (F:bT K "is_leaf_sound" "Survey.is_leaf_sound" gG f fd)(SV:Qw K az)(gZ:⋯ "is_row_beneath" 2 ["row","notes","last"] (N3 K)):(!0) 3 f fd ["self","leaf","low","high","notes"] (Iu K az):=by
 exists 0,["self","leaf","low","high","notes","tray","fan","most","plan","rows"]
 obtain⟨s,dx,rv,last,fresh,bF,ds,kn,aB,fl,a,b,r,pl,v,H0,n,l,h',lo,hi,rows,D,L,rfl,sv,⟨R0,rfl,hR⟩,hv,_,rk,hD,hL,lL,nL,l40,q⟩:=h;obtain⟨T,us,rfl,hT,hu⟩:=aL.tt.mp hv;simp only[ai.cc,ai.nn,aL.ss,aL.ii,aL.ll]at hu;obtain⟨v1,r1,rfl,rfl,v2,r2,rfl,rfl,v3,r3,rfl,⟨Rw,ws,rfl,nR,hRw,al⟩,rfl⟩:=hu;refine⟨_,(ao (iW (j7 (dH cN)) (kX (dF (n:=4) rfl (aA (gn 5 nk) (aA (gn 6 nk) (aA (gn 7 nk) (aA (gn 8 nk) dN))))))) (ao (ss 9 nk (iq cF)) (ao (iV (tw (sH (cM (cz (om (mA Ci)) (jm (tN B.len R7)) jv7 (aH _))) (jc (fj (Ec (ef (jm (bL (Ko (cK rfl)) rfl B.all gO (aa (pP (ck [ "key","versions","low","high" ] [none,none,some 2,some 3]) rfl (kO (bU jv9)) (λ_ _ _ _=>(kX (iK K (n:=2) rfl (aA (gn 0 nk) (aA (gn 1 nk) dN))))) 'v' (λ_ _ _ _=>(UP (ES (om (mA gy)) (mA i9) Dd cN gC)))) ah))))))))) (aE (aR uP)) cD) (aE (aR (bL (Ko (cK rfl)) rfl B.all gO (aa (pP (ck [ "row","notes","self" ] [none,some 4,some 0]) rfl (kO (bU jv9)) 'j' 'v' (λ_ _ _ _=>(ec gZ hr (aa bg (aa cF (aa (Rr K eB) ah)))))) ah))))))),?_⟩;simp_arith [↓eqT hT];have lw:ws.length=rows.length:=by rw[al.len,ab]
 have rl:=rk.l;refine⟨_,_,_,sv.ins,SV.cl,SV.rule,_,Iq,R0,rfl,_,hR,rfl,_,_,rfl,_,_,rfl,_,_,rfl,_,_,rfl,rfl,_,aJ hRw,r,rfl,aK X2 ⟨⟨_,aQ.of hRw⟩,λD1 nD1=>?_⟩⟩;refine Qx (g:=λ_=>V.bl true) hRw al nD1 X2 (λx hx B' H' Q' xx qq=>?_) (λH1 qv x1=>?_)
 . have:=rk.k x hx
   ext
   rw[Hk this.1,Hm this.2];exact qq _ Ext.refl
 rw[all_map]at qv;refine⟨_,aQ.of qv,?_⟩;rw[all_true];refine aK Y2 ⟨⟨_,aQ.of (x1.at hRw)⟩,λD2 nD2=>?_⟩;obtain⟨M,e1,e2,hM⟩:=ai.zip al;have lM:M.length=rows.length:=by rw[e2,ab]
 rw[e1]at hRw;refine gH (L:=M) (f:=λq=>q.1) (g:=λ_=>V.bl true) (aQ.of (x1.at hRw)) nD2 X2 (λx hx H' Q' xx qq=>?_) (λH2 lG x2=>?_)
 . have y:=x1.trans xx;have Rj:x.2∈rows:=by rw[e2];exact cx hx
   ext
   refine⟨_,_,_,y.at sv.ins,SV.cl,SV.last,_,Ir,x.1,x.2,H0,D,L,last,rfl,(hM x hx).ext y,?_,y.at hD,hL.ext y,lL,λp hp=>?_,qq⟩
   . have:=(rk.v x.2 Rj).l;intro z;rw[z]at this;simp at this
   . have:=(rk.v x.2 Rj).n p hp;exact⟨by omega,λq hq=>by have:=nL q hq;omega⟩
 rw[all_map]at lG;refine⟨_,aQ.of lG,?_⟩;rw[all_true];exact q _ (x1.trans x2)
theorem kH:∀{l:List Int},l.Pairwise (· < ·)->rising l=true
 | [],_=>rfl
 | [_],_=>rfl
 | a::b::r,h=>by
   rw[List.pairwise_cons]at h;unfold rising;rw[kH h.2,Hm (h.1 b (cb ..))];rfl
def inD (n:Int)(aV ch:List Int)(aM:List Nt):PyData:=.tuple [.str "inner",.int n,.list (aV.map PyData.int),.list (ch.map PyData.int),.list (aM.map Nt.d)]
theorem Sl {v:V}{ch:List Int}{aM:List Nt}(h:aL K H0 H (inD n aV ch aM) v):∃(T Pv C Y:Addr) (L:List (V×Nt)),v=.ref T/\tupQ K H T=some [.str "inner",.int n,.ref Pv,.ref C,.ref Y]/\(new K H0 Pv/\H Pv=some (.lst (aV.map V.int)))/\(new K H0 C/\H C=some (.lst (ch.map V.int)))/\new K H0 Y/\H Y=some (.lst (L.map (·.1)))/\aM=L.map (·.2)/\∀q∈L,aL K H0 H q.2.d q.1:=by
 unfold inD at h;simp only[aL.tt,ai.cc,ai.nn,aL.ss,aL.ii,aL.ll]at h;obtain⟨T,us,rfl,hT,v1,r1,rfl,rfl,v2,r2,rfl,rfl,v3,r3,rfl,⟨Pv,ps,rfl,n1,h1,a1⟩,v4,r4,rfl,⟨C,cs,rfl,n2,h2,a2⟩,v5,r5,rfl,⟨Y,ys,rfl,n3,h3,a3⟩,rfl⟩:=h;obtain⟨L,e1,e2,hL⟩:=ai.zip (d:=Nt.d) a3;rw[a1.ints]at h1;rw[a2.ints]at h2;rw[e1]at h3;exact⟨T,Pv,C,Y,L,rfl,hT,⟨n1,h1⟩,⟨n2,h2⟩,n3,h3,e2,hL⟩
inductive N5 (K:Frag)(c:Addr)(vs:List V)(H:Hp)(Q:VK)(E9:XK):Prop
 | mk (s dx rv last fresh bF ds kn aB fl a b r pl v H0 n lo hi aV ch aM f D L:_) (_:vs=[.ref s,v,.int lo,.int hi,.ref D]) (_:n8 K H c s dx rv last fresh bF ds kn aB fl) (_:iM K H rv a b r pl) (_:aL K H0 H (inD n aV ch aM) v) (_:(lo::(aV++[hi])).Pairwise (· < ·)) (_:ch.length=aV.length + 1) (_:(ch.length:Int)<=b) (_:ch.length<=100) (_:Qp lo hi f a aM) (_:40 * f + 40<=last) (_:H D=some (.lst (L.map (·.1)))) (_:qB K H L) (_:L.length<=100) (_:(∀q∈L,40 * f + 40<=q.2.n)) (_:∀H',Ext K H H'->Q (.bl true) H')
include B in
theorem jV (F:bT K "is_inner_sound" "Survey.is_inner_sound" bQ f fd)(SV:Qw K az)(bX:⋯ "is_rising" 1 ["numbers"] (Dk K))(lN:⋯ "are_within" 1 ["notes","low","high","last"] (DA K))(tY:⋯ "is_tray" 3 ["notes"] (Ip K))(eE:⋯ "are_beneath" 2 ["notes","others"] (N2 K)):(!0) 4 f fd ["self","inner","low","high","notes"] (N5 K az):=by
 exists 0,["self","inner","low","high","notes","most","fan","rows","plan","word","number","pivots","children","tray"]
 obtain⟨s,dx,rv,last,fresh,bF,ds,kn,aB,fl,a,b,r,pl,v,H0,n,lo,hi,aV,ch,aM,f,D,L,rfl,sv,⟨R0,rfl,hR⟩,hv,up,lc,lb,l100,tk,l40,hD,hL,lL,nL,q⟩:=h;obtain⟨T,Pv,C,Y,M,rfl,hT,⟨_,hP⟩,⟨_,hC⟩,_,hY,rfl,hM⟩:=Sl hv;exists 2,bQ,4,aE (aR (fM (ec tY hr (aa Ny ah)) (iC (ec eE hr (aa Ny (aa jA ah)))))),r4,J4,e4;exists 2,bQ,3,ao (iV (tw (sH (cM (cz (om (mA Ci)) (jm (tN B.len Ny)) jv5 (aH _))) (jc (fj (ef (ec lN hr (aa Ny (aa eB (aa gC (aa (j7 (dH cN)) ah)))))))))) (aE (aR uP)) cD) J4,r3,J3,e3;exists 2,bQ,2,ao (iV (tw (sH (cM (cz (om (mA Ci)) (jm (tN B.len UU)) UW (aH _))) (sH (cM (cz (om qR) (jm (tN B.len UU)) (jm (cB (mA bu) (tN B.len Ks) ei)) (aH _))) (jc (fj (ef (ec bX hr (aa (cB cR (cB cR (jG (aa eB ah)) Ks) (jG (aa gC ah))) ah)))))))) (aE (aR uP)) cD) J3,r2,J2,e2;refine⟨_,(ao (iW (j7 (dH cN)) (kX (dF (n:=4) rfl (aA (gn 5 nk) (aA (gn 6 nk) (aA (gn 7 nk) (aA (gn 8 nk) dN))))))) (ao (iW cF (kX (dF (n:=5) rfl (aA (gn 9 nk) (aA (gn 10 nk) (aA (gn 11 nk) (aA (gn 12 nk) (aA (gn 13 nk) dN)))))))) J2)),?_⟩
 ext
 refine⟨_,_,_,sv.ins,SV.cl,SV.rule,_,Iq,R0,rfl,_,hR,rfl,_,_,rfl,_,_,rfl,_,_,rfl,_,_,rfl,rfl,_,hT,rfl,_,_,rfl,_,_,rfl,_,_,rfl,_,_,rfl,_,_,rfl,rfl,?_⟩;rw[e2];simp_arith [↓OG hC,↓OG hP];refine aK (by rw[ab];omega) (aK (by rw[ab,ab];simp;omega) λp1 n1=>?_);have y1:=bM (.lst [V.int lo]) n1;refine⟨_,y1.at hP,by rw[ab];omega,λp2 n2 p3 n3=>?_⟩;have y2:=y1.trans (Ext.new (o:=.lst (V.int lo::aV.map V.int)) n2);have y3:=bM (.lst [V.int hi]) n3;refine⟨_,y3.at af,by simp;omega,λp4 n4=>?_⟩;have Y4:=y2.trans (y3.trans (Ext.new (o:=.lst (V.int lo::aV.map V.int++[V.int hi])) n4));refine⟨p4,lo::(aV++[hi]),rfl,aQ.of (by rw[af,List.map_cons,bj];rfl),by simp;omega,λH5 x5=>⟨_,rfl,?_⟩⟩;rw[kH up];refine aK Y1 ?_;have x5:=Y4.trans x5;clear Y4 y1 y2 y3;have hY5:=x5.at hY;have ht:qB K H M:=λq hq=>N1 (hM q hq);have lt:=tk.l;rw[ab]at lt;rw[e3];simp_arith [↓OG hY5];refine aK (by rw[ab];omega) ⟨_,_,_,x5.at sv.ins,SV.cl,SV.last,_,Ir,Y,M,lo,hi,last,rfl,hY5,ht.ext x5,by omega,λq hq=>?_,λH6 x6=>⟨true,rfl,aK Y1 ?_⟩⟩
 . have:=tk.e q.2 (cx hq);exact⟨this.s.1,this.s.2.2,by have:=this.n;omega⟩
 have x6:=x5.trans x6;rw[e4]
 ext
 refine⟨Y,M,rfl,x6.at hY,ht.ext x6,by omega,by have:=tk.up;rw[dq]at this;exact this,λH7 x7=>⟨true,rfl,bw rfl ?_⟩⟩;have x7:=x6.trans x7;refine⟨Y,D,M,L,rfl,x7.at hY,x7.at hD,ht.ext x7,hL.ext x7,by omega,lL,λx hx y hy _=>?_,λH8 x8=>q _ (x7.trans x8)⟩;have h1:=(tk.e x.2 (cx hx)).n;have h2:=nL y hy;omega
theorem kI {v:Addr}(x:Ext K H H1)(n:new K H1 v):new K H v:=by
 refine⟨?_,n.2⟩;have h1:=n.1;cases e:H v with
 | none=>rfl
 | some o=>
   rw[x.same v o e]at h1;cases h1
theorem n8.ext {c s:Addr}{fresh:Int}{ds:List V}(h:n8 K H c s dx rv last fresh bF ds kn aB fl)(x:Ext K H H'):n8 K H' c s dx rv last fresh bF ds kn aB fl:=⟨x.at h.ins,x.at h.bF,x.at h.kn⟩
theorem N6 {a c:Addr}{o:HO}{fs:List (Str×V)}(hA:H A=some (.ins c dx fs))(h:tupQ K H a=some xs):tupQ K (upd H A o) a=some xs:=by
 have:a≠A:=λz=>by rw[z]at h;unfold tupQ at h;rw[hA]at h;cases h
 unfold tupQ at h ⊢;rw[au this];exact h
def N7 (K:Frag)(H0 H:Hp)(D:Addr)(ws:List V)(x l h:Int)(u:V):Prop:=∃T E,u=.ref T/\tupQ K H T=some [.int x,.int l,.int h,.ref E]/\new K H0 E/\E≠D/\H E=some (.lst ws)
theorem N7.ext {x l h:Int}(a:N7 K H0 H D ws x l h u)(y:Ext K H H'):N7 K H0 H' D ws x l h u:=by
 obtain⟨T,E,e,t,n,ne,z⟩:=a;exact⟨T,E,e,y.tup t,n,ne,y.at z⟩
theorem N7.kp {x l h:Int}(a:N7 K H0 H D ws x l h u)(hD:H D=some (.lst xs))(y:Kp K D H H'):N7 K H0 H' D ws x l h u:=by
 obtain⟨T,E,e,t,n,ne,z⟩:=a;exact⟨T,E,e,y.tup hD t,n,ne,y.keep _ _ z ne⟩
theorem N8 {c:Addr}{L:List (Addr×Int×Int×Int)}{v2:Option V}{rest:St}(hc:H c=some (.lst (L.map λq=>.ref q.1)))(hL:∀q∈L,tupQ K H q.1=some [.int q.2.1,.int q.2.2.1,.int q.2.2.2])(x0:Ext K H0 H)(nD:new K H D)(hz:L.length<=1000)
   (elt:∀q∈L,∀(H':Hp) (Q':VK),Ext K H H'->(∀u H'',(∀D,(∃o,H' D=some o)->N7 K H' H'' D ws q.2.1 q.2.2.1 q.2.2.2 u)->Ext K H' H''->Q' u H'')->te (some (.int q.2.1)::some (.int q.2.2.1)::some (.int q.2.2.2)::rest) H' Q')
   (fin:∀us H',H' D=some (.lst us)->us.length=L.length->(∀(j:Nat) q u,L[j]?=some q->us[j]?=some u->N7 K H0 H' D ws q.2.1 q.2.2.1 q.2.2.2 u)->Ext K H H'->Q H'):b7 (ug K c) (pS K 3 (iy (bI 0) (iy (bI 1) (iy (bI 2) vB)))) pI te D Q (v0::v1::v2::rest) 'l':=by
 refine fQ (xs:=L.map λq=>.ref q.1) (λi acc σ' H'=>∃v0 v1 v2,σ'=v0::v1::v2::rest/\H' D=some (.lst acc)/\acc.length=i/\i<=L.length/\(∀(j:Nat) q u,L[j]?=some q->acc[j]?=some u->N7 K H0 H' D ws q.2.1 q.2.2.1 q.2.2.2 u)/\Kp K D 'l' H') ⟨_,_,_,rfl,af,rfl,gs _,λj q u _ h=>(by simp at h),Kp.refl⟩ ?_ ?_ ?_
 . rintro i acc σ' H' _ ⟨v0,v1,v2,rfl,hD,_,_,_,k⟩;exact aQ.of ((k.ext nD).at hc)
 . rintro i x acc σ' H' hx ⟨v0,v1,v2,rfl,hD,ln,hi,ha,k⟩;rw[ax]at hx;obtain⟨q,hq,rfl⟩:=bp.mp hx;have iI:=(bo.mp hq).1;have xk:=k.ext nD;have h1:=xk.tup (hL q (bb hq));unfold pI;simp only[pS,↓MZ,iy,vB,bI,List.set_cons_zero,List.set_cons_succ];refine⟨_,h1,rfl,_,_,rfl,_,_,rfl,_,_,rfl,rfl,?_⟩;rw[Hk trivial];refine elt q (bb hq) H' _ xk λu H'' aw x''=>?_;have lG:=x''.at hD;have kD:=Kp.upd (K:=K) (o:=.lst (acc++[u])) lG;refine⟨lG,by rw[ln];exact cm iI (cw hz Y1),_,_,_,rfl,af,by rw[ar,ln];rfl,iI,λj q' u' hj hu=>?_,k.trans (x''.kp.trans kD)⟩
   by_cases Vy:j < acc.length
   . rw[gN Vy]at hu;exact((ha j q' u' hj hu).ext x'').kp lG kD
   . rw[i5 X2]at hu;have e0:j - acc.length=0:=by
       have:=(bo.mp hu).1;simp at this;omega
     rw[e0]at hu;cases hu;have ej:j=i:=X2
     subst ej;rw[hq]at hj;cases hj;obtain⟨T,E,e,t,n,ne,z⟩:=aw D ⟨_,hD⟩;exact N7.kp (K:=K) (H:=H'') ⟨T,E,e,t,kI x0 (kI xk n),ne,z⟩ lG kD
 . rintro acc σ' H' ⟨v0,v1,v2,rfl,hD,ln,hi,ha,k⟩;rw[ab]at ln;exact fin acc H' hD ln ha (k.ext nD)
inductive Iv (K:Frag)(c:Addr)(vs:List V)(H:Hp)(Q:VK)(E9:XK):Prop
 | mk (s dx rv last fresh bF ds kn aB fl T n lo hi:_) (aV ch:List Int) (Pv C Y E) (ts:List V) (_:vs=[.ref s,.ref T,.int lo,.int hi,.ref E]) (_:n8 K H c s dx rv last fresh bF ds kn aB fl) (_:tupQ K H T=some [.str "inner",.int n,.ref Pv,.ref C,.ref Y]) (_:H Pv=some (.lst (aV.map V.int))) (_:H C=some (.lst (ch.map V.int))) (_:ch.length=aV.length + 1) (_:aV.length<=100) (_:H E=some (.lst ts)) (_:ts.length<=100) (_:ds.length<=10000) (_:∀sj (us:List V) H',new K H sj->n8 K H' c s dx rv last fresh sj (ds++us.reverse) kn aB fl->us.length=ch.length->(∀(j:Nat) (u:V) (x l h:Int),us[j]?=some u->ch[j]?=some x->(lo::aV)[j]?=some l->(aV++[hi])[j]?=some h->N7 K H H' sj (ts++[.ref Y]) x l h u)->Kp K s H H'->Q .bS H')
include B in
theorem jW (F:bT K "await_children" "Survey.await_children" cj f fd)(SV:Qw K az):(!0) 1 f fd ["self","inner","low","high","trays"] (Iv K az):=by
 exists 0,["self","inner","low","high","trays","word","number","pivots","children","tray","told"]
 obtain⟨s,dx,rv,last,fresh,bF,ds,kn,aB,fl,T,n,lo,hi,aV,ch,Pv,C,Y,E',ts,rfl,sv,hT,hP,hC,lc,lp,hE,lt,ld,q⟩:=h;exists 2,cj,2,aE (uR (iL cN (jm (cB cR (j7 (dH cN)) (pP (ck [ "child","first","end","trays","tray" ] [none,none,none,some 4,some 9]) rfl (kO (bU (jm (Ur Kr)))) (λ_ _ _ _=>(kX (iK K (n:=3) rfl (aA (gn 0 nk) (aA (gn 1 nk) (aA (gn 2 nk) dN)))))) 'v' (λ_ _ _ _=>(RG (qm K (am (aa bg (aa cF (aa eB (aa (cB (Mr (K:=K)) gC (lsM (Mq K (am (aa jA ah))))) ah))))))))))))),r2,J2,e2;exists 2,cj,1,ao (ss 10 nk (Km rfl rfl B.list rfl B.zip (aa Dc (aa (cB cR (jG (aa eB ah)) Qi) (aa (cB cR Qi (jG (aa gC ah))) ah))))) J2,r1,J1,e1;refine⟨_,(ao (iW cF (kX (dF (n:=5) rfl (aA (gn 5 nk) (aA (gn 6 nk) (aA (gn 7 nk) (aA (gn 8 nk) (aA (GN (i:=9) nk rfl (Or.inr rfl)) dN)))))))) J1),?_⟩
 ext
 refine⟨_,hT,rfl,_,_,rfl,_,_,rfl,_,_,rfl,_,_,rfl,_,_,rfl,rfl,?_⟩;rw[e1]
 ext
 intro p1 n1;have x1:=bM (.lst [V.int lo]) n1;refine⟨_,x1.at hP,by rw[ab];omega,λp2 n2 p3 n3=>?_⟩;have x2:=x1.trans (bM (.lst (V.int lo::aV.map V.int)) n2);have x3:=x2.trans (bM (.lst [V.int hi]) n3);refine⟨_,x3.at hP,by rw[ab];omega,λp4 n4=>?_⟩;have x4:=bM (.lst (aV.map V.int++[V.int hi])) n4;have x04:=x3.trans x4;refine⟨_,aQ.of (x04.at hC),_,aQ.of (x4.at ((Ext.new (K:=K) n3).at af)),_,aQ.of af,by simp[lc],by simp[lc],by simp;omega,by simp;omega,λD L H5 nD lL ndL dL hD x5 hL=>?_⟩;have x05:=x04.trans x5;rw[ab]at lL;generalize upd (upd (upd (upd H p1 _) p2 _) p3 _) p4 _=H4 at nD x5 hL x04;rw[e2]
 ext
 have Sm:=sv.ext x05;obtain⟨M,hM⟩:∃M:List (Addr×Int×Int×Int),M=L.zip (ch.zip ((lo::aV).zip (aV++[hi]))):=⟨_,rfl⟩
 have lM:M.length=L.length:=by
   rw[hM];simp only[mN,List.length_cons,ar,List.length_nil];omega
 have mM:M.map (λq=>q.1)=L:=by
   rw[hM];exact pj (by simp only[mN,List.length_cons,ar,List.length_nil];omega)
 have gM:∀(j:Nat) q,M[j]?=some q->L[j]?=some q.1/\ch[j]?=some q.2.1/\(lo::aV)[j]?=some q.2.2.1/\(aV++[hi])[j]?=some q.2.2.2:=by
   intro j q h;rw[hM,dr,dr,dr]at h;exact⟨h.1,h.2.1,h.2.2.1,h.2.2.2⟩
 refine⟨_,_,_,Sm.ins,SV.cl,SV.bF,_,Bq,_,aQ.of hD,λp6 n6=>⟨⟨_,aQ.of af⟩,λD7 n7=>?_⟩⟩;have x6:=bM (.lst (L.map V.ref).reverse) n6;have x06:=x05.trans x6;have h6:upd H5 p6 (.lst (L.map V.ref).reverse) p6=some (.lst (M.reverse.map λq=>.ref q.1)):=by
   rw[af,Fn,<- mM,dq];rfl
 refine N8 (H0:=H) (ws:=ts++[.ref Y]) h6 (λr hr=>?_) x06 n7 (by rw[fb,lM];omega) (λr hr H' Q' xx qq=>?_) (λus H8 hD8 l8 a8 x8=>?_)
 . obtain⟨j,hj,ej⟩:=fw.mp (vk.mp hr);obtain⟨g1,g2,g3,g4⟩:=gM j r (by rw[<- ej];exact a9 hj);have e1:(ch.map V.int)[j]?=some (V.int r.2.1):=by rw[ax,g2];rfl
   have e2:(V.int lo::aV.map V.int)[j]?=some (V.int r.2.2.1):=by
     have:=congrArg (Option.map V.int) g3;rw[<- ax]at this;exact this
   have e3:(aV.map V.int++[V.int hi])[j]?=some (V.int r.2.2.2):=by
     have:=congrArg (Option.map V.int) g4;rw[<- ax,bj]at this;exact this
   exact x6.tup (by unfold tupQ;rw[(hL j r.1 _ _ _ g1 e1 e2 e3).2])
 . ext
   intro y1 m1;have w1:=bM (.lst [V.ref Y]) m1;have w6:=x06.trans xx;refine⟨_,(w6.trans w1).at hE,by omega,λy2 m2 y3 m3=>?_⟩;have w2:=bM (.lst (ts++[V.ref Y])) m2;have w3:=bM (.tup [V.int r.2.1,V.int r.2.2.1,V.int r.2.2.2,V.ref y2]) m3;refine qq _ _ (λD=>?_) ((w1.trans w2).trans w3);rintro⟨o,hD⟩;refine ⟨y3,y2,rfl,aF,kI w1 m2,λz=>?_,w3.at af⟩;have:=w1.at hD;rw[<- z,m2.1]at this;cases this
 have x08:=x06.trans x8;have sv8:=sv.ext x08;refine⟨_,rfl,_,sv8.bF,_,hD8,by rw[l8,fb,lM];omega,λp9 n9=>?_⟩;have x9:=bM (.lst (ds++us)) n9;have YJ:=sv8.ext x9;have ps:p9≠s:=λz=>by have:=sv8.ins;rw[<- z,n9.1]at this;cases this
 have ks:kn≠s:=λz=>by have e1:=sv.kn;have e2:=sv.ins;rw[z,e2]at e1;cases e1
 refine⟨_,_,_,YJ.ins,SV.cl,SV.bF,by simp[pL],?_⟩;have p8:bC "due" (.ref p9) 'o'=pL rv last fresh p9 kn fl:=by simp only[bC,r_d,l_d,f_d,Kt,QP,pL]
 rw[p8];have F3:upd (upd H8 p9 (.lst (ds++us))) s (.ins az dx (pL rv last fresh p9 kn fl)) p9=some (.lst (ds++us.reverse.reverse)):=by rw[au ps,af,xt]
 have kS:=Kp.gX (K:=K) (o:=.ins az dx (pL rv last fresh p9 kn fl)) YJ.ins;refine q p9 us.reverse _ (kI x08 n9) ⟨af,F3,by rw[au ks];exact YJ.kn⟩ (by rw[fb,l8,fb,lM];omega) (λj u x l h hu g1 g2 g3=>?_) ((x08.trans x9).kp.trans kS);have hj:j < us.length:=by
   have:=(bo.mp hu).1;simpa using this
 have hjM:j < M.length:=by rw[l8,fb]at hj;exact hj
 rw[wb hj]at hu;obtain⟨r,hr⟩:∃r,M[j]?=some r:=⟨_,a9 hjM⟩
 have qN:M.reverse[us.length - 1 - j]?=some r:=by
   rw[wb (by rw[l8,fb]at hj ⊢;omega),show M.length - 1 - (us.length - 1 - j)=j by rw[l8,fb];omega];exact hr
 obtain⟨_,k1,k2,k3⟩:=gM j r hr;rw[g1]at k1;rw[g2]at k2;rw[g3]at k3;cases k1;cases k2;cases k3;obtain⟨T',E2,e,t,nE,_,z⟩:=a8 _ r u qN hu;have z9:=x9.at z;have Es:E2≠s:=λy=>by have:=YJ.ins;rw[<- y,z9]at this;cases this
 have Ep:E2≠p9:=λy=>by rw[y,n9.1]at z;cases z
 refine⟨T',E2,e,?_,nE,Ep,by rw[au Es];exact z9⟩;exact N6 YJ.ins (x9.tup t)
structure Du where
 t:Tr
 o:Option Int
 lo:Int
 hi:Int
 f:Nat
 Ys:List (Addr×List (V×Nt))
def Ef (K:Frag)(H1 H:Hp)(bF:Addr)(d:Du)(u:V):Prop:=∃T E,u=.ref T/\tupQ K H T=some [on d.o,.int d.lo,.int d.hi,.ref E]/\new K H1 E/\E≠bF/\H E=some (.lst (d.Ys.map λy=>.ref y.1))
structure ZZ (K:Frag)(H1:Hp)(a b c:Int)(g:Addr->Int)(F:Nat)(d:Du):Prop where
 ok:bq a b c d.t d.f d.lo d.hi
 o:d.o=none∨d.o=some (g d.t.a)
 f:d.Ys.length + d.f=F
 y:∀y∈d.Ys,H1 y.1=some (.lst (y.2.map (·.1)))/\qB K H1 y.2/\y.2.length<=5/\∀q∈y.2,40 * (d.f:Int) + 40<=q.2.n
theorem Kp.YK {x a:Addr}{o:HO}(k:Kp K x H H')(hx:H x=some o)(nt:∀xs,o≠.tup xs)(h:tupQ K H a=some xs):tupQ K H' a=some xs:=by
 have ne:a≠x:=λz=>by
   rw[z]at h;unfold tupQ at h;rw[hx]at h;cases o <;> first | cases h | skip
   exact nt _ rfl
 cases e:H a with
 | none=>
   have h':=h;unfold tupQ at h;rw[e]at h;unfold tupQ;rw[k.mod a xs e h];exact h
 | some u=>
   have h':=k.keep a u e ne;unfold tupQ at h ⊢;rw[e]at h;rw[h'];exact h
theorem Ef.kp {x:Addr}{o:HO}{d:Du}(h:Ef K H1 H bF d u)(k:Kp K x H H')(hx:H x=some o)(nt:∀xs,o≠.tup xs)(ne:x=bF∨∀xs,o≠.lst xs):Ef K H1 H' bF d u:=by
 obtain⟨T,E,e,t,n,ed,hE⟩:=h;refine⟨T,E,e,Kp.YK k hx nt t,n,ed,k.keep _ _ hE λz=>?_⟩;rcases ne with rfl | ne
 . exact ed z
 . rw[z,hx]at hE;exact ne _ (Option.some.inj hE)
theorem Ef.ext {d:Du}(h:Ef K H1 H bF d u)(x:Ext K H H'):Ef K H1 H' bF d u:=by
 obtain⟨T,E,e,t,n,ed,hE⟩:=h;exact⟨T,E,e,x.tup t,n,ed,x.at hE⟩
theorem Ef.at {sj:Addr}{d:Du}(h:Ef K H1 H bF d u)(n:H sj=none):Ef K H1 H sj d u:=by
 obtain⟨T,E,e,t,nE,ed,hE⟩:=h;exact⟨T,E,e,t,nE,λz=>(by rw[z,n]at hE;cases hE),hE⟩
mutual
theorem bq.lt {a b c:Int}:∀{t:Tr}{f:Nat}{lo hi:Int},bq a b c t f lo hi->lo < hi
 | .leaf _ _ _ _,_,_,_,h=>by unfold bq at h;exact h.2.2.2.1
 | .inner _ _ _ aV aM kids,f,lo,hi,h=>by
   unfold bq at h;obtain⟨_,_,_,_,g,_,_,h⟩:=h;exact bz.lt h
theorem bz.lt {a b c:Int}:∀{ts:List Tr}{g:Nat}{lo:Int}{aV:List Int}{hi:Int},bz a b c ts g lo aV hi->lo < hi
 | [],_,_,_,_,h=>by unfold bz at h;exact h.elim
 | t::ts,g,lo,[],hi,h=>by unfold bz at h;exact bq.lt h.1
 | t::ts,g,lo,q::qs,hi,h=>by unfold bz at h;exact Int.lt_trans (bq.lt h.1) (bz.lt h.2)
end
theorem qE {a b c hi:Int}{g:Nat}:∀{ts:List Tr}{aV:List Int}{lo:Int},bz a b c ts g lo aV hi->∀(j:Nat) (t:Tr),ts[j]?=some t->∃l h,(lo::aV)[j]?=some l/\(aV++[hi])[j]?=some h/\bq a b c t g l h/\lo<=l/\h<=hi
 | [],_,_,h,_,_,_=>by unfold bz at h;exact h.elim
 | t::ts,[],lo,h,j,u,hj=>by
   unfold bz at h;obtain⟨h,rfl⟩:=h;cases j with
   | zero=>cases hj;exact⟨lo,hi,rfl,rfl,h,mx _,mx _⟩
   | succ j=>simp at hj
 | t::ts,q::qs,lo,h,j,u,hj=>by
   unfold bz at h;cases j with
   | zero=>cases hj;exact⟨lo,q,rfl,rfl,h.1,mx _,Int.le_of_lt (bz.lt h.2)⟩
   | succ j=>
     obtain⟨l,h',e1,e2,e3,e4,e5⟩:=qE h.2 j u hj;exact⟨l,h',e1,e2,e3,Int.le_of_lt (Int.lt_of_lt_of_le (bq.lt h.1) e4),e5⟩
theorem F9 {a b c hi:Int}{g:Nat}:∀{ts:List Tr}{aV:List Int}{lo:Int},bz a b c ts g lo aV hi->(lo::(aV++[hi])).Pairwise (· < ·)
 | [],_,_,h=>by unfold bz at h;exact h.elim
 | t::ts,[],lo,h=>by
   unfold bz at h;have:=bq.lt h.1;simp[this]
 | t::ts,q::qs,lo,h=>by
   unfold bz at h;have h1:=bq.lt h.1;have h2:=F9 h.2;rw[List.cons_append];refine List.pairwise_cons.mpr ⟨λz hz=>?_,h2⟩;rcases List.mem_cons.mp hz with rfl | hz
   . exact h1
   . exact Int.lt_trans h1 ((List.pairwise_cons.mp h2).1 z hz)
theorem Qy {lo c:Int}{rows:List (Int×List lq)}(h:yN lo hi c rows)(h0:0<=lo)(h1:hi<=10 ^ 12):xu rows=true:=by
 unfold xu;rw[kH h.up,lj,eP];intro r hr;have k:=h.k r hr;have v:=h.v r hr;unfold HZ A9;rw[kH v.up,Hm X2,lj,Hb,cp];refine⟨?_,?_⟩
 . have:=v.l.1;cases e:r.2 with
   | nil=>rw[e]at this;simp at this
   | cons p ps=>rfl
 . rw[eP];exactλp hp=>Hm (v.n p hp).1
theorem N9 {lo f a:Int}{aM:List Nt}(h:Qp lo hi f a aM)(hf:0<=f)(h0:0<=lo)(h1:hi<=10 ^ 12):FN (some (aM.map Nt.rn))=true:=by
 unfold FN;rw[eP];intro r hr;obtain⟨e,he,rfl⟩:=fg.mp hr;have k:=h.e e he;have s:=k.s;have n:=k.n;have p1:fO 1 (some e.n)=true:=Hm X2;have p2:KA (some e.lo) (some e.hi)=true:=by
   unfold KA wO;simp only[cp,Iy];omega
 have p3:R9 PI (some e.t)=true:=by
   cases e.t <;> first | rfl | exact Hm (by simp[PI])
 have p4:R9 [Str.ofString "is"] (some e.m)=true/\(UX (some e.lo) (some e.hi)||FL (some e.m))=true:=by
   rcases k.m with m | ⟨i,m,_,gp⟩
   . rw[m];exact⟨rfl,by simp[FL]⟩
   . rw[m];refine⟨by unfold R9;simp,?_⟩;show(decide (e.hi - e.lo=1)||_)=true;rw[Hm gp];rfl
 unfold xq;simp only[Nt.rn,p1,p2,p3,p4.1,p4.2,Bool.and_self]
theorem Qz {E:Addr}{Ys:List (Addr×List (V×Nt))}{N:List V->St->Hp->Prop}(hE:H E=some (.lst (Ys.map λy=>.ref y.1)))(hY:∀y∈Ys,H y.1=some (.lst (y.2.map (·.1))))(nD:new K H D)(hz:(Ys.flatMap (·.2)).length<=1000)
   (fin:∀acc σ H',H' D=some (.lst ((Ys.flatMap (·.2)).map (·.1)))->Ext K H H'->N acc σ H'):fR (ug K E) (bI 0) pI (ur (tM K (vM 0)) (bI 1) pI (vM 1) D) [] N [v0,v1] 'l':=by
 refine u9 (xs:=Ys.map λy=>.ref y.1) (λi acc σ' H'=>∃(v0 v1:Option V),σ'=[v0,v1]/\acc=((Ys.take i).flatMap (·.2)).map (·.1)/\H' D=some (.lst acc)/\Kp K D 'l' H') ⟨_,_,rfl,rfl,af,Kp.refl⟩ ?_ ?_ ?_
 . rintro i acc σ' H' _ ⟨v0,v1,rfl,_,_,k⟩;exact aQ.of ((k.ext nD).at hE)
 . rintro i x acc σ' H' hx ⟨v0,v1,rfl,rfl,hD,k⟩;rw[ax]at hx;obtain⟨y,hy,rfl⟩:=bp.mp hx;have U9:=(k.ext nD).at (hY y (bb hy))
   ext
   refine⟨⟨_,aQ.of U9⟩,?_⟩;have sp:(Ys.take (i + 1)).flatMap (·.2)=(Ys.take i).flatMap (·.2)++y.2:=by rw[List.take_add_one,hy,fi,List.flatMap_append];simp
   have le:((Ys.take (i + 1)).flatMap (·.2)).length<=1000:=by
     have e:=congrArg (λl=>(l.flatMap (·.2)).length) (vT (i + 1) Ys);simp only[List.flatMap_append,ar]at e;omega
   rw[sp,ar]at le;refine u9 (xs:=y.2.map (·.1)) (λj acc σ' H'=>∃(v1:Option V),σ'=[some (V.ref y.1),v1]/\acc=((Ys.take i).flatMap (·.2)++y.2.take j).map (·.1)/\H' D=some (.lst acc)/\Kp K D 'l' H') ⟨_,rfl,by simp,hD,k⟩ ?_ ?_ ?_
   . rintro j acc σ' H' _ ⟨v1,rfl,_,_,k⟩;exact aQ.of ((k.ext nD).at (hY y (bb hy)))
   . rintro j x acc σ' H2 hx ⟨v1,rfl,rfl,hD,k⟩;rw[ax]at hx;obtain⟨q2,hq2,rfl⟩:=bp.mp hx;have hj:j < y.2.length:=(bo.mp hq2).1
     ext
     refine⟨hD,?_,?_,k.trans (Kp.upd hD)⟩
     . simp only[ar,eC,ab,sizeLine]at *;omega
     . rw[List.take_add_one,hq2,fi,<- gL,bj (l₂:=[q2])];rfl
   . rintro acc σ' H2 ⟨v1,rfl,rfl,hD,k⟩;rw[ab,dv]at hD;exact⟨_,_,rfl,by rw[ab,dv,sp],by rw[ab,dv];exact hD,k⟩
 . rintro acc σ' H' ⟨v0,v1,rfl,rfl,hD,k⟩;rw[ab,dv]at hD;exact fin _ _ H' hD (k.ext nD)
theorem pM {a:V}{l:List V}:j3 (a::l) 0=some a:=by
 have:=dI (xs:=a::l) (i:=0) rfl;simpa using this
theorem tZ {a b:V}{l:List V}:j3 (a::b::l) 1=some b:=by
 have:=dI (xs:=a::b::l) (i:=1) rfl;simpa using this
theorem t6 {fresh:Int}(k1:(m=="rule")=false)(k2:(m=="last")=false)(k3:(m=="fresh")=false)(k4:(m=="due")=false)(k5:(m=="known")=false)(k6:(m=="floors")=false):List.lookup m 'o'=none:=by
 simp only[pL,List.lookup,k1,k2,k3,k4,k5,k6]
theorem Va {fresh:Int}:List.lookup ("may_have":Str) 'o'=none:=t6 X9 X9 X9 X9 X9 X9
theorem YL {fresh:Int}:List.lookup ("is_leaf_sound":Str) 'o'=none:=t6 X9 X9 X9 X9 X9 X9
theorem YM {fresh:Int}:List.lookup ("is_inner_sound":Str) 'o'=none:=t6 X9 X9 X9 X9 X9 X9
theorem YN {fresh:Int}:List.lookup ("has_floors":Str) 'o'=none:=t6 X9 X9 X9 X9 X9 X9
theorem YO {fresh:Int}:List.lookup ("await_children":Str) 'o'=none:=t6 X9 X9 X9 X9 X9 X9
theorem YQ {fresh:Int}:List.lookup ("takes":Str) 'o'=none:=t6 X9 X9 X9 X9 X9 X9
inductive Iw (K:Frag)(cS:Addr)(vs:List V)(H:Hp)(Q:VK)(E9:XK):Prop
 | mk (s dx rv last fresh bF kn aB fl a b c pl H0 H1 v:_) (g:Addr->Int) (F:Nat) (Z:List (Du×V)) (z:Du×V) (_:vs=[.ref s,v]) (_:n8 K H cS s dx rv last fresh bF ((Z++[z]).map (·.2)) kn aB fl) (_:Ext K H1 H) (_:(∀x∈[s,bF,kn],new K H1 x)) (_:iM K H1 rv a b c pl) (_:(∀y∈Z++[z],Ef K H1 H bF y.1 y.2)) (_:ZZ K H1 a b c g F z.1) (_:aL K H0 H1 (z.1.t.told g) v) (_:(0<=g z.1.t.a/\g z.1.t.a < fresh)) (_:c8 aB (.inl (g z.1.t.a))=none) (_:F<=3) (_:(fl=.bS∨fl=.int F)) (_:40 * (F:Int) + 40<=last) (_:aB.length<=1000) (_:Z.length<=1000) (_:(0<=z.1.lo/\z.1.hi<=10 ^ 12)) (_:∀sj Z' fl' H',n8 K H' cS s dx rv last fresh sj ((Z++Z').map (·.2)) kn (putK aB (.inl (g z.1.t.a)) (.bl true)) fl'->(fl'=.bS∨fl'=.int F)->Ext K H1 H'->new K H1 sj->(∀y∈Z++Z',Ef K H1 H' sj y.1 y.2)->(∀y∈Z',ZZ K H1 a b c g F y.1/\z.1.lo<=y.1.lo/\y.1.hi<=z.1.hi)->Z'.reverse.map (λy=>y.1.t)=z.1.t.kids->Q (.bl true) H')
include B in
theorem uW (F:bT K "takes" "Survey.takes" cO f fd)(SV:Qw K az)(jn:⋯ "is_leaf_told" 7 ["thing"] (Ig K))(iO:⋯ "is_inner_told" 6 ["thing"] (NO K))(fV:j6 P w K mg base az "may_have" 3 ["self","number","due"] [] (Sk K az))(dO:j6 P w K mg base az "is_leaf_sound" 3 ["self","leaf","low","high","notes"] [] (Iu K az))(fm:j6 P w K mg base az "has_floors" 1 ["self","many"] [] (DE K az))(c9:j6 P w K mg base az "is_inner_sound" 4 ["self","inner","low","high","notes"] [] (N5 K az))(dg:j6 P w K mg base az "await_children" 1 ["self","inner","low","high","trays"] [] (Iv K az)):(!0) 8 f fd ["self","room"] (Iw K az):=by
 exists 0,["self","room","number","low","high","trays","notes"]
 obtain⟨s,dx,rv,last,fresh,bF,kn,aB,fl,a,b,c,pl,H0,H1,v,g,F,Z,⟨d,u⟩,rfl,sv,x1,nw,rl,du,dk,hv,gr,kv,f3,Vw,l40,lk,lZ,bd,q⟩:=h;have jo:=SV.cl;have dk:ZZ K H1 a b c g F d:=dk;have hv:aL K H0 H1 (d.t.told g) v:=hv;have gr:0<=g d.t.a/\g d.t.a < fresh:=gr;have kv:c8 aB (.inl (g d.t.a))=none:=kv;have bd:0<=d.lo/\d.hi<=10 ^ 12:=bd;exists 2,cO,5,ao (iV (cM (cz (om fL) (jm (iq cF)) (jm dM) (aH _))) (aE (aR (fM (UR (wC dO jo (rm hr) cN (aa cF (aa gC (aa jA (aa C9 ah)))))) (iC (UR (wC fm jo (rm hr) cN (aa (tN B.len sJ) ah))))))) cD) (ao (iV (fj (vV (UR (wC c9 jo (rm hr) cN (aa cF (aa gC (aa jA (aa C9 ah)))))) (λ_=>rfl))) (aE (aR uP)) cD) (ao (j4 (UR (wC dg jo (rm hr) cN (aa cF (aa gC (aa jA (aa sJ ah))))))) (aE (aR uP)))),r5,J5,e5;exists 2,cO,4,ao (aaL (i:=6) nk rfl (Or.inl rfl) (ck [ "tray","note" ] [none,none]) rfl (kO (bU jv5)) 'j' 'v' (λ_ _ _ _=>(kO (Ms K cN))) (λ_ _ _ _=>(gn 1 nk)) 'v' (λ_ _ _ _=>cF)) J5,r4,J4,e4;exists 2,cO,3,ao (Hh hr.units (j7 (dH cN)) (iq cF) uP) J4,r3,J3,e3;exists 2,cO,2,ao (iV (fj (vV (UR (wC fV jo (rm hr) cN (aa (iq cF) (aa eB ah)))) (λ_=>rfl))) (aE (aR uP)) cD) J3,r2,J2,e2;exists 2,cO,1,ao (iW (Ug PySem.F.plainAttrs_list PySem.F.slot_list_pop PySem.F.type_list_pop LQ (j7 (dH cN))) (kX (dF (n:=4) rfl (aA (gn 2 nk) (aA (gn 3 nk) (aA (gn 4 nk) (aA (gn 5 nk) dN))))))) J2,r1,J1,e1;refine⟨_,(ao (iV (tw (sH (cM (cz (om fL) (jm (tN B.len (j7 (dH cN)))) (jm ei) (aH _))) (jc (fj (tw (sH (ef (ec jn hr (aa cF ah))) (jc (ef (ec iO hr (aa cF ah)))))))))) (aE (aR uP)) cD) J1),?_⟩
 ext
 have lD:((Z++[(d,u)]).map (·.2)).length=Z.length + 1:=Y2
 refine⟨_,_,_,sv.ins,SV.cl,SV.bF,_,Bq,_,rfl,_,aJ sv.bF,aK (by rw[lD];omega) ?_⟩;have Sn:=hv.ext x1;obtain⟨T,wd,us,rfl,hT⟩:∃T wd us,v=.ref T/\tupQ K H T=some (.str wd::.int (g d.t.a)::us):=by
   cases ht:d.t with
   | leaf A l h rows=>
     rw[ht]at Sn;obtain⟨T',ws,e,rF,hu⟩:=aL.tt.mp Sn;simp only[ai.cc,ai.nn,aL.ss,aL.ii,aL.ll]at hu;obtain⟨v1,r1',rfl,rfl,v2,r2',rfl,rfl,_⟩:=hu;exact⟨T',_,_,e,rF⟩
   | inner A l h aV aM kids=>
     rw[ht]at Sn;obtain⟨T',ws,e,rF,hu⟩:=aL.tt.mp Sn;simp only[ai.cc,ai.nn,aL.ss,aL.ii,aL.ll]at hu;obtain⟨v1,r1',rfl,rfl,v2,r2',rfl,rfl,_⟩:=hu;exact⟨T',_,_,e,rF⟩
 have k:∀G,Ext K H G->r1 { nx:=λx H'=>Q V.bS H',rt:=Q } [some (V.ref s),some (V.ref T),none,none,none,none,none] G:=by
   intro G xG;rw[e1]
   ext
   have So:=sv.ext xG;have x1G:=x1.trans xG;obtain⟨T0,E1,eu,ht0,nE,Ed,hE⟩:=(du (d,u) Y2).ext xG;have eD:(Z++[(d,u)]).map (·.2)=Z.map (·.2)++[u]:=by rw[bj];rfl
   have DF:=So.bF;rw[eD]at DF;have kD:=Kp.upd (K:=K) (o:=.lst (Z.map (·.2))) DF;have eL:(Z.map (·.2)++[u])[(Z.map (·.2)++[u]).length - 1]?=some u:=Y2
   have Ri:=Kp.YK kD DF (λ_ z=>by cases z) ht0;refine⟨_,_,_,So.ins,SV.cl,SV.bF,_,Bq,.inl ⟨_,aQ.of DF⟩,_,rfl,_,DF,_,eL,T0,eu,_,by rw[rh];exact Ri,rfl,_,_,rfl,_,_,rfl,_,_,rfl,_,_,rfl,rfl,?_⟩;rw[rh,e2];have sd:s≠bF:=λz=>by have e:=So.ins;rw[z,DF]at e;cases e
   have kd:kn≠bF:=λz=>by have e:=So.kn;rw[z,DF]at e;cases e
   have ks:kn≠s:=λz=>by have e:=So.kn;rw[z,So.ins]at e;cases e
   have duG:∀y∈Z,Ef K H1 (upd G bF (.lst (Z.map (·.2)))) bF y.1 y.2:=λy hy=>((du y (by simp[hy])).ext xG).kp kD DF (λ_ z=>by cases z) (.inl rfl);have hE2:=kD.keep _ _ hE Ed;have x2:Ext K H1 (upd G bF (.lst (Z.map (·.2)))):=⟨λr o e=>kD.keep r o (x1G.at e) (λz=>by rw[z,(nw bF Y2).1]at e;cases e),λr xs e m=>kD.mod r xs (x1G.mod r xs e m) m⟩
   have Z1:n8 K (upd G bF (.lst (Z.map (·.2)))) az s dx rv last fresh bF (Z.map (·.2)) kn aB fl:=⟨kD.keep _ _ So.ins sd,af,kD.keep _ _ So.kn kd⟩
   generalize upd G bF (.lst (Z.map (·.2)))=G2 at Ri duG hE2 x2 Z1 ⊢
   ext
   have Vb:∀{G':Hp},Ext K H1 G'->∃us',tupQ K G' T=some (.str wd::.int (g d.t.a)::us'):=λxx=>by
     obtain⟨T',ws,e,rF,hu⟩:∃T' ws,V.ref T=.ref T'/\tupQ K H1 T'=some ws/\True:=by
       cases ht:d.t with
       | leaf A l h rows=>rw[ht]at hv;obtain⟨T',ws,e,rF,_⟩:=aL.tt.mp hv;exact⟨T',ws,e,rF,trivial⟩
       | inner A l h aV aM kids=>rw[ht]at hv;obtain⟨T',ws,e,rF,_⟩:=aL.tt.mp hv;exact⟨T',ws,e,rF,trivial⟩
     cases e;have:=x1.tup rF;rw[hT]at this;cases this;exact⟨_,xx.tup rF⟩
   obtain⟨us2,Vc⟩:=Vb x2;refine⟨_,_,Z1.ins,Va,_,aZ Vc,_,tZ,s,dx,rv,last,fresh,bF,_,kn,aB,fl,g d.t.a,d.o,rfl,Z1,dk.o,gr.1,gr.2,kv,λG3 x3=>⟨true,rfl,aK Y1 ?_⟩⟩;have Vd:=Z1.ext x3;have ny:=x2.trans x3;have hE3:=x3.at hE2;have du3:∀y∈Z,Ef K H1 G3 bF y.1 y.2:=λy hy=>(duG y hy).ext x3;obtain⟨us3,Z2⟩:=Vb ny;rw[e3]
   ext
   refine⟨_,_,_,Vd.ins,SV.cl,SV.known,_,DC,_,aZ Z2,_,tZ,_,rfl,_,Cn.k (k:=.inl (g d.t.a)) Vd.kn (eI lk Y1),?_⟩;have kK:=Kp.gX (K:=K) (o:=.dK (putK aB (.inl (g d.t.a)) (.bl true))) Vd.kn;have Z3:=kK.keep _ _ hE3 (λz=>by have e:=Vd.kn;rw[<- z,hE3]at e;cases e);have du4:∀y∈Z,Ef K H1 _ bF y.1 y.2:=λy hy=>(du3 y hy).kp kK Vd.kn (λ_ z=>by cases z) (.inr λ_ z=>by cases z);have qL:Ext K H1 (upd G3 kn (.dK (putK aB (.inl (g d.t.a)) (.bl true)))):=⟨λr o e=>kK.keep r o (ny.at e) (λz=>by rw[z,(nw kn Y2).1]at e;cases e),λr xs e m=>kK.mod r xs (ny.mod r xs e m) m⟩
   have sv4:n8 K (upd G3 kn (.dK (putK aB (.inl (g d.t.a)) (.bl true)))) az s dx rv last fresh bF (Z.map (·.2)) kn (putK aB (.inl (g d.t.a)) (.bl true)) fl:=⟨kK.keep _ _ Vd.ins (Ne.symm ks),kK.keep _ _ Vd.bF (Ne.symm kd),af⟩
   generalize upd G3 kn (.dK (putK aB (.inl (g d.t.a)) (.bl true)))=G4 at Z3 du4 qL sv4 ⊢;rw[e4]
   ext
   have hY4:∀y∈d.Ys,G4 y.1=some (.lst (y.2.map (·.1))):=λy hy=>qL.at (dk.y y hy).1;have lY:d.Ys.length<=3:=by have:=dk.f;omega
   have lF:∀(l:List (Addr×List (V×Nt))),(∀y∈l,y.2.length<=5)->(l.flatMap (·.2)).length<=l.length * 5:=by
     intro l;induction l with
     | nil=>intro _;simp
     | cons y l ih=>
       intro h;have h1:=h y Y2;have h2:=ih λy hy=>h y (by simp[hy]);rw[List.flatMap_cons,ar,List.length_cons];omega
   have l15:=lF d.Ys λy hy=>(dk.y y hy).2.2.1;refine⟨⟨_,aQ.of Z3⟩,λD nD=>Qz Z3 hY4 nD (cw l15 X2) λ_ _ G5 hD5 x5=>?_⟩;have sI:=qL.trans x5;have Sm:=sv4.ext x5;have YH:=x5.at Z3;have du5:∀y∈Z,Ef K H1 G5 bF y.1 y.2:=λy hy=>(du4 y hy).ext x5;have nts:qB K G5 (d.Ys.flatMap (·.2)):=λq hq=>by
     obtain⟨y,hy,hq⟩:=List.mem_flatMap.mp hq;exact((dk.y y hy).2.1 q hq).ext sI
   have n40:∀q∈d.Ys.flatMap (·.2),40 * (d.f:Int) + 40<=q.2.n:=λq hq=>by
     obtain⟨y,hy,hq⟩:=List.mem_flatMap.mp hq;exact(dk.y y hy).2.2.2 q hq
   obtain⟨us5,YI⟩:=Vb sI;have Z4:=hv.ext sI;have YR:iM K G5 rv a b c pl:=let ⟨R,e,h⟩:=rl;⟨R,e,sI.tup h⟩;rw[e5]
   ext
   refine⟨_,aZ YI,_,pM,rfl,?_⟩;have YS:∀{Ga Gb:Hp},Ext K H1 Ga->Kp K s Ga Gb->Ext K H1 Gb:=λxa k=>⟨λr o e=>k.keep r o (xa.at e) (λz=>by rw[z,(nw s Y2).1]at e;cases e),λr xs e m=>k.mod r xs (xa.mod r xs e m) m⟩
   have ds5:bF≠s:=Ne.symm sd;cases ht:d.t with
   | leaf A l h rows=>
     have ok:=dk.ok;have df:=dk.f;rw[ht]at ok Z4;unfold bq at ok;obtain⟨f0,el,eh,_,rk⟩:=ok;have ew:wd=Str.ofString "leaf":=by
       obtain⟨T',ws,e,rF,hu⟩:=aL.tt.mp Z4;cases e;simp only[ai.cc,ai.nn,aL.ss,aL.ii,aL.ll]at hu;obtain⟨v1,r1',rfl,rfl,v2,r2',rfl,rfl,_⟩:=hu;rw[YI]at rF;exact V.str.inj (List.cons.inj (Option.some.inj rF)).1
     rw[f0]at n40 df;refine bw (by rw[ew]) ⟨_,_,Sm.ins,YL,s,dx,rv,last,fresh,bF,_,kn,_,fl,a,b,c,pl,.ref T,H0,g A,l,h,d.lo,d.hi,rows,D,d.Ys.flatMap (·.2),rfl,Sm,YR,Z4,⟨el,eh⟩,rk,hD5,nts,cw l15 X2,λq hq=>by have:=n40 q hq;omega,by omega,λG6 x6=>⟨true,rfl,bw rfl ?_⟩⟩;have Ve:=Sm.ext x6;refine⟨_,_,Ve.ins,YN,_,aJ (x6.at YH),s,dx,rv,last,fresh,bF,_,kn,_,fl,_,rfl,Ve,?_,ds5,ks,λG7 sv7 k7=>?_⟩
     . rcases Vw with e | e
       . exact .inl e
       . exact .inr (by rw[e,ab,<- df];rfl)
     . refine q bF [] _ G7 (by rw[List.append_nil];exact sv7) (.inr (by rw[ab,<- df];rfl)) (YS (sI.trans x6) k7) (nw bF Y2) (λy hy=>?_) (λy hy=>by cases hy) (by rw[show((d,u):Du×V).1.t=d.t from rfl,ht];rfl);rw[List.append_nil]at hy;exact((du5 y hy).ext x6).kp k7 Ve.ins (λ_ z=>by cases z) (.inr λ_ z=>by cases z)
   | inner A l h aV aM kids=>
     have ok:=dk.ok;have df:=dk.f;rw[ht]at ok Z4;unfold bq at ok;obtain⟨rfl,rfl,lp,lb,m,fe,ty,tk⟩:=ok;have hv1:aL K H0 H1 (inD (g A) aV (kids.map λt=>g t.a) aM) (.ref T):=by rw[ht]at hv;unfold inD;rw[dq];exact hv
     obtain⟨T',Pv,C,Y,L,e,QA,⟨nP,hP⟩,⟨nC,hC⟩,nY,hY,eL,hL⟩:=Sl hv1;cases e;have ew:wd=Str.ofString "inner":=by
       have:=sI.tup QA;rw[YI]at this;exact V.str.inj (List.cons.inj (Option.some.inj this)).1
     have Z5:=tk.len;refine aK (by rw[ew];exactλz=>s5 (V.str.inj z)) ⟨_,_,Sm.ins,YM,s,dx,rv,last,fresh,bF,_,kn,_,fl,a,b,c,pl,.ref T,H0,g A,d.lo,d.hi,aV,kids.map (λt=>g t.a),aM,(d.f:Int),D,d.Ys.flatMap (·.2),rfl,Sm,YR,hv1.ext sI,F9 tk,by rw[ab];exact Z5,by rw[ab,Z5];omega,by rw[ab];omega,ty,by omega,hD5,nts,cw l15 X2,n40,λG6 x6=>⟨true,rfl,aK Y1 ?_⟩⟩;have Ve:=Sm.ext x6;have vf:=sI.trans x6;refine⟨_,_,Ve.ins,YO,s,dx,rv,last,fresh,bF,_,kn,_,fl,T,g A,d.lo,d.hi,aV,kids.map (λt=>g t.a),Pv,C,Y,E1,d.Ys.map (λy=>V.ref y.1),rfl,Ve,vf.tup QA,vf.at hP,vf.at hC,by rw[ab];exact Z5,by omega,x6.at YH,by rw[ab];omega,by rw[ab];exact cw lZ Y1,λsj us G7 nd sv7 lu aw k7=>?_⟩;rw[ab]at lu;obtain⟨ks',LG⟩:∃ks':List Du,ks'=(kids.zip ((d.lo::aV).zip (aV++[d.hi]))).map λq=>⟨q.1,some (g q.1.a),q.2.1,q.2.2,m,d.Ys++[(Y,L)]⟩:=⟨_,rfl⟩
     have ZX:ks'.length=kids.length:=by
       rw[LG];simp only[ab,mN,List.length_cons,ar,List.length_nil];omega
     have tks:ks'.map (·.t)=kids:=by
       rw[LG,dq];exact pj (by simp only[mN,List.length_cons,ar,List.length_nil];omega)
     have gks:∀(j:Nat) k,ks'[j]?=some k->∃t l h,k=⟨t,some (g t.a),l,h,m,d.Ys++[(Y,L)]⟩/\kids[j]?=some t/\(d.lo::aV)[j]?=some l/\(aV++[d.hi])[j]?=some h:=by
       intro j k hk;rw[LG,ax]at hk;obtain⟨r,hr,rfl⟩:=bp.mp hk;rw[dr,dr]at hr;exact⟨_,_,_,rfl,hr.1,hr.2.1,hr.2.2⟩
     refine q sj (ks'.zip us).reverse fl G7 ?_ Vw (YS vf k7) (kI vf nd) (λy hy=>?_) (λy hy=>?_) ?_
     . rw[bj,Fn,rp X2];exact sv7
     . rcases de.mp hy with hy | hy
       . exact((((du5 y hy).ext x6).at nd.1)).kp k7 Ve.ins (λ_ z=>by cases z) (.inr λ_ z=>by cases z)
       . obtain⟨j,hj,ej⟩:=fw.mp (vk.mp hy);have hz:(ks'.zip us)[j]?=some y:=by rw[<- ej];exact a9 hj
         rw[dr]at hz;obtain⟨t,l,h,ek,g1,g2,g3⟩:=gks j _ hz.1;obtain⟨T7,E7,e7,t7,n7,ne7,h7⟩:=aw j y.2 (g t.a) l h hz.2 (by rw[ax,g1];rfl) g2 g3;rw[ek];exact⟨T7,E7,e7,t7,kI vf n7,ne7,by rw[bj];exact h7⟩
     . obtain⟨j,hj,ej⟩:=fw.mp (vk.mp hy);have hz:(ks'.zip us)[j]?=some y:=by rw[<- ej];exact a9 hj
       rw[dr]at hz;obtain⟨t,l,h,ek,g1,g2,g3⟩:=gks j _ hz.1;obtain⟨l',h',z1,z2,z3,z4,z5⟩:=qE tk j t g1;rw[g2]at z1;rw[g3]at z2;cases z1;cases z2;rw[ek];refine⟨⟨z3,.inr rfl,?_,λy' Po=>?_⟩,z4,z5⟩
       . show(d.Ys++[(Y,L)]).length + m=F;rw[ar];simp only[List.length_cons,List.length_nil];omega
       . rcases de.mp Po with Po | Po
         . obtain⟨y1,y2,y3,y4⟩:=dk.y y' Po;exact⟨y1,y2,y3,λq hq=>by have:=y4 q hq;show 40 * (m:Int) + 40<=_;omega⟩
         . rw[cq.mp Po];refine⟨hY,λq hq=>N1 (hL q hq),?_,λq hq=>?_⟩
           . have:=ty.l.1;rw[eL,ab]at this;exact this
           . have:=(ty.e q.2 (by rw[eL];exact cx hq)).n;show 40 * (m:Int) + 40<=_;omega
     . rw[xt,show((d,u):Du×V).1.t=d.t from rfl,ht];show _=kids;rw[<- tks,show(λy:Du×V=>y.1.t)=(λk:Du=>k.t) ∘ Prod.fst from rfl,<- dq,pj X2]
 cases ht:d.t with
 | leaf A l h rows=>
   have ok:=dk.ok;rw[ht]at ok Sn;unfold bq at ok;obtain⟨f0,rfl,rfl,_,rk⟩:=ok;obtain⟨T',ws,e,rF,hu⟩:=aL.tt.mp Sn;cases e;simp only[ai.cc,ai.nn,aL.ss,aL.ii,aL.ll]at hu;obtain⟨v1,r1',rfl,rfl,v2,r2',rfl,rfl,v3,r3',rfl,⟨Rw,ws,rfl,nR,hRw,al⟩,rfl⟩:=hu;refine .inr ⟨T,some (g A),_,some rows,H0,rfl,rF,⟨Rw,ws,rfl,nR,hRw,al⟩,λl e=>?_,λl e r hr=>?_,Qy rk bd.1 bd.2,λG xG=>⟨_,rfl,bw rfl (k G xG)⟩⟩
   . cases e;have:=rk.l.1;omega
   . cases e;have:=(rk.v r hr).l.2;omega
 | inner A l h aV aM kids=>
   have ok:=dk.ok;rw[ht]at ok Sn;unfold bq at ok;obtain⟨rfl,rfl,lp,lb,m,fe,ty,tk⟩:=ok;have hvI:aL K H0 H (inD (g A) aV (kids.map λt=>g t.a) aM) (.ref T):=by unfold inD;rw[dq];exact Sn
   obtain⟨T',ws,e,rF,hu⟩:=aL.tt.mp hvI;cases e;simp only[ai.cc,ai.nn,aL.ss,aL.ii,aL.ll]at hu;obtain⟨v1,r1',rfl,rfl,v2,r2',rfl,rfl,v3,r3',rfl,⟨Pv,ps,rfl,nP,hP,aP⟩,v4,r4',rfl,⟨C,cs,rfl,nC,hC,aC⟩,v5,r5',rfl,⟨Y,ys,rfl,nY,hY,aY⟩,rfl⟩:=hu;rw[aC.ints]at hC;have Z5:=tk.len;have e6:aM.map Nt.d=(aM.map Nt.rn).map RN.d:=by rw[dq];rfl
   rw[e6]at aY;refine .inl ⟨T,_,rfl,rF,false,rfl,aK Y1 ?_⟩;refine⟨T,some (g A),_,C,_,_,some aV,some (aM.map Nt.rn),H0,rfl,rF,hC,by rw[ab];omega,⟨Pv,ps,rfl,nP,hP,aP⟩,λl e=>by cases e;omega,⟨Y,ys,rfl,nY,hY,aY⟩,λl e=>?_,N9 ty X2 bd.1 bd.2,λG xG=>⟨_,rfl,aK Y1 (k G xG)⟩⟩;cases e;have:=ty.l.1;rw[ab];omega
theorem t8 {a c fr:Int}{t:Tr}{v:V}(h:aL K H0 H 's' v):∃(T R M W:Addr) (us:List V),v=.ref T/\tupQ K H T=some [.ref R,.int last,.ref M,.int fr,.ref W]/\tupQ K H R=some [.int a,.int b,.int c,.str pl]/\(new K H0 M/\H M=some (.lst (ms.map V.int)))/\new K H0 W/\H W=some (.lst us)/\ai K H0 H (t.pre.map (Tr.told g)) us:=by
 unfold jB at h;simp only[aL.tt,ai.cc,ai.nn,aL.ss,aL.ii,aL.ll]at h;obtain⟨T,us,rfl,hT,v1,r1,rfl,⟨R,ws,rfl,hR,u1,q1,rfl,rfl,u2,q2,rfl,rfl,u3,q3,rfl,rfl,u4,q4,rfl,rfl,rfl⟩,v2,r2,rfl,rfl,v3,r3,rfl,⟨M,ps,rfl,n1,h1,a1⟩,v4,r4,rfl,rfl,v5,r5,rfl,⟨W,ys,rfl,n3,h3,a3⟩,rfl⟩:=h;rw[a1.ints]at h1;exact⟨T,R,M,W,ys,rfl,hT,hR,⟨n1,h1⟩,n3,h3,a3⟩
theorem Iz {a c:Int}(r:F2 a b c pl):lH [some a,some b,some c] pl=true:=by
 have h1:=r.a;have h2:=r.b;have h3:=r.c;have h4:NP pl=true:=by
   rcases r.p with e | e <;> rw[e] <;> rfl
 simp only[lH,wO,h4,cp,Iy,U2];omega
inductive IA (K:Frag)(vs:List V)(H:Hp)(Q:VK)(E9:XK):Prop
 | mk (v H0 a b c pl f last ms fr g t:_) (_:vs=[v]) (_:aL K H0 H 's' v) (_:OL a b c pl f last ms fr g t) (_:∀H',Ext K H H'->Q (.bl true) H')
include B in
theorem DG (F:bT K "is_frame" "is_frame" w5 f fd)(i7:⋯ "is_rule" 3 ["thing"] (FY K))(bD:⋯ "is_whole_from" 2 ["thing","low"] vg)(gI:⋯ "are_rising_from" 3 ["thing","low"] (Sd K)):(!0) 4 f fd ["image"] (IA K):=by
 exists 0,["image","rule","last","marks","fresh","rooms"]
 obtain⟨v,H0,a,b,c,pl,f,last,ms,fr,g,t,rfl,hv,wo,q⟩:=h;obtain⟨T,R,M,W,us,rfl,hT,hR,⟨nM,hM⟩,nW,hW,al⟩:=t8 hv;refine⟨_,(ao 'f' (ao (iW bg (kX (dF (n:=5) rfl (aA (gn 1 nk) (aA (GN (i:=2) nk rfl (Or.inr rfl)) (aA (gn 3 nk) (aA (gn 4 nk) (aA (gn 5 nk) dN)))))))) (ao (iV (tw (sH (fj (ef (ec i7 hr (aa cF ah)))) (sH (fj (ef (ec bD hr (aa eB (aa ei ah))))) (jc (fj (ef (ec gI hr (aa gC (aa ei ah))))))))) (aE (aR uP)) cD) (aE (aR (FD (fM (jm (bL (Ko (cK rfl)) rfl B.all gO (aa (pP (ck [ "mark","last" ] [none,some 2]) rfl (kO (bU Qj)) 'j' 'v' (λ_ _ _ _=>(fS (mA gy) bg cF (aH _)))) ah))) (fM (ec bD hr (aa jA (aa ei ah))) (iC (B3 B.isinstance sJ (mG rfl B.list cA))))))))))),?_⟩;simp_arith [↓eqT hT,hT];have ru:=Iz wo.rl;have la:=wo.la;have ff:=wo.fr;have f1:fO 0 (some last)=true:=Hm X2;have f2:fO 1 (some fr)=true:=Hm X2;refine⟨_,.tup hT,true,rfl,aK Y1 (aK Y2 ⟨R,[some a,some b,some c],pl,rfl,hR,_,rfl,aK (by rw[ru];decide) ⟨some last,0,rfl,_,rfl,aK (by rw[f1];decide) ⟨.ref M,1,rfl,.inr ⟨M,ms,rfl,hM,by have:=wo.ml;omega,λG1 x1=>⟨_,rfl,aK ?_ ⟨⟨_,aQ.of (x1.at hM)⟩,λD nD=>?_⟩⟩⟩⟩⟩⟩)⟩
 . rw[kH wo.up,eP.mpr (λm hm=>Hm (wo.mr m hm).1)];decide
 . refine gH (L:=ms) (f:=V.int) (g:=λ_=>V.bl true) (aQ.of (x1.at hM)) nD (by have:=wo.ml;omega) (λm hm H' Q' xx qq=>?_) (λG2 hD x2=>?_)
   . ext
     rw[Hm (wo.mr m hm).2];exact qq _ Ext.refl
   rw[all_map]at hD;have jS:=x1.trans x2;refine⟨_,aQ.of hD,?_⟩;rw[all_true];exact bw rfl ⟨some fr,1,rfl,_,rfl,bw f2 ⟨_,.inl (.lst (jS.at hW)),true,rfl,q _ jS⟩⟩
theorem sq:∀ts:List Tr,ts.length<=(c6 ts).length
 | []=>ag _
 | t::ts=>by
   have:=sq ts;show ts.length + 1<=(t.pre++c6 ts).length;rw[ar,iH];simp only[List.length_cons];omega
inductive IB (K:Frag)(vs:List V)(H:Hp)(Q:VK)(E9:XK):Prop
 | mk (v H0 a b c pl f last ms fr g t:_) (_:vs=[v]) (_:aL K H0 H 's' v) (_:OL a b c pl f last ms fr g t) (_:∀H',Ext K H H'->Q .bS H')
include B in
theorem xQ (F:bT K "image_fault" "image_fault" qc f fd)(SV:Qw K az)(qF:⋯ "is_frame" 4 ["image"] (IA K))(xR:Maker P w K mg base "Survey" 1 ["self","rule","last","fresh"] [] az (DB K az))(iP:j6 P w K mg base az "takes" 8 ["self","room"] [] (Iw K az)):(!0) 9 f fd ["image"] (IB K):=by
 exists 0,["image","rule","last","marks","fresh","rooms","survey","place","room"]
 obtain⟨v,H0,a,b,c,pl,f,last,ms,fr,g,t,rfl,hv,wo,q⟩:=h;obtain⟨T,R,M,W,us,rfl,hT,hR,⟨nM,hM⟩,nW,hW,al⟩:=t8 hv;have jo:=SV.cl;refine⟨_,(ao (iV (fj (ef (ec qF hr (aa bg ah)))) (aE (aR (Ue qj ei))) cD) (ao (iW bg (kX (dF (n:=5) rfl (aA (gn 1 nk) (aA (gn 2 nk) (aA (gn 3 nk) (aA (gn 4 nk) (aA (gn 5 nk) dN)))))))) (ao (ss 6 nk (wF xR (rm hr) rfl (aa cF (aa eB (aa jA ah))))) (ao (mH PassesOwn.never rfl (ieM (MB rfl B.enumerate (am (aa sJ ah)))) (kX (dF (n:=2) rfl (aA (gn 7 nk) (aA (gn 8 nk) dN)))) (aE (iV (fj (vV (UR (wC iP jo (rm hr) UW (aa Dc ah))) (λ_=>rfl))) (aE (aR Qi)) cD))) (aE (aR (eif (vV (j7 (dH UW)) (λ_=>rfl)) (tN B.len sJ) jQ))))))),?_⟩
 ext
 refine⟨.ref T,H0,a,b,c,pl,f,last,ms,fr,g,t,rfl,hv,wo,λH1 xf=>⟨true,rfl,aK Y1 ⟨_,xf.tup hT,rfl,_,_,rfl,_,_,rfl,_,_,rfl,_,_,rfl,_,_,rfl,rfl,λx dx nx nd ne=>?_⟩⟩⟩;refine⟨x,dx,.ref R,last,fr,rfl,af,λbF kn T0 E0' H2 nw sv Qm hE0 n1 n2 n3 k2=>⟨rfl,?_⟩⟩;have jS:Ext K H1 H2:=by
   have x1:=Ext.made (K:=K) (o:=.ins az dx []) (o':=.own x) nx nd ne;exact⟨λq o e=>k2.keep q o (x1.same q o e) (ay e nx.1),λa xs e m=>k2.mod a xs (x1.mod a xs e m) m⟩
 have nw1:∀y∈[bF,kn,E0'],new K H1 y:=λy hy=>by
   obtain⟨h1,h2⟩:=nw y hy;exact(oW.mp (oW.mp h1).2).2
 have hv1:=hv.ext xf;have YT:=xf.at hW;have al1:=al.ext xf;have nd1:=wo.nd;rw[cG,dq]at nd1;have NZ:t.pre.length<=1000:=by
   have h1:=wo.ok.i0.1;rw[cG,ab]at h1;have h2:sz f<=1000:=by
     have:=wo.f3;have:f=0∨f=1∨f=2∨f=3:=X2
     rcases this with rfl | rfl | rfl | rfl <;> decide
   omega
 have VI:us.length=t.pre.length:=by rw[al.len,ab]
 ext
 refine⟨⟨_,aQ.of (jS.at YT)⟩,?_⟩;refine Aa (xs:=us) (λi σ G=>ZG λ(v7 v8:Option V) (bF kn:Addr) (aB:List (Key×V)) (fl:V) (Z:List (Du×V))=>Yg (rH σ [some (V.ref T),some (V.ref R),some (V.int last),some (V.ref M),some (V.int fr),some (V.ref W),some (V.ref x),v7,v8]) (n8 K G az x dx (.ref R) last fr bF (Z.map (·.2)) kn aB fl) (Ext K H1 G) (∀y∈[x,bF,kn],new K H1 y) (∀y∈Z,Ef K H1 G bF y.1 y.2) (∀y∈Z,ZZ K H1 a b c g f y.1/\0<=y.1.lo/\y.1.hi<=10 ^ 12) (c6 (Z.reverse.map λy=>y.1.t)=t.pre.drop i) ((∀n,c8 aB (.inl n)≠none->n∈(t.pre.take i).map (g ∘ Tr.a))) (fl=.bS∨fl=.int f) (aB.length<=i) (i<=t.pre.length)) ?_ ?_ ?_ ?_
 . refine⟨_,_,bF,kn,[],.bS,[(⟨t,none,0,10 ^ 12,f,[]⟩,.ref T0)],rfl,sv,jS,?_,?_,?_,?_,?_,.inl rfl,ag _,gs _⟩
   . intro y hy;rcases List.mem_cons.mp hy with rfl | hy
     . exact nx
     . exact nw1 y (by simp only[List.mem_cons,List.not_mem_nil,Jn]at hy ⊢;rcases hy with h | h <;> simp[h])
   . intro y hy;rw[cq.mp hy];exact⟨T0,E0',rfl,Qm,nw1 E0' Y2,Ne.symm n2,hE0⟩
   . intro y hy;rw[cq.mp hy];exact⟨⟨wo.ok,.inl rfl,Nat.zero_add _,λy hy=>by cases hy⟩,mx _,mx _⟩
   . show t.pre++[]=_;rw[List.append_nil];rfl
   . intro n hn;exact absurd rfl hn
 . rintro i σ G _ ⟨v7,v8,bF,kn,aB,fl,Z,rfl,sv,xG,_⟩;exact aQ.of (xG.at YT)
 . rintro i y σ G T' hy ⟨v7,v8,bF,kn,aB,fl,Z,rfl,sv,xG,nw,du,dk,hp,hk,Vw,lk,hi⟩ nT;have iI:i < t.pre.length:=by rw[<- VI];exact(bo.mp hy).1
   obtain⟨u,hu⟩:∃u,t.pre[i]?=some u:=⟨_,a9 iI⟩
   have ed:t.pre.drop i=u::t.pre.drop (i + 1):=by
     rw[List.drop_eq_getElem_cons iI];rw[a9 iI]at hu;rw[Option.some.inj hu]
   have et:t.pre.take (i + 1)=t.pre.take i++[u]:=by rw[List.take_add_one,hu];rfl
   have Ru:aL K H0 H1 (u.told g) y:=by
     obtain⟨d,hd,ha⟩:=al1.get hy;rw[ax,hu]at hd;rw[Option.some.inj hd];exact ha
   obtain⟨Z0,z,rfl⟩:∃Z0 z,Z=Z0++[z]:=by
     rcases mI Z with e | ⟨Z0,z,e⟩
     . rw[e,ed]at hp;cases hp
     . exact⟨Z0,z,by rw[e];simp⟩
   have rv:(Z0++[z]).reverse.map (λy=>y.1.t)=z.1.t::Z0.reverse.map (λy=>y.1.t):=by rw[tf];rfl
   rw[rv,ed]at hp;have Uv:z.1.t::(c6 z.1.t.kids++c6 (Z0.reverse.map λy=>y.1.t))=u::t.pre.drop (i + 1):=by
     rw[<- hp];show _=z.1.t.pre++_;rw[iH];rfl
   obtain⟨rfl,mY⟩:=List.cons.inj Uv;have lZ:Z0.length<=1000:=by
     have h1:=sq (Z0.reverse.map λy=>y.1.t);have h2:=congrArg List.length mY;rw[ab,fb]at h1;rw[ar,km]at h2;omega
   have ua:z.1.t.a∈t.adr:=by rw[cG];exact cx (bb hu)
   have fresh:c8 aB (.inl (g z.1.t.a))=none:=by
     cases e:c8 aB (.inl (g z.1.t.a)) with
     | none=>rfl
     | some v=>
       have h1:=hk _ (by rw[e];simp);have h2:(((t.pre.take i).map (g ∘ Tr.a))++[g z.1.t.a]).Nodup:=by
         have:((t.pre.take (i + 1)).map (g ∘ Tr.a)).Nodup:=by
           rw[List.map_take];exact List.Sublist.nodup (BM _ _) nd1
         rw[et,bj]at this;exact this
       rw[oy]at h2;exact absurd rfl (h2.2.2 _ h1 _ Y2)
   obtain⟨dz,b1,b2⟩:=dk z Y2;have xT:=bM (.tup [V.int i,y]) nT
   ext
   refine⟨_,_,(sv.ext xT).ins,YQ,x,dx,.ref R,last,fr,bF,kn,aB,fl,a,b,c,pl,H0,H1,y,g,f,Z0,z,rfl,sv.ext xT,xG.trans xT,nw,⟨R,rfl,xf.tup hR⟩,λq hq=>(du q hq).ext xT,dz,Ru,wo.gr _ ua,fresh,wo.f3,Vw,wo.la.1,by omega,lZ,⟨b1,b2⟩,λsj Z' fl' G' sv' hfl' x' nd' du' dk' ek=>⟨true,rfl,aK Y1 ?_⟩⟩;refine⟨_,_,sj,kn,_,fl',Z0++Z',rfl,sv',x',?_,du',?_,?_,?_,hfl',cw (jC _ _ _) X2,iI⟩
   . intro w hw;simp only[List.mem_cons,List.not_mem_nil,Jn]at hw;rcases hw with rfl | rfl | rfl
     . exact nw _ Y2
     . exact nd'
     . exact nw _ Y2
   . intro w hw;rcases de.mp hw with hw | hw
     . exact dk w (by simp[hw])
     . obtain⟨d1,d2,d3⟩:=dk' w hw;exact⟨d1,by omega,by omega⟩
   . rw[tf,bj,ek,rV];exact mY
   . intro n hn;rw[qX]at hn;rw[et,bj]
     by_cases e:n=g z.1.t.a
     . rw[e];simp
     . rw[He (λz=>e (Sum.inl.inj z))]at hn;exact js _ (hk n hn)
 . rintro σ G ⟨v7,v8,bF,kn,aB,fl,Z,rfl,sv,xG,nw,du,dk,hp,_⟩;rw[VI,List.drop_length]at hp;have eZ:Z=[]:=by
     have h1:=sq (Z.reverse.map λy=>y.1.t);rw[hp,ab,fb]at h1;exact px.mp (by simpa using h1)
   subst eZ
   ext
   exact⟨_,_,_,sv.ins,SV.cl,SV.bF,_,Bq,false,.inl ⟨_,aQ.of sv.bF,rfl⟩,aK Y1 (q _ (xf.trans xG))⟩
inductive Oa (K:Frag)(vs:List V)(H:Hp)(Q:VK)(E9:XK):Prop
 | mk (c us:_) (rows:List (Int×List lq)) (H0) (_:vs=[.ref c]) (_:H c=some (.lst us)) (_:ai K H0 H (rows.map fF) us) (_:rows.length<=1000) (_:∀D ws H',new K H D->H' D=some (.lst ws)->ai K H H' (rows.map fF) ws->Ext K H H'->Q (.ref D) H')
include B in
theorem DH (F:bT K "own_rows" "own_rows" wX f fd):(!0) 1 f fd ["rows"] (Oa K):=by
 exists 0,["rows"]
 obtain⟨c,us,rows,H0,rfl,hc,al,lr,q⟩:=h;refine⟨_,(aE (aR (pP (ck [ "key","versions" ] [none,none]) rfl (kO (bU cN)) (λ_ _ _ _=>(kX (iK K (n:=2) rfl (aA (gn 0 nk) (aA (gn 1 nk) dN))))) 'v' (λ_ _ _ _=>(RG (qm K (am (aa bg (aa (cX (gA K) rfl B.list cA (aa cF ah)) ah))))))))),?_⟩
 ext
 refine⟨⟨_,aQ.of hc⟩,λD nD=>Il hc al nD lr (λk B ys H' Q' hB qq=>?_) (λws H' hD a' xx=>q D ws H' nD hD a' xx)⟩;simp_arith [↓OG hB];exactλl nl T nT=>qq l T nl nT
def KQ (n:Int)(R:Addr):List (Str×V):=[(("number":Str),.int n),(("rows":Str),.ref R)]
def Br (n:Int)(Pv C Y:Addr):List (Str×V):=[(("number":Str),.int n),(("pivots":Str),.ref Pv),(("children":Str),.ref C),(("tray":Str),.ref Y)]
theorem QB :bC "rows" (.ref R) (bC "number" (.int n) [])=KQ n R:=by
 have k1:¬ (("number":Str)="rows"):=X9
 simp only[bC,k1,Kt,KQ]
theorem QC {Y:Addr}:bC "tray" (.ref Y) (bC "children" (.ref C) (bC "pivots" (.ref Pv) (bC "number" (.int n) [])))=Br n Pv C Y:=by
 have k1:¬ (("number":Str)="pivots"):=X9
 have k2:¬ (("number":Str)="children"):=X9
 have k3:¬ (("pivots":Str)="children"):=X9
 have k4:¬ (("number":Str)="tray"):=X9
 have k5:¬ (("pivots":Str)="tray"):=X9
 have k6:¬ (("children":Str)="tray"):=X9
 simp only[bC,k1,k2,k3,k4,k5,k6,Kt,Br]
theorem fH {f:Str}{y:V}{fs:List (Str×V)}{n:Nat}(h:fs.length<=n):(bC f y fs).length<=n + 1:=by
 have:=mX f y fs;omega
theorem jq {f:Str}{y:V}{fs:List (Str×V)}{n m:Nat}(h:fs.length<=n)(h2:n + 1 < m):(bC f y fs).length < m:=eI (fH h) h2
inductive qG (K:Frag)(C:Addr)(vs:List V)(H:Hp)(Q:VK)(E9:XK):Prop
 | mk (x dx n R:_) (_:vs=[.ref x,.int n,.ref R]) (_:H x=some (.ins C dx [])) (_:Q .bS (upd H x (.ins C dx (KQ n R))))
include B in
theorem t9 (F:bT K "__init__" "Leaf.__init__" mE f fd):(!0) 1 f fd ["self","number","rows"] (qG K aI):=by
 exists 0,["self","number","rows"]
 obtain⟨x,dx,n,R,rfl,hx,q⟩:=h;have aci:=B.cL;refine⟨_,(ao (uR (iL cN qM)) (aE (uR (iL cN Dd)))),?_⟩
 ext
 refine⟨_,_,_,hx,B.cL,B.nL.1,by decide,_,_,_,rfl,B.cL,B.nL.2,jq (ag 0) Y1,?_⟩;rw[iU,QB];exact q
inductive uH (K:Frag)(C:Addr)(vs:List V)(H:Hp)(Q:VK)(E9:XK):Prop
 | mk (x dx n Pv Ch Y:_) (_:vs=[.ref x,.int n,.ref Pv,.ref Ch,.ref Y]) (_:H x=some (.ins C dx [])) (_:Q .bS (upd H x (.ins C dx (Br n Pv Ch Y))))
include B in
theorem sr (F:bT K "__init__" "Inner.__init__" j8 f fd):(!0) 1 f fd ["self","number","pivots","children","tray"] (uH K av):=by
 exists 0,["self","number","pivots","children","tray"]
 obtain⟨x,dx,n,Pv,C,Y,rfl,hx,q⟩:=h;have Z6:=B.cI;refine⟨_,(ao (uR (iL cN qM)) (ao (uR (iL cN Dd)) (ao (uR (iL cN Qj)) (aE (uR (iL cN ZJ)))))),?_⟩
 ext
 refine⟨_,_,_,hx,B.cI,B.nI.1,by decide,_,_,_,rfl,B.cI,B.nI.2.1,jq (ag 0) Y1,_,_,_,rfl,B.cI,B.nI.2.2.1,jq (fH (ag 0)) Y1,_,_,_,rfl,B.cI,B.nI.2.2.2,jq (fH (fH (ag 0))) Y1,?_⟩;simp only[iU];rw[QC];exact q
mutual
def iS (K:Frag)(cL cI:Addr)(H:Hp)(g:Addr->Int):Tr->Addr->Prop
 | .leaf a _ _ rows,o=>∃dx R us H0,H o=some (.ins cL dx (KQ (g a) R))/\H R=some (.lst us)/\ai K H0 H (rows.map fF) us
 | .inner a _ _ aV aM ks,o=>∃dx Pv C Y us os H0,H o=some (.ins cI dx (Br (g a) Pv C Y))/\H Pv=some (.lst (aV.map V.int))/\H C=some (.lst (os.map V.ref))/\H Y=some (.lst us)/\ai K H0 H (aM.map Nt.d) us/\cy K cL cI H g ks os
def cy (K:Frag)(cL cI:Addr)(H:Hp)(g:Addr->Int):List Tr->List Addr->Prop
 | [],os=>os=[]
 | t::ts,os=>∃o r,os=o::r/\iS K cL cI H g t o/\cy K cL cI H g ts r
end
mutual
theorem iS.ext {cL cI:Addr}{H H':Hp}{g:Addr->Int}(x:Ext K H H'):∀{t:Tr}{o:Addr},iS K cL cI H g t o->iS K cL cI H' g t o
 | .leaf a l h rows,o,p=>by
   unfold iS at p ⊢;obtain⟨dx,R,us,H0,h1,h2,h3⟩:=p;exact⟨dx,R,us,H0,x.at h1,x.at h2,h3.ext x⟩
 | .inner a l h aV aM ks,o,p=>by
   unfold iS at p ⊢;obtain⟨dx,Pv,C,Y,us,os,H0,h1,h2,h3,h4,h5,h6⟩:=p;exact⟨dx,Pv,C,Y,us,os,H0,x.at h1,x.at h2,x.at h3,x.at h4,h5.ext x,cy.ext x h6⟩
theorem cy.ext {cL cI:Addr}{H H':Hp}{g:Addr->Int}(x:Ext K H H'):∀{ts:List Tr}{os:List Addr},cy K cL cI H g ts os->cy K cL cI H' g ts os
 | [],os,p=>by unfold cy at p ⊢;exact p
 | t::ts,os,p=>by
   unfold cy at p ⊢;obtain⟨o,r,e,h1,h2⟩:=p;exact⟨o,r,e,iS.ext x h1,cy.ext x h2⟩
end
mutual
theorem iS.gX {cL cI A:Addr}{H:Hp}{g:Addr->Int}{u0 u:HO}(hA:H A=some u0)(ou:Sh u0)(nl:∀dx n R,u0≠.ins cL dx (KQ n R))(ni:∀dx n P C Y,u0≠.ins cI dx (Br n P C Y)):∀{t:Tr}{o:Addr},iS K cL cI H g t o->iS K cL cI (upd H A u) g t o
 | .leaf a l h rows,o,p=>by
   unfold iS at p ⊢;obtain⟨dx,R,us,H0,h1,h2,h3⟩:=p;exact⟨dx,R,us,H0,by rw[au (λz=>by rw[z,hA]at h1;exact nl _ _ _ (Option.some.inj h1))];exact h1,kq hA ou h2,h3.gX hA ou⟩
 | .inner a l h aV aM ks,o,p=>by
   unfold iS at p ⊢;obtain⟨dx,Pv,C,Y,us,os,H0,h1,h2,h3,h4,h5,h6⟩:=p;exact⟨dx,Pv,C,Y,us,os,H0,by rw[au (λz=>by rw[z,hA]at h1;exact ni _ _ _ _ _ (Option.some.inj h1))];exact h1,kq hA ou h2,kq hA ou h3,kq hA ou h4,h5.gX hA ou,cy.gX hA ou nl ni h6⟩
theorem cy.gX {cL cI A:Addr}{H:Hp}{g:Addr->Int}{u0 u:HO}(hA:H A=some u0)(ou:Sh u0)(nl:∀dx n R,u0≠.ins cL dx (KQ n R))(ni:∀dx n P C Y,u0≠.ins cI dx (Br n P C Y)):∀{ts:List Tr}{os:List Addr},cy K cL cI H g ts os->cy K cL cI (upd H A u) g ts os
 | [],os,p=>by unfold cy at p ⊢;exact p
 | t::ts,os,p=>by
   unfold cy at p ⊢;obtain⟨o,r,e,h1,h2⟩:=p;exact⟨o,r,e,iS.gX hA ou nl ni h1,cy.gX hA ou nl ni h2⟩
end
theorem iS.tW {cL cI:Addr}{u:HO}(hA:H A=some (.dK aB)){t:Tr}{o:Addr}(h:iS K cL cI H g t o):iS K cL cI (upd H A u) g t o:=h.gX hA Si (λ_ _ _ z=>by cases z) (λ_ _ _ _ _ z=>by cases z)
theorem cy.len {cL cI:Addr}{H:Hp}{g:Addr->Int}:∀{ts:List Tr}{os:List Addr},cy K cL cI H g ts os->os.length=ts.length
 | [],os,p=>by unfold cy at p;rw[p];rfl
 | t::ts,os,p=>by
   unfold cy at p;obtain⟨o,r,rfl,h1,h2⟩:=p;rw[List.length_cons,List.length_cons,cy.len h2]
theorem vo {l h:Int}{rows:List (Int×List lq)}{v:V}(p:aL K H0 H ((Tr.leaf A l h rows).told g) v):ZD λ(T Rw:Addr) (us:List V)=>Al4 (v=.ref T) (tupQ K H T=some [.str "leaf",.int (g A),.ref Rw]) (H Rw=some (.lst us)) (ai K H0 H (rows.map fF) us):=by
 obtain⟨T,ws,e,hT,hu⟩:=aL.tt.mp p;simp only[ai.cc,ai.nn,aL.ss,aL.ii,aL.ll]at hu;obtain⟨v1,r1',rfl,rfl,v2,r2',rfl,rfl,v3,r3',rfl,⟨Rw,us,rfl,nR,hRw,al⟩,rfl⟩:=hu;exact⟨T,Rw,us,e,hT,hRw,al⟩
theorem su {l h:Int}{aM:List Nt}{ks:List Tr}{v:V}(p:aL K H0 H ((Tr.inner A l h aV aM ks).told g) v):Ex5 λ(T Pv C Y:Addr) (us:List V)=>Ye (v=.ref T) (tupQ K H T=some [.str "inner",.int (g A),.ref Pv,.ref C,.ref Y]) (H Pv=some (.lst (aV.map V.int))) (H C=some (.lst (ks.map λt=>V.int (g t.a)))) (H Y=some (.lst us)) (ai K H0 H (aM.map Nt.d) us):=by
 obtain⟨T,ws,e,hT,hu⟩:=aL.tt.mp p;simp only[ai.cc,ai.nn,aL.ss,aL.ii,aL.ll]at hu;obtain⟨v1,r1',rfl,rfl,v2,r2',rfl,rfl,v3,r3',rfl,⟨Pv,ps,rfl,nP,hP,aP⟩,v4,r4',rfl,⟨C,cs,rfl,nC,hC,aC⟩,v5,r5',rfl,⟨Y,ys,rfl,nY,hY,aY⟩,rfl⟩:=hu;have e1:(ks.map λt=>PyData.int (g t.a))=(ks.map λt=>g t.a).map PyData.int:=by rw[dq];rfl
 rw[e1]at aC;rw[aC.ints,dq]at hC;rw[aP.ints]at hP;exact⟨T,Pv,C,Y,ys,e,hT,hP,hC,hY,aY⟩
inductive xU (K:Frag)(cL cI:Addr)(vs:List V)(H:Hp)(Q:VK)(E9:XK):Prop
 | mk (t:Tr) (H0 v m aB) (os:List Addr) (a b c f lo hi) (g:Addr->Int) (_:vs=[v,.ref m]) (_:aL K H0 H (t.told g) v) (_:bq a b c t f lo hi) (_:H m=some (.dK aB)) (_:cy K cL cI H g t.kids os) (_:(∀q∈t.kids.zip os,c8 aB (.inl (g q.1.a))=some (.ref q.2))) (_:∀o H',iS K cL cI H' g t o->Ext K H H'->Q (.ref o) H')
include B in
theorem Bs (F:bT K "room_made" "room_made" jJ f fd)(g7:⋯ "own_rows" 1 ["rows"] (Oa K))(ud:Maker P w K mg base "Leaf" 1 ["self","number","rows"] [] aI (qG K aI))(Bt:Maker P w K mg base "Inner" 1 ["self","number","pivots","children","tray"] [] av (uH K av)):(!0) 3 f fd ["told","made"] (xU K aI av):=by
 exists 0,["told","made","word","number","rows","pivots","numbers","tray"]
 obtain⟨t,H0,v,m,aB,os,a,b,c,f,lo,hi,g,rfl,hv,ok,hm,ho,eo,q⟩:=h;exists 2,jJ,2,aE (aR (wF Bt (rm hr) rfl (aa gC (aa (cX cg rfl B.list cA (aa sJ ah)) (aa (pP (ck [ "child","made" ] [none,some 1]) rfl (kO (bU UW)) 'j' 'v' (λ_ _ _ _=>(B0 (gJ hr.units qM cN (λ_ _=>rfl))))) (aa (cX cg rfl B.list cA (aa Qi ah)) ah)))))),r2,J2,e2;exists 2,jJ,1,ao (iW bg (kX (dF (n:=5) rfl (aA (gn 2 nk) (aA (gn 3 nk) (aA (gn 5 nk) (aA (gn 6 nk) (aA (gn 7 nk) dN)))))))) J2,r1,J1,e1;refine⟨_,(ao (iV (cM (cz (om fL) (jm (iq bg)) (jm dM) (aH _))) (ao (iW bg (kX (dF (n:=3) rfl (aA (gn 2 nk) (aA (gn 3 nk) (aA (gn 4 nk) dN)))))) (aE (aR (wF ud (rm hr) rfl (aa gC (aa (ec g7 hr (aa jA ah)) ah)))))) cD) J1),?_⟩;cases t with
 | leaf A' l h rows=>
   obtain⟨T,Rw,us,rfl,hT,hRw,al⟩:=vo hv;simp_arith [↓eqT hT,hT,pM];unfold bq at ok;refine⟨Rw,us,rows,H0,rfl,hRw,al,by have:=ok.2.2.2.2.l;omega,λD ws H1 nD hD aD x1 x dx nx Sq ne=>⟨x,dx,g A',D,rfl,af,rfl,?_⟩⟩;rw[iU];have w2:=Ext.made (K:=K) (o:=.ins aI dx (KQ (g A') D)) (o':=.own x) nx Sq ne;refine q x _ ?_ (x1.trans w2);unfold iS;exact⟨dx,D,ws,H,af,w2.at hD,aD.ext w2⟩
 | inner A' l h aV aM ks=>
   obtain⟨T,Pv,C,Y,us,rfl,hT,hP,hC,hY,aY⟩:=su hv;simp_arith [↓eqT hT,hT,pM];refine aK s5 ?_;rw[e1];simp_arith [hT];rw[e2]
   ext
   have lk:=ho.len;have l4:ks.length<=4:=by
     unfold bq at ok;obtain⟨_,_,l3,_,g',_,_,ok⟩:=ok;have:=bz.len ok;omega
   refine⟨_,aJ hP,λl1 m1=>⟨⟨_,aQ.of ((Ext.new m1).at hC)⟩,λD nD=>?_⟩⟩;have y1:=bM (.lst (aV.map V.int)) m1;have ez:ks.map (λt=>V.int (g t.a))=(ks.zip os).map λq=>V.int (g q.1.a):=by
     rw[show(λq:Tr×Addr=>V.int (g q.1.a))=(λt:Tr=>V.int (g t.a)) ∘ Prod.fst from rfl,<- dq,pj (by rw[lk];exact ag _)]
   have eo2:(ks.zip os).map (λq=>V.ref q.2)=os.map V.ref:=by
     rw[show(λq:Tr×Addr=>V.ref q.2)=V.ref ∘ Prod.snd from rfl,<- dq,rp (by rw[lk];exact ag _)]
   rw[ez]at hC;refine gH (L:=ks.zip os) (f:=λq=>V.int (g q.1.a)) (g:=λq=>V.ref q.2) (aQ.of (y1.at hC)) nD (by rw[mN];omega) (λq hq H' Q' xx qq=>?_) (λH1 hD x1=>?_)
   . ext
     exact⟨_,(eo q hq) ▸ sU.k (k:=.inl (g q.1.a)) ((y1.trans xx).at hm),qq _ Ext.refl⟩
   rw[eo2]at hD;have x2:=y1.trans x1;refine⟨_,aJ (x2.at hY),λl2 m2 x dx nx Sq ne=>⟨x,dx,g A',l1,D,l2,rfl,af,rfl,?_⟩⟩;rw[iU];have y3:=bM (.lst us) m2;have w2:=Ext.made (K:=K) (o:=.ins av dx (Br (g A') l1 D l2)) (o':=.own x) nx Sq ne;have z2:=y3.trans w2;refine q x _ ?_ (x2.trans z2);unfold iS;exact⟨dx,l1,D,l2,us,os,H0,af,(x1.trans z2).at af,z2.at hD,w2.at af,aY.ext (x2.trans z2),ho.ext (x2.trans z2)⟩
mutual
theorem o9:∀(t:Tr) (j:Nat) (u:Tr),t.pre[j]?=some u->∀v∈u.kids,v∈t.pre.drop (j + 1)
 | .leaf a l h rows,j,u,hu,v,hv=>by
   unfold Tr.pre at hu;cases j with
   | zero=>cases hu;cases hv
   | succ j=>cases hu
 | .inner a l h aV aM ks,j,u,hu,v,hv=>by
   unfold Tr.pre at hu ⊢;cases j with
   | zero=>cases hu;exact xK hv
   | succ j=>exact xV ks j u hu v hv
theorem xV:∀(ts:List Tr) (j:Nat) (u:Tr),(c6 ts)[j]?=some u->∀v∈u.kids,v∈(c6 ts).drop (j + 1)
 | [],j,u,hu,v,hv=>by unfold c6 at hu;cases hu
 | t::ts,j,u,hu,v,hv=>by
   unfold c6 at hu ⊢;rw[List.drop_append]
   by_cases c:j < t.pre.length
   . rw[gN c]at hu;exact js _ (o9 t j u hu v hv)
   . rw[i5 X2]at hu;have:=xV ts (j - t.pre.length) u hu v hv;rw[show j - t.pre.length + 1=j + 1 - t.pre.length from by omega]at this;exact cf _ this
end
theorem IC {u:Tr}{v:V}(p:aL K H0 H (u.told g) v):∃T wd us,v=.ref T/\tupQ K H T=some (.str wd::.int (g u.a)::us):=by
 cases u with
 | leaf A l h rows=>
   obtain⟨T,Rw,us,rfl,hT,_⟩:=vo p;exact⟨T,_,_,rfl,hT⟩
 | inner A l h aV aM ks=>
   obtain⟨T,Pv,C,Y,us,rfl,hT,_⟩:=su p;exact⟨T,_,_,rfl,hT⟩
theorem ID {cL cI:Addr}{H:Hp}{g:Addr->Int}{R:Tr->Addr->Prop}:∀(ks:List Tr),(∀v∈ks,∃o,R v o/\iS K cL cI H g v o)->∃os,cy K cL cI H g ks os/\∀q∈ks.zip os,R q.1 q.2
 | [],_=>⟨[],by unfold cy;rfl,λq h=>by cases h⟩
 | k::ks,h=>by
   obtain⟨o,h1,h2⟩:=h k Y2;obtain⟨os,h3,h4⟩:=ID ks λv hv=>h v (by simp[hv]);refine⟨o::os,by unfold cy;exact⟨o,os,rfl,h2,h3⟩,λq hq=>?_⟩;rw[List.zip_cons_cons]at hq;rcases List.mem_cons.mp hq with rfl | hq
   . exact h1
   . exact h4 q hq
inductive Ss (K:Frag)(cL cI:Addr)(vs:List V)(H:Hp)(Q:VK)(E9:XK):Prop
 | mk (t:Tr) (W us H0 a b c f lo hi) (g:Addr->Int) (_:vs=[.ref W]) (_:H W=some (.lst us)) (_:ai K H0 H (t.pre.map (Tr.told g)) us) (_:bq a b c t f lo hi) (_:(t.pre.map (g ∘ Tr.a)).Nodup) (_:t.pre.length<=1000) (_:∀o H',iS K cL cI H' g t o->Ext K H H'->Q (.ref o) H')
include B in
theorem KR (F:bT K "top_of" "top_of" rO f fd)(oq:⋯ "room_made" 3 ["told","made"] (xU K aI av)):(!0) 4 f fd ["roll"] (Ss K aI av):=by
 exists 0,["roll","made","told"]
 obtain⟨t,W,us,H0,a,b,c,f,lo,hi,g,rfl,hW,al,ok,nd,ln,q⟩:=h;exists 2,rO,2,aE (aR (B0 (gJ hr.units qM (jm (iq (iq bg))) (λ_ _=>rfl)))),r2,J2,e2;exists 2,rO,1,ao (mH PassesOwn.never rfl (Xv rfl B.reversed (aa bg ah)) (gn 2 nk) (aE (Hh hr.units cF (iq eB) (ec oq hr (aa eB (aa cF ah)))))) J2,r1,J1,e1;refine⟨_,(ao (ss 1 nk MF) J1),?_⟩
 ext
 intro m nm;have x0:=bM (.dK []) nm;have VI:us.length=t.pre.length:=by rw[al.len,ab]
 rw[e1]
 ext
 refine⟨us,aQ.of (x0.at hW),C4 (xs:=us) (λi σ G=>FI λ(v2:Option V) (aB:List (Key×V))=>VC (rH σ [some (V.ref W),some (V.ref m),v2]) (G m=some (.dK aB)) (aB.length<=i) ((∀u∈t.pre.drop (us.length - i),∃o,c8 aB (.inl (g u.a))=some (.ref o)/\iS K aI av G g u o)) (Ext K H G)) ⟨_,[],rfl,af,ag _,λu hu=>?_,x0⟩ ?_ ?_ ?_⟩
 . rw[VI,Nat.sub_zero,List.drop_length]at hu;cases hu
 . rintro i σ G _ ⟨v2,aB,rfl,_,_,_,xG⟩;exact aQ.of (xG.at hW)
 . rintro i x σ G hi hx ⟨v2,aB,rfl,hm,lk,hk,xG⟩;obtain⟨j,hj⟩:∃j,j=us.length - 1 - i:=⟨_,rfl⟩
   have ej:us.length - i=j + 1:=X2
   have ej':us.length - (i + 1)=j:=X2
   rw[<- hj]at hx;rw[ej]at hk;obtain⟨d,hd,ha⟩:=al.get hx;rw[ax]at hd;obtain⟨u,hu,rfl⟩:=bp.mp hd;have hju:j < t.pre.length:=(bo.mp hu).1;obtain⟨f',jx,eY,oku⟩:=ok.pre u (bb hu);obtain⟨os,ho,hz⟩:=ID (R:=λv o=>c8 aB (.inl (g v.a))=some (.ref o)) u.kids λv hv=>hk v (o9 t j u hu v hv);obtain⟨T,wd,ws,rfl,hT⟩:=IC ha
   ext
   refine⟨u,H0,.ref T,m,aB,os,a,b,c,f',jx,eY,g,rfl,ha.ext xG,oku,hm,ho,hz,λo G1 hO x1=>⟨_,aZ ((xG.trans x1).tup hT),_,tZ,_,Cn.k (k:=.inl (g u.a)) (x1.at hm) (eI (show aB.length<=1000 by omega) Y1),_,_,rfl,af,cw (jC _ _ _) X2,λu' Ea=>?_,?_⟩⟩
   . rw[ej',List.drop_eq_getElem_cons hju]at Ea;rw[a9 hju]at hu;rw[Option.some.inj hu]at Ea;rw[qX];rcases List.mem_cons.mp Ea with rfl | Ea
     . exact⟨o,by rw[Hk rfl],hO.tW (x1.at hm)⟩
     . obtain⟨o',h1,h2⟩:=hk u' Ea;refine⟨o',?_,(h2.ext x1).tW (x1.at hm)⟩;rw[He,h1];intro z;have hn:(t.pre.drop j).map (g ∘ Tr.a)=g u.a::(t.pre.drop (j + 1)).map (g ∘ Tr.a):=by
         rw[List.drop_eq_getElem_cons hju,List.map_cons,Option.some.inj hu];rfl
       have n2:((t.pre.drop j).map (g ∘ Tr.a)).Nodup:=by
         rw[Bn];exact List.Sublist.nodup (List.drop_sublist _ _) nd
       rw[hn,List.nodup_cons]at n2;exact n2.1 (Sum.inl.inj z ▸ cx (f:=g ∘ Tr.a) Ea)
   . exact⟨λr o' e=>by rw[au (ay e nm.1)];exact(xG.trans x1).at e,λr xs e md=>by rw[au (λz=>by rw[z,nm.2]at md;cases md)];exact(xG.trans x1).mod r xs e md⟩
 . rintro σ G ⟨v2,aB,rfl,hm,lk,hk,xG⟩;rw[e2]
   ext
   have lp:0 < t.pre.length:=by rw[iH];exact Nat.zero_lt_succ _
   obtain⟨x0',hx0⟩:∃x,us[0]?=some x:=⟨_,a9 X2⟩
   obtain⟨d,hd,ha⟩:=al.get hx0;rw[iH]at hd;cases hd;obtain⟨T,wd,ws,rfl,hT⟩:=IC ha;obtain⟨o,h1,h2⟩:=hk t (by rw[ub,List.drop_zero];exact Dz t);exact⟨_,aJ (xG.at hW),_,(dI (i:=0) hx0:_),T,rfl,_,aZ (xG.tup hT),_,tZ,_,h1 ▸ sU.k (k:=.inl (g t.a)) hm,q o G h2 xG⟩
structure Vf (K:Frag)(c:Addr):Prop where
 cl:uN K c
 rule:bK K c "rule"
 kept:bK K c "kept"
 fresh:bK K c "fresh"
 top:bK K c "top"
 trail:bK K c "trail"
structure Vg (K:Frag)(c:Addr):Prop where
 cl:uN K c
 rule:bK K c "rule"
 last:bK K c "last"
 xW:bK K c "house"
 runs:bK K c "runs"
def KS (v:V)(k:Addr)(n:Int)(o t:Addr):List (Str×V):=[(("rule":Str),v),(("kept":Str),.ref k),(("fresh":Str),.int n),(("top":Str),.ref o),(("trail":Str),.ref t)]
def vp (v:V)(n:Int)(h:Addr):List (Str×V):=[(("rule":Str),v),(("last":Str),.int n),(("house":Str),.ref h),(("runs":Str),.int 0)]
theorem QD {v:V}{k o t:Addr}:bC "trail" (.ref t) (bC "top" (.ref o) (bC "fresh" (.int n) (bC "kept" (.ref k) (bC "rule" v []))))=KS v k n o t:=by
 have k1:¬ (("rule":Str)="kept"):=X9
 have k2:¬ (("rule":Str)="fresh"):=X9
 have k3:¬ (("kept":Str)="fresh"):=X9
 have k4:¬ (("rule":Str)="top"):=X9
 have k5:¬ (("kept":Str)="top"):=X9
 have k6:¬ (("fresh":Str)="top"):=X9
 have k7:¬ (("rule":Str)="trail"):=X9
 have k8:¬ (("kept":Str)="trail"):=X9
 have k9:¬ (("fresh":Str)="trail"):=X9
 have k0:¬ (("top":Str)="trail"):=X9
 simp only[bC,k1,k2,k3,k4,k5,k6,k7,k8,k9,k0,Kt,KS]
theorem QE {v:V}:bC "runs" (.int 0) (bC "house" (.ref h) (bC "last" (.int 0) (bC "rule" v [])))=vp v 0 h:=by
 have k1:¬ (("rule":Str)="last"):=X9
 have k2:¬ (("rule":Str)="house"):=X9
 have k3:¬ (("last":Str)="house"):=X9
 have k4:¬ (("rule":Str)="runs"):=X9
 have k5:¬ (("last":Str)="runs"):=X9
 have k6:¬ (("house":Str)="runs"):=X9
 simp only[bC,k1,k2,k3,k4,k5,k6,Kt,vp]
theorem Ob {v:V}{m:Int}:bC "last" (.int m) (vp v n h)=vp v m h:=by
 have k1:¬ (("rule":Str)="last"):=X9
 simp only[bC,vp,k1,Kt,QP]
theorem KU {v:V}{h':Addr}:bC "house" (.ref h') (vp v n h)=vp v n h':=by
 have k2:¬ (("rule":Str)="house"):=X9
 have k3:¬ (("last":Str)="house"):=X9
 simp only[bC,vp,k2,k3,Kt,QP]
inductive ow (K:Frag)(C:Addr)(vs:List V)(H:Hp)(Q:VK)(E9:XK):Prop
 | mk (x dx v k n o:_) (_:vs=[.ref x,v,.ref k,.int n,.ref o]) (_:H x=some (.ins C dx [])) (_:∀t H',H' x=some (.ins C dx (KS v k n o t))->Kp K x H H'->Q .bS H')
include B in
theorem sy (F:bT K "__init__" "House.__init__" j9 f fd)(HC:Vf K aX):(!0) 1 f fd ["self","rule","kept","fresh","top"] (ow K aX):=by
 exists 0,["self","rule","kept","fresh","top"]
 obtain⟨x,dx,v,k,n,o,rfl,hx,q⟩:=h;refine⟨_,(ao (uR (iL cN qM)) (ao (uR (iL cN Dd)) (ao (uR (iL cN Qj)) (ao (uR (iL cN ZJ)) (aE (uR (iL cN (jm (jG ah))))))))),?_⟩
 ext
 refine⟨_,_,_,hx,HC.cl,HC.rule,by decide,_,_,_,rfl,HC.cl,HC.kept,jq (ag 0) Y1,_,_,_,rfl,HC.cl,HC.fresh,jq (fH (ag 0)) Y1,_,_,_,rfl,HC.cl,HC.top,jq (fH (fH (ag 0))) Y1,λt nt=>?_⟩;simp only[iU]at nt ⊢;obtain⟨tx,nt⟩:=oW.1 nt;refine⟨_,_,_,by rw[au (Ne.symm tx),af],HC.cl,HC.trail,jq (fH (fH (fH (ag 0)))) Y1,?_⟩;rw[QD];refine q t _ af ⟨λr o e n=>?_,λb ys e m=>?_⟩
 . rw[au n,au (ay e nt.1),au n];exact e
 . have bx:b≠x:=λz=>by rw[z,hx]at e;cases e
   have bt:b≠t:=λz=>by rw[z,nt.2]at m;cases m
   rw[au bx,au bt,au bx];exact e
theorem Kp.made {x:Addr}(nx:new K H x)(Sq:new K H dx)(ne:dx≠x)(kp:Kp K x (upd (upd H dx (.own x)) x (.ins C dx [])) H'):Ext K H H':=by
 have x1:=Ext.made (K:=K) (o:=.ins C dx []) (o':=.own x) nx Sq ne;exact⟨λq o e=>kp.keep q o (x1.same q o e) (ay e nx.1),λa xs e m=>kp.mod a xs (x1.mod a xs e m) m⟩
def xX (K:Frag):Sp:=λvs H Q _=>∃v,vs=[v]/\∀h H',Ext K H H'->Q (.ref h) H'
include B in
theorem Bu (F:bT K "new_house" "new_house" uC f fd)(pe:Maker P w K mg base "House" 1 ["self","rule","kept","fresh","top"] [] aX (ow K aX))(ud:Maker P w K mg base "Leaf" 1 ["self","number","rows"] [] aI (qG K aI)):(!0) 3 f fd ["rule"] (xX K):=by
 exists 0,["rule"]
 obtain⟨v,rfl,q⟩:=h;refine⟨_,(aE (aR (wF pe (rm hr) rfl (aa bg (aa (jG ah) (aa ei (aa (wF ud (rm hr) rfl (aa ei (aa (jG ah) ah))) ah))))))),?_⟩
 ext
 intro k nk r nr lf dl nlf ndl nel;refine⟨lf,dl,_,_,rfl,af,rfl,?_⟩;rw[iU];have x2:=(bM (.lst []) nk).trans ((bM (.lst []) nr).trans (Ext.made (K:=K) (o:=.ins aI dl (KQ 0 r)) (o':=.own lf) nlf ndl nel));intro h dh nh ndh neh;exact⟨h,dh,v,k,1,lf,rfl,af,λt H3 zh kp=>⟨rfl,q h H3 (x2.trans (Kp.made nh ndh neh kp))⟩⟩
inductive uI (K:Frag)(C:Addr)(vs:List V)(H:Hp)(Q:VK)(E9:XK):Prop
 | mk (x dx R a b c pl:_) (_:vs=[.ref x,.ref R]) (_:H x=some (.ins C dx [])) (_:tupQ K H R=some [.int a,.int b,.int c,.str pl]) (_:F2 a b c pl) (_:∀h H',H' x=some (.ins C dx (vp (.ref R) 0 h))->Kp K x H H'->Q .bS H')
include B in
theorem sA (F:bT K "__init__" "Store.__init__" kg f fd)(SC:Vg K aS)(i7:⋯ "is_rule" 3 ["thing"] (FY K))(oE:⋯ "new_house" 3 ["rule"] (xX K)):(!0) 4 f fd ["self","rule"] (uI K aS):=by
 exists 0,["self","rule"]
 obtain⟨x,dx,R,a,b,c,pl,rfl,hx,hR,ro,q⟩:=h;refine⟨_,(ao (iV (fj (ef (ec i7 hr (aa cF ah)))) (aE AR) cD) (ao (uR (iL cN qM)) (ao (uR (iL cN (jm ei))) (ao (uR (iL cN (jm (ec oE hr (aa cF ah))))) (aE (uR (iL cN (jm ei)))))))),?_⟩
 ext
 refine⟨R,[some a,some b,some c],pl,rfl,hR,_,rfl,aK (by rw[Iz ro];decide) ⟨_,_,_,hx,SC.cl,SC.rule,by decide,_,_,_,rfl,SC.cl,SC.last,jq (ag 0) Y1,?_⟩⟩;rw[iU];refine⟨_,rfl,λh H2 x2=>?_⟩;refine⟨_,_,_,x2.same _ _ (af (a:=x)),SC.cl,SC.xW,jq (fH (ag 0)) Y1,_,_,_,rfl,SC.cl,SC.runs,jq (fH (fH (ag 0))) Y1,?_⟩;rw[iU,QE];refine q h _ af ⟨λy o e n=>?_,λb ys e m=>?_⟩
 . rw[au n];exact x2.same _ _ (by rw[au n];exact e)
 . have bx:b≠x:=λz=>by rw[z,hx]at e;cases e
   rw[au bx];exact x2.mod b ys (by rw[au bx];exact e) m
inductive Lc (K:Frag)(cS cH cL cI:Addr)(H:Hp)(x:Addr)(a b c:Int)(pl:Str)(last:Int)(ms:List Int)(fr:Int)(g:Addr->Int)(t:Tr):Prop
 | mk (dx h dh R k o tr:Addr) (ins:H x=some (.ins cS dx (vp (.ref R) last h))) (hs:H h=some (.ins cH dh (KS (.ref R) k fr o tr))) (rl:tupQ K H R=some [.int a,.int b,.int c,.str pl]) (kp:H k=some (.lst (ms.map V.int))) (top:iS K cL cI H g t o):Lc K cS cH cL cI H x a b c pl last ms fr g t
theorem Lc.ext {cS cH cL cI x:Addr}{a c fr:Int}{t:Tr}(s:Lc K cS cH cL cI H x a b c pl last ms fr g t)(y:Ext K H H'):Lc K cS cH cL cI H' x a b c pl last ms fr g t:=by
 obtain⟨dx,h,dh,R,k,o,tr,h1,h2,h3,h4,h5⟩:=s;exact⟨dx,h,dh,R,k,o,tr,y.at h1,y.at h2,y.tup h3,y.at h4,h5.ext y⟩
theorem Oc {v:V}:(vp v n h).length < 1000:=by show(4:Nat) < 1000;decide
inductive Bv (K:Frag)(cS cH cL cI:Addr)(vs:List V)(H:Hp)(Q:VK)(E9:XK):Prop
 | mk (v H0 a b c pl f last ms fr g t:_) (_:vs=[v]) (_:aL K H0 H 's' v) (_:OL a b c pl f last ms fr g t) (_:∀x H',Lc K cS cH cL cI H' x a b c pl last ms fr g t->Ext K H H'->Q (.ref x) H')
include B in
theorem yU (F:bT K "store_from" "store_from" gF f fd)(SC:Vg K aS)(Bw:Maker P w K mg base "Store" 4 ["self","rule"] [] aS (uI K aS))(pe:Maker P w K mg base "House" 1 ["self","rule","kept","fresh","top"] [] aX (ow K aX))(xY:⋯ "top_of" 4 ["roll"] (Ss K aI av)):(!0) 6 f fd ["image"] (Bv K aS aX aI av):=by
 exists 0,["image","rule","last","marks","fresh","rooms","store"]
 obtain⟨v,H0,a,b,c,pl,f,last,ms,fr,g,t,rfl,hv,wo,q⟩:=h;obtain⟨T,R,M,W,us,rfl,hT,hR,⟨nM,hM⟩,nW,hW,al⟩:=t8 hv;exists 2,gF,3,ao (uR (iL UW (jm (wF pe (rm hr) rfl (aa cF (aa (cX cg rfl B.list cA (aa gC ah)) (aa jA (aa (ec xY hr (aa sJ ah)) ah)))))))) (aE (aR C9)),r3,J3,e3;exists 2,gF,2,ao (uR (iL UW Dd)) J3,r2,J2,e2;exists 2,gF,1,ao (ss 6 nk (wF Bw (rm hr) rfl (aa cF ah))) J2,r1,J1,e1;refine⟨_,(ao (iW bg (kX (dF (n:=5) rfl (aA (gn 1 nk) (aA (gn 2 nk) (aA (gn 3 nk) (aA (gn 4 nk) (aA (gn 5 nk) dN)))))))) J1),?_⟩;simp_arith [hT];rw[e1]
 ext
 intro x dx nx Sq nex;have x0:=Ext.made (K:=K) (o:=.ins aS dx []) (o':=.own x) nx Sq nex;refine⟨x,dx,R,a,b,c,pl,rfl,af,x0.tup hR,wo.rl,λh1 H1 hx1 Zu=>⟨rfl,?_⟩⟩;have x1:=Kp.made nx Sq nex Zu;rw[e2]
 ext
 refine⟨_,_,_,hx1,SC.cl,SC.last,Oc,?_⟩;rw[Ob];have x2:Ext K H (upd H1 x (.ins aS dx (vp (.ref R) last h1))):=⟨λr o e=>by rw[au (ay e nx.1)];exact x1.at e,λr xs e m=>by rw[au (λz=>by rw[z,nx.2]at m;cases m)];exact x1.mod r xs e m⟩
 have hx2:(upd H1 x (.ins aS dx (vp (.ref R) last h1))) x=some (.ins aS dx (vp (.ref R) last h1)):=af;generalize upd H1 x (.ins aS dx (vp (.ref R) last h1))=G at x2 hx2 ⊢;rw[e3]
 ext
 refine⟨_,aJ (x2.at hM),λk nk=>?_⟩;have x3:=x2.trans (bM (.lst (ms.map V.int)) nk);have nd:=wo.nd;rw[cG,dq]at nd;have ln:t.pre.length<=1000:=by
   have h1:=wo.ok.i0.1;rw[cG,ab]at h1;have h2:sz f<=1000:=by
     have:=wo.f3;have:f=0∨f=1∨f=2∨f=3:=X2
     rcases this with rfl | rfl | rfl | rfl <;> decide
   omega
 refine⟨t,W,us,H0,a,b,c,f,0,10 ^ 12,g,rfl,x3.at hW,al.ext x3,wo.ok,nd,ln,λo G1 hO xo h dh nh ndh neh=>⟨h,dh,.ref R,k,fr,o,rfl,af,λtr G2 hh Xa=>⟨rfl,?_⟩⟩⟩;have y1:=(bM (.lst (ms.map V.int)) nk).trans (xo.trans (Kp.made nh ndh neh Xa));have y2:=xo.trans (Kp.made nh ndh neh Xa);refine⟨_,_,_,y1.at hx2,SC.cl,SC.xW,Oc,?_⟩;rw[KU];have Z7:=y1.at hx2;have nhx:h≠x:=λz=>by rw[z,Z7]at hh;cases hh
 have x5:=x3.trans y2;refine q x _ ⟨dx,h,dh,R,k,o,tr,af,by rw[au nhx];exact hh,Dw Z7 NW (x5.tup hR),kq Z7 NW (y2.at af),(hO.ext (Kp.made nh ndh neh Xa)).gX Z7 NW (λ_ _ _ z=>by cases z) (λ_ _ _ _ _ z=>?_)⟩ ⟨λr o e=>by rw[au (ay e nx.1)];exact x5.at e,λr xs e m=>by rw[au (λz=>by rw[z,nx.2]at m;cases m)];exact x5.mod r xs e m⟩;have e:=(HO.ins.inj z).2.2;unfold vp Br at e;exact absurd (show("rule":Str)="number" from congrArg Prod.fst (List.cons.inj e).1) X9
include B in
theorem DJ (F:bT K "store_of" "store_of" w9 f fd)(jX:⋯ "image_fault" 9 ["image"] (IB K))(lO:⋯ "store_from" 6 ["image"] (Bv K aS aX aI av)):(!0) 10 f fd ["image"] (Bv K aS aX aI av):=by
 exists 0,["image","fault"]
 obtain⟨v,H0,a,b,c,pl,f,last,ms,fr,g,t,rfl,hv,wo,q⟩:=h;refine⟨_,(ao (ss 1 nk (ec jX hr (aa bg ah))) (ao (iV (cM (cz (om AE) qM (jm jQ) (aH _))) (aE AR) cD) (aE (aR (ec lO hr (aa bg ah)))))),?_⟩
 ext
 refine⟨v,H0,a,b,c,pl,f,last,ms,fr,g,t,rfl,hv,wo,λH1 x1=>?_⟩
 ext
 exact⟨v,H0,a,b,c,pl,f,last,ms,fr,g,t,rfl,hv.ext x1,wo,λx H2 so x2=>q x H2 so (x1.trans x2)⟩
def bR.act:bR->Option Int->Option Int
 | .gone,_=>none
 | .is n,_=>some n
 | .plus n,o=>o.map (· + n)
def DK (t m:bR):Option Int->Option Int
 | none=>m.act none
 | some v=>t.act (some v)
inductive An (K:Frag)(vs:List V)(H:Hp)(Q:VK)(E9:XK):Prop
 | mk (r:_) (h:bR) (o:Option Int) (_:vs=[.ref r,on o]) (_:tupQ K H r=some h.v) (_:(o=none->∀n,h≠.plus n)) (_:Q (on (h.act o)) H)
theorem lP:eU ["half","value","word","number"] ["half","value"] (aN nB):=Yk
include B in
theorem Bx (F:bT K "half_acts" "half_acts" nB f fd):(!0) 1 f fd ["half","value"] (An K):=by
 refine F.okB lP λeW A outer s H vs Q E hr hm h=>?_;obtain⟨r,h,o,rfl,qN,ho,q⟩:=h;refine⟨_,(ao (iV (cM (cz (om (Mh hr.units)) cN (jm (jb rfl B.Yn B.HW)) (aH _))) (aE (aR jQ)) cD) (ao (iW bg (kX (dF (n:=2) rfl (aA (gn 2 lP.nd) (aA (gn 3 lP.nd) dN))))) (aE (aR (eif (cM (cz (om fL) Dd (jm dM) (aH _))) (cB (mA bu) cF gC) gC))))),?_⟩
 ext
 refine⟨h.hd,bR.HY qN,bR.gone.hd,bR.HY (h:=.gone) (hm.tup B.kG),h.shaped,bR.shaped .gone,?_⟩;rw[bR.Di];cases h with
 | gone=>exact q
 | is n=>
   refine aK (λz=>by cases z) ⟨_,qN,rfl,_,_,rfl,_,_,rfl,rfl,?_⟩
   ext
   exact aK s3 q
 | plus n=>
   refine aK (λz=>by cases z) ⟨_,qN,rfl,_,_,rfl,_,_,rfl,rfl,?_⟩
   ext
   cases o with
   | none=>exact absurd rfl (ho rfl n)
   | some v=>exact⟨v,rfl,q⟩
inductive By (K:Frag)(vs:List V)(H:Hp)(Q:VK)(E9:XK):Prop
 | mk (v:_) (t m:bR) (o:Option Int) (_:vs=[v,on o]) (_:xB K H v t m) (_:(∀n,m≠.plus n)) (_:Q (on (DK t m o)) H)
include B in
theorem QF (F:bT K "does" "does" Nz f fd)(oH:⋯ "half_acts" 1 ["half","value"] (An K)):(!0) 2 f fd ["action","value"] (By K):=by
 exists 0,["action","value","there","none"]
 obtain⟨v,t,m,o,rfl,⟨a,r,u,rfl,h1,h2,h3⟩,hm,q⟩:=h;refine⟨_,(ao (iW bg (kX (dF (n:=2) rfl (aA (gn 2 nk) (aA (gn 3 nk) dN))))) (aE (aR (ec oH hr (aa (eif (cM (cz (om mV) qM (jm jQ) (aH _))) gC eB) (aa cF ah)))))),?_⟩;simp_arith [h1];cases o with
 | none=>exact bw rfl ⟨u,m,none,rfl,h3,λ_=>hm,q⟩
 | some i=>exact aK (λz=>by cases z) ⟨r,t,some i,rfl,h2,λz=>(by cases z),q⟩
def cut:Option Int->Int->Bool
 | none,_=>true
 | some m,n=>decide (n<=m)
def BB (at':Option Int)(v:Option Int)(p:lq):Option Int:=if cut at' p.1=true then p.2 else v
def valAt (ps:List lq)(at':Option Int):Option Int:=ps.foldl (BB at') none
inductive IE (K:Frag)(vs:List V)(H:Hp)(Q:VK)(E9:XK):Prop
 | mk (c us H0:_) (ps:List lq) (o:Option Int) (_:vs=[.ref c,on o]) (_:H c=some (.lst us)) (_:ai K H0 H (ps.map fN) us) (_:Q (on (valAt ps o)) H)
include B in
theorem DM (F:bT K "value_of" "value_of" wV f fd):(!0) 1 f fd ["versions","at"] (IE K):=by
 exists 0,["versions","at","value","number","other"]
 obtain⟨c,us,H0,ps,o,rfl,hc,al,q⟩:=h;obtain⟨L,e1,e2,hL⟩:=ai.zip (d:=fN) al;refine⟨_,(ao (ss 2 nk jQ) (ao (mH PassesOwn.never rfl (kO (bU cN)) (kX (dF (n:=2) rfl (aA (gn 3 nk) (aA (gn 4 nk) dN)))) (aE (iV (tw (sH (cM (cz (om mV) qM (jm jQ) (aH _))) (jc (cM (cz (om (mA gy)) Qj qM (aH _)))))) (aE (ss 2 nk jA)) cD))) (aE (aR eB)))),?_⟩
 ext
 refine⟨⟨_,aQ.of hc⟩,fX (xs:=us) (λi σ H'=>FI λ(v3 v4:Option V)=>OH (rH σ [some (V.ref c),some (on o),some (on (valAt (ps.take i) o)),v3,v4]) (H'=H)) ⟨_,_,rfl,rfl⟩ ?_ ?_ ?_⟩
 . rintro i σ H' _ ⟨v3,v4,rfl,rfl⟩;exact aQ.of hc
 . rintro i x σ H' hx ⟨v3,v4,rfl,rfl⟩;rw[e1,ax]at hx;obtain⟨p,hp,rfl⟩:=bp.mp hx;obtain⟨a,ea,ha⟩:=rT (hL p (bb hp));rw[ea];have et:valAt (ps.take (i + 1)) o=BB o (valAt (ps.take i) o) p.2:=by
     unfold valAt;rw[e2,List.take_add_one,ax,hp,oP];rfl
   simp_arith [ha];rw[et];cases o with
   | none=>exact bw rfl ⟨_,_,rfl,trivial⟩
   | some m=>
     refine aK (λz=>by cases z) ⟨m,rfl,jP (λc=>?_) (λc=>?_)⟩
     . rw[show BB (some m) (valAt (List.take i ps) (some m)) p.2=p.2.2 from Hk (Hm c)];exact⟨_,_,rfl,trivial⟩
     . rw[show BB (some m) (valAt (List.take i ps) (some m)) p.2=valAt (List.take i ps) (some m) from He (λz=>c (QR z))];exact⟨_,_,rfl,trivial⟩
 . rintro σ H' ⟨v3,v4,rfl,rfl⟩
   ext
   rw[show us.length=ps.length from by rw[al.len,ab],dv];exact q
theorem kJ {c:Addr}{L:List (V×α)}{p:α->Bool}{f:V×α->V}{tt:TT}{rest:St}(hk:H c=some (.lst (L.map (·.1))))(nD:new K H D)(hz:L.length<=1000)
   (tst:∀q∈L,∀H' (N:Bool->Hp->Prop),Ext K H H'->N (p q.2) H'->tt (some q.1::rest) H' N)
   (elt:∀q∈L,∀H' (N:VK),Ext K H H'->N (f q) H'->te (some q.1::rest) H' N)
   (fin:∀H',H' D=some (.lst ((L.filter λq=>p q.2).map f))->Ext K H H'->Q H'):b7 (ug K c) (bI 0) tt te D Q (v0::rest) 'l':=by
 refine fQ (xs:=L.map (·.1)) (λi acc σ' H'=>∃(v0:Option V),σ'=v0::rest/\H' D=some (.lst acc)/\acc=((L.take i).filter λq=>p q.2).map f/\Kp K D 'l' H') ⟨_,rfl,af,rfl,Kp.refl⟩ ?_ ?_ ?_
 . rintro i acc σ' H' _ ⟨v0,rfl,hD,rfl,k⟩;exact aQ.of ((k.ext nD).at hk)
 . rintro i x acc σ' H' hx ⟨v0,rfl,hD,rfl,k⟩;rw[ax]at hx;obtain⟨q,ek,rfl⟩:=bp.mp hx;have hlen:(((L.take i).filter λq=>p q.2).map f).length<=1000:=by
     rw[ab];refine cw (i3 _ _) ?_;rw[eC];omega
   have et:(L.take (i + 1)).filter (λq=>p q.2)=(L.take i).filter (λq=>p q.2)++[q].filter (λq=>p q.2):=by rw[List.take_add_one,ek,List.filter_append];rfl
   unfold bI;refine tst q (bb ek) H' _ (k.ext nD) ?_;cases e:p q.2 with
   | true=>
     rw[ui (p:=λq:V×α=>p q.2) e,List.filter_nil]at et;refine bw rfl (elt q (bb ek) H' _ (k.ext nD) ?_);refine⟨hD,eI hlen Y1,_,rfl,af,by rw[et,bj];rfl,k.trans (Kp.upd hD)⟩
   | false=>
     rw[uj (p:=λq:V×α=>p q.2) (by rw[e];decide),List.filter_nil,List.append_nil]at et;exact aK Y1 ⟨_,rfl,hD,by rw[et],k⟩
 . rintro acc σ' H' ⟨v0,rfl,hD,rfl,k⟩;rw[ab,dv]at hD;exact fin H' hD (k.ext nD)
inductive Vh (K:Frag)(vs:List V)(H:Hp)(Q:VK)(E9:XK):Prop
 | mk (c:_) (L:List (V×Nt)) (o:Option Int) (_:vs=[.ref c,on o]) (_:H c=some (.lst (L.map (·.1)))) (_:qB K H L) (_:L.length<=100) (_:∀D H',H' D=some (.lst ((L.filter λq=>cut o q.2.n).map (·.1)))->Ext K H H'->Q (.ref D) H')
include B in
theorem Od (F:bT K "up_to" "up_to" HV f fd):(!0) 1 f fd ["tray","at"] (Vh K):=by
 exists 0,["tray","at"]
 obtain⟨c,L,o,rfl,hc,nt,ll,q⟩:=h;refine⟨_,(aE (aR (pP (ck [ "note","at" ] [none,some 1]) rfl (kO (bU cN)) 'j' (λ_ _ _ _=>(yv (tw (sH (cM (cz (om mV) qM (jm jQ) (aH _))) (jc (cM (cz (om (mA gy)) (jm (Ku K bg)) qM (aH _)))))))) (λ_ _ _ _=>bg)))),?_⟩
 ext
 refine⟨⟨_,aQ.of hc⟩,λD nD=>kJ (f:=(·.1)) (p:=λe=>cut o e.n) hc nD X2 (λq hq H' N xx n=>?_) (λ_ _ _ _ _ h=>h) (λH' hD x1=>q D H' hD x1)⟩;obtain⟨a,u,ea,ha⟩:=(nt q hq).ext xx;rw[ea]
 ext
 cases o with
 | none=>exact bw rfl n
 | some m=>exact aK (λz=>by cases z) ⟨_,aZ ha,_,pM,_,rfl,m,rfl,n⟩
inductive BC (K:Frag)(vs:List V)(H:Hp)(Q:VK)(E9:XK):Prop
 | mk (c:_) (L:List (V×Nt)) (k) (_:vs=[.ref c,.int k]) (_:H c=some (.lst (L.map (·.1)))) (_:qB K H L) (_:L.length<=100) (_:∀D H',new K H D->H' D=some (.lst ((L.filter λq=>q.2.has k).map (·.1)))->Ext K H H'->Q (.ref D) H')
include B in
theorem DN (F:bT K "touching" "touching" wW f fd)(i6:⋯ "has_key" 1 ["note","key"] (F6 K)):(!0) 2 f fd ["tray","key"] (BC K):=by
 exists 0,["tray","key"]
 obtain⟨c,L,k,rfl,hc,nt,ll,q⟩:=h;refine⟨_,(aE (aR (pP (ck [ "note","key" ] [none,some 1]) rfl (kO (bU cN)) 'j' (λ_ _ _ _=>(yv (ef (ec i6 hr (aa bg (aa cF ah)))))) (λ_ _ _ _=>bg)))),?_⟩
 ext
 refine⟨⟨_,aQ.of hc⟩,λD nD=>kJ (f:=(·.1)) (p:=λe=>e.has k) hc nD X2 (λq hq H' N xx n=>?_) (λ_ _ _ _ _ h=>h) (λH' hD x1=>q D H' nD hD x1)⟩
 ext
 exact⟨q.1,q.2,k,rfl,(nt q hq).ext xx,_,rfl,n⟩
def Su (K:Frag)(H:Hp)(v:V)(e:Nt):Prop:=∃a u,v=.ref a/\tupQ K H a=some [.int e.n,.int e.lo,.int e.hi,u]/\xB K H u e.t e.m
theorem Su.ext {v:V}{e:Nt}(h:Su K H v e)(x:Ext K H H'):Su K H' v e:=by
 obtain⟨a,u,e,h,g⟩:=h;exact⟨a,u,e,x.tup h,g.ext x⟩
theorem Su.a {v:V}{e:Nt}(h:Su K H v e):Qv K H v e:=by
 obtain⟨a,u,e,h,_⟩:=h;exact⟨a,u,e,h⟩
theorem ya {v:V}{e:Nt}(h:aL K H0 H e.d v):Su K H v e:=by
 obtain⟨a,b,u1,u2,rfl,h1,h2,h3,h4⟩:=NG h;rcases Ba h3 with ⟨z,_⟩ | ⟨x,r,z,rfl,hr⟩
 . cases z
 rcases Ba h4 with ⟨z',_⟩ | ⟨y,r',z',rfl,qN⟩
 . cases z'
 cases z;cases z';exact⟨a,_,rfl,h1,b,r,r',rfl,h2,hr,qN⟩
def oJ (aM:List Nt)(k:Int)(o v:Option Int):Option Int:=((aM.filter λe=>cut o e.n).filter λe=>e.has k).foldl (λv e=>DK e.t e.m v) v
inductive Oe (K:Frag)(vs:List V)(H:Hp)(Q:VK)(E9:XK):Prop
 | mk (c:_) (L:List (V×Nt)) (k) (v o:Option Int) (_:vs=[.ref c,.int k,on v,on o]) (_:H c=some (.lst (L.map (·.1)))) (_:(∀q∈L,Su K H q.1 q.2/\∀n,q.2.m≠.plus n)) (_:L.length<=100) (_:∀H',Ext K H H'->Q (on (oJ (L.map (·.2)) k o v)) H')
include B in
theorem QG (F:bT K "seen" "seen" NB f fd)(pq:⋯ "up_to" 1 ["tray","at"] (Vh K))(g8:⋯ "touching" 2 ["tray","key"] (BC K))(Gd:⋯ "does" 2 ["action","value"] (By K)):(!0) 3 f fd ["tray","key","value","at"] (Oe K):=by
 exists 0,["tray","key","value","at","note"]
 obtain⟨c,L,k,v,o,rfl,hc,nt,ll,q⟩:=h;refine⟨_,(ao (mH PassesOwn.never rfl (kO (bU (jm (ec g8 hr (aa (ec pq hr (aa bg (aa gC ah))) (aa cF ah)))))) (gn 4 nk) (aE (ss 2 nk (ec Gd hr (aa (iq jA) (aa eB ah)))))) (aE (aR eB))),?_⟩
 ext
 refine⟨c,L,o,rfl,hc,λq hq=>(nt q hq).1.a,ll,λD1 H1 qv x1=>?_⟩;refine⟨D1,L.filter λq=>cut o q.2.n,k,rfl,qv,λq hq=>((nt q (ib.mp hq).1).1.ext x1).a,cw (i3 _ _) ll,λD2 H2 _ lG x2=>?_⟩;obtain⟨M,hM⟩:∃M,M=(L.filter λq=>cut o q.2.n).filter λq=>q.2.has k:=⟨_,rfl⟩
 have eM:oJ (L.map (·.2)) k o v=(M.map (·.2)).foldl (λv e=>DK e.t e.m v) v:=by
   unfold oJ;rw[hM,tj,tj];rfl
 have q:=q _ (x1.trans x2);rw[eM]at q;have nM:∀r∈M,Su K H2 r.1 r.2/\∀n,r.2.m≠.plus n:=λr hr=>by
   rw[hM]at hr;have:=nt r (ib.mp (ib.mp hr).1).1;exact⟨this.1.ext (x1.trans x2),this.2⟩
 rw[<- hM]at lG;refine⟨D2,rfl,⟨_,aQ.of lG⟩,fX (xs:=M.map (·.1)) (λi σ H'=>Yd λ(v4:Option V)=>OH (rH σ [some (V.ref c),some (V.int k),some (on (((M.take i).map (·.2)).foldl (λv e=>DK e.t e.m v) v)),some (on o),v4]) (H'=H2)) ⟨_,rfl,rfl⟩ ?_ ?_ ?_⟩
 . rintro i σ H' _ ⟨v4,rfl,rfl⟩;exact aQ.of lG
 . rintro i x σ H' hx ⟨v4,rfl,rfl⟩;rw[ax]at hx;obtain⟨r,qN,rfl⟩:=bp.mp hx;obtain⟨⟨a,u,ea,ha,hu⟩,hm⟩:=nM r (bb qN);rw[ea]
   ext
   refine⟨_,aZ ha,u,rfl,u,r.2.t,r.2.m,_,rfl,hu,hm,some (V.ref a),?_,rfl⟩;rw[List.take_add_one,qN,fi,bj,oP];rfl
 . rintro σ H' ⟨v4,rfl,rfl⟩
   ext
   rw[ab,dv];exact q
theorem BE {Y:Addr}:List.lookup ("pivots":Str) (Br n Pv C Y)=some (.ref Pv):=by
 have k1:(("pivots":Str)=="number")=false:=X9
 simp only[Br,List.lookup,k1,Hn]
theorem Ge {Y:Addr}:List.lookup ("children":Str) (Br n Pv C Y)=some (.ref C):=by
 have k1:(("children":Str)=="number")=false:=X9
 have k2:(("children":Str)=="pivots")=false:=X9
 simp only[Br,List.lookup,k1,k2,Hn]
theorem yb {Y:Addr}:List.lookup ("tray":Str) (Br n Pv C Y)=some (.ref Y):=by
 have k1:(("tray":Str)=="number")=false:=X9
 have k2:(("tray":Str)=="pivots")=false:=X9
 have k3:(("tray":Str)=="children")=false:=X9
 simp only[Br,List.lookup,k1,k2,k3,Hn]
theorem BF {Y:Addr}:List.lookup ("number":Str) (Br n Pv C Y)=some (.int n):=by simp only[Br,List.lookup,Hn]
theorem BG :List.lookup ("number":Str) (KQ n R)=some (.int n):=by simp only[KQ,List.lookup,Hn]
theorem DO :List.lookup ("rows":Str) (KQ n R)=some (.ref R):=by
 have k1:(("rows":Str)=="number")=false:=X9
 simp only[KQ,List.lookup,k1,Hn]
def place (aV:List Int)(k:Int):Nat:=(aV.filter λp=>decide (p<=k)).length
inductive IF (K:Frag)(cI:Addr)(vs:List V)(H:Hp)(Q:VK)(E9:XK):Prop
 | mk (o dx n Pv C Y k:_) (aV:List Int) (_:vs=[.ref o,.int k]) (_:H o=some (.ins cI dx (Br n Pv C Y))) (_:H Pv=some (.lst (aV.map V.int))) (_:aV.length<=1000) (_:∀H',Ext K H H'->Q (.int (place aV k)) H')
include B in
theorem yc (F:bT K "child_place" "child_place" pU f fd):(!0) 1 f fd ["room","key"] (IF K av):=by
 exists 0,["room","key"]
 obtain⟨o,dx,n,Pv,C,Y,k,aV,rfl,ho,hP,lp,q⟩:=h;refine⟨_,(aE (aR (tN B.len (pP (ck [ "pivot","key" ] [none,some 1]) rfl (kO (bU (jm (j7 (dH cN))))) 'j' (λ_ _ _ _=>(yv (cM (cz (om (mA gy)) cN qM (aH _))))) (λ_ _ _ _=>bg))))),?_⟩
 ext
 have hP':H Pv=some (.lst ((aV.map λp=>(V.int p,p)).map (·.1))):=by rw[dq];exact hP
 refine⟨_,_,_,ho,B.cI,B.nI.2.1,_,BE,Pv,rfl,⟨_,aQ.of hP⟩,λD nD=>kJ (f:=(·.1)) (p:=λp=>decide (p<=k)) hP' nD (by rw[ab];exact lp) (λr hr H' N xx n=>?_) (λ_ _ _ _ _ h=>h) (λH' hD x1=>?_)⟩
 . obtain⟨p,_,rfl⟩:=fg.mp hr
   ext
   exact n
 . refine⟨_,aJ hD,?_⟩;have:=q H' x1;unfold place at this;rw[ab,tj,ab];exact this
def gq (rows:List (Int×List lq))(k:Int):List lq:=match rows.find? λr=>decide (r.1=k) with
 | some r=>r.2
 | none=>[]
theorem IG {rows:List (Int×List lq)}{k:Int}{i:Nat}{r:Int×List lq}(h:rows[i]?=some r)(e:r.1=k)(n:∀r∈rows.take i,r.1≠k):gq rows k=r.2:=by
 obtain⟨hi,hr⟩:=bo.mp h;have e2:rows=rows.take i++r::rows.drop (i + 1):=by rw[<- hr,<- List.drop_eq_getElem_cons hi,vT]
 have e3:(rows.find? λr=>decide (r.1=k))=some r:=by
   rw[e2,List.find?_append,List.find?_eq_none.mpr (λx hx=>by simpa using n x hx),List.find?_cons_of_pos (by simpa using e)];rfl
 unfold gq;rw[e3]
theorem II {rows:List (Int×List lq)}{k:Int}(n:∀r∈rows,r.1≠k):gq rows k=[]:=by
 unfold gq;rw[List.find?_eq_none.mpr (λx hx=>by simpa using n x hx)]
inductive yd (K:Frag)(cL:Addr)(vs:List V)(H:Hp)(Q:VK)(E9:XK):Prop
 | mk (o dx n R us H0 k:_) (rows:List (Int×List lq)) (_:vs=[.ref o,.int k]) (_:H o=some (.ins cL dx (KQ n R))) (_:H R=some (.lst us)) (_:ai K H0 H (rows.map fF) us) (_:∀D ws H',new K H D->H' D=some (.lst ws)->ai K H0 H' ((gq rows k).map fN) ws->Ext K H H'->Q (.ref D) H')
include B in
theorem ye (F:bT K "versions_in" "versions_in" pW f fd):(!0) 1 f fd ["leaf","key"] (yd K aI):=by
 exists 0,["leaf","key","other","versions"]
 obtain⟨o,dx,n,R,us,H0,k,rows,rfl,ho,hR,al,q⟩:=h;obtain⟨L,e1,e2,hL⟩:=ai.zip (d:=fF) al;refine⟨_,(ao (mH PassesOwn.never rfl (kO (bU (jm (j7 (dH cN))))) (kX (dF (n:=2) rfl (aA (gn 2 nk) (aA (gn 3 nk) dN)))) (aE (iV (cM (cz (om fL) Dd qM (aH _))) (aE (aR (cX cg rfl B.list cA (aa gC ah)))) cD))) (aE (aR (jG ah)))),?_⟩
 ext
 refine⟨_,_,_,ho,B.cL,B.nL.2,_,DO,R,rfl,⟨_,aQ.of hR⟩,fX (xs:=us) (λi σ H'=>FI λ(v2 v3:Option V)=>Al3 (rH σ [some (V.ref o),some (V.int k),v2,v3]) (∀r∈rows.take i,r.1≠k) (H'=H)) ⟨_,_,rfl,λr hr=>(by cases hr),rfl⟩ ?_ ?_ ?_⟩
 . rintro i σ H' _ ⟨v2,v3,rfl,_,rfl⟩;exact aQ.of hR
 . rintro i x σ H' hx ⟨v2,v3,rfl,hk,rfl⟩;rw[e1,ax]at hx;obtain⟨r,qN,rfl⟩:=bp.mp hx;obtain⟨T0,B',ys,ea,h1,h2,h3⟩:=lA (hL r (bb qN));have er:rows[i]?=some r.2:=by rw[e2,ax,qN];rfl
   rw[ea];simp_arith [h1];refine jP (λc=>⟨_,aJ h2,λl nl=>?_⟩) (λc=>⟨_,_,rfl,λr' hr''=>?_,trivial⟩)
   . have x1:=bM (.lst ys) nl;exact q l ys _ nl af (by rw[IG er c hk];exact h3.ext x1) x1
   . rw[List.take_add_one,er]at hr'';rcases de.mp hr'' with h | h
     . exact hk r' h
     . rw[cq.mp h];exact c
 . rintro σ H' ⟨v2,v3,rfl,hk,rfl⟩
   ext
   intro l nl;rw[show us.length=rows.length from by rw[al.len,ab],dv]at hk;exact q l [] _ nl af (by rw[II hk];exact ai.nil) (Ext.new nl)
inductive Path (k:Int):Tr->List Tr->Prop
 | leaf (a:Addr) (lo hi:Int) (rows:List (Int×List lq)):Path k (.leaf a lo hi rows) [.leaf a lo hi rows]
 | inner (a:Addr) (lo hi:Int) (aV:List Int) (aM:List Nt) (ks:List Tr) (u:Tr) (p:List Tr):ks[place aV k]?=some u->Path k u p->Path k (.inner a lo hi aV aM ks) (.inner a lo hi aV aM ks::p)
theorem cy.at {cL cI:Addr}{H:Hp}{g:Addr->Int}:∀{ts:List Tr}{os:List Addr}{i:Nat}{u:Tr},cy K cL cI H g ts os->ts[i]?=some u->∃o,os[i]?=some o/\iS K cL cI H g u o
 | [],os,i,u,p,h=>by cases h
 | t::ts,os,i,u,p,h=>by
   unfold cy at p;obtain⟨o,r,rfl,h1,h2⟩:=p;cases i with
   | zero=>cases h;exact⟨o,rfl,h1⟩
   | succ i=>
     obtain⟨o',h3,h4⟩:=cy.at h2 (show ts[i]?=some u from h);exact⟨o',h3,h4⟩
theorem cy.snoc {cL cI:Addr}{H:Hp}{g:Addr->Int}{u:Tr}{o:Addr}(q:iS K cL cI H g u o):∀{ts:List Tr}{os:List Addr},cy K cL cI H g ts os->cy K cL cI H g (ts++[u]) (os++[o])
 | [],os,p=>by
   unfold cy at p;rw[p];show cy K cL cI H g [u] [o];unfold cy;exact⟨o,[],rfl,q,by unfold cy;rfl⟩
 | t::ts,os,p=>by
   unfold cy at p;obtain⟨o',r,rfl,h1,h2⟩:=p;show cy K cL cI H g (t::(ts++[u])) (o'::(r++[o]));unfold cy;exact⟨o',_,rfl,h1,cy.snoc q h2⟩
inductive BH (K:Frag)(cL cI:Addr)(vs:List V)(H:Hp)(Q:VK)(E9:XK):Prop
 | mk (t:Tr) (o k) (g:Addr->Int) (a b c f lo hi) (_:vs=[.ref o,.int k]) (_:iS K cL cI H g t o) (_:bq a b c t f lo hi) (_:f<=3) (_:∀D os ts H',H' D=some (.lst (os.map V.ref))->Path k t ts->cy K cL cI H' g ts os->Ext K H H'->Q (.ref D) H')
include B in
theorem DP (F:bT K "rooms_to" "rooms_to" wY f fd)(jY:⋯ "child_place" 1 ["room","key"] (IF K av)):(!0) 2 f fd ["top","key"] (BH K aI av):=by
 exists 0,["top","key","rooms","room"]
 obtain⟨t,o,k,g,a,b,c,f,lo,hi,rfl,ho,ok,f3,q⟩:=h;refine⟨_,(ao (ss 2 nk (jG (aa bg ah))) (ao (EU PassesOwn.never (fj (Ec (ef (jm (bL kW rfl B.isinstance ic (aa (sW (uv je) eB (Ue qj ei) (λ_ _=>rfl)) (aa (jb rfl B.Yo B.HX) ah))))))) (ao (ss 3 nk (sW (uv je) eB (Ue qj ei) (λ_ _=>rfl))) (aE (j4 (Uh PySem.F.plainAttrs_list PySem.F.slot_list_append PySem.F.type_list_append fz eB (aa (sW (uv je) (j7 (dH Qj)) (ec jY hr (aa gC (aa cF ah))) (λ_ _=>rfl)) ah)))))) (aE (aR eB)))),?_⟩
 ext
 intro D nD;have x0:=bM (.lst [V.ref o]) nD;obtain⟨W,hW⟩:∃W:Nat->St->Hp->Prop,W=λm σ G=>ZG λ(ts:List Tr) (os:List Addr) (u:Tr) (o':Addr) (v3:Option V) (jx eY:Int)=>ZH (rH σ [some (V.ref o),some (V.int k),some (V.ref D),v3]) (G D=some (.lst (os.map V.ref++[V.ref o']))) (cy K aI av H g ts os) (iS K aI av H g u o') (bq a b c u m jx eY) ((∀p,Path k u p->Path k t (ts++p))) (os.length + m<=3) (Ext K H G):=⟨_,rfl⟩
 refine⟨W,⟨f,hW ▸ ⟨[],[],t,o,_,lo,hi,rfl,af,by unfold cy;rfl,ho,ok,λp hp=>hp,by simpa using f3,x0⟩⟩,λm σ G hw=>?_⟩;rw[hW]at hw;obtain⟨ts,os,u,o',v3,jx,eY,rfl,hD,Lb,hu,oku,hp,lm,xG⟩:=hw
 ext
 refine⟨_,aJ hD,_,rZ _ _,?_⟩;cases u with
 | leaf A' l h rows=>
   have Ea:=hu;unfold iS at Ea;obtain⟨dx,R,us,H0,h1,h2,h3⟩:=Ea;refine⟨_,B.tyL (xG.at h1),true,B.kLL,aK Y1 ?_⟩
   ext
   exact q D (os++[o']) (ts++[.leaf A' l h rows]) G (by rw[bj];exact hD) (hp _ (.leaf ..)) ((Lb.snoc hu).ext xG) xG
 | inner A' l h aV aM ks=>
   have Ea:=hu;unfold iS at Ea;obtain⟨dx,Pv,C,Y,us,os',H0,h1,h2,h3,h4,h5,h6⟩:=Ea;unfold bq at oku;obtain⟨_,_,l3,_,g',rfl,_,tk⟩:=oku;have lk:=tk.len;refine⟨_,B.tyI (xG.at h1),false,B.kIL,bw Y1 ?_⟩;refine⟨W g',λσ' H' h=>⟨g',kf _,h⟩,_,aJ hD,_,rZ _ _,.inl ⟨_,aQ.of hD⟩,o',rfl,_,_,_,xG.at h1,B.cI,B.nI.2.2.1,_,Ge,o',dx,g A',Pv,C,Y,k,aV,rfl,xG.at h1,xG.at h2,by omega,λG2 x2=>⟨C,rfl,_,rfl,_,aJ ((xG.trans x2).at h3),?_⟩⟩;have lp:place aV k<=aV.length:=i3 _ _;obtain⟨uc,huc⟩:∃u,ks[place aV k]?=some u:=⟨_,a9 X2⟩
   obtain⟨oc,hoc,hOc⟩:=h6.at huc;obtain⟨l',h',_,_,okc,_,_⟩:=qE tk _ uc huc;have eo:j3 (os'.map V.ref) (place aV k:Int)=some (.ref oc):=by
     have:=dI (xs:=os'.map V.ref) (i:=place aV k) (v:=.ref oc) (by rw[ax,hoc];rfl);rw[t5]at this;exact this
   have x3:=xG.trans x2;refine⟨_,eo,_,x2.at hD,by rw[ar,ab,lx];omega,?_⟩;rw[hW];refine⟨ts++[.inner A' l h aV aM ks],os++[o'],uc,oc,_,l',h',rfl,by rw[bj];exact af,Lb.snoc hu,hOc,okc,λp pp=>?_,by rw[ar];simp only[lx];omega,⟨λr o e=>by rw[au (ay e nD.1)];exact x3.at e,λr xs e md=>by rw[au (λz=>by rw[z,nD.2]at md;cases md)];exact x3.mod r xs e md⟩⟩;rw[gL];exact hp _ (.inner _ _ _ _ _ _ _ _ huc pp)
def cJ (k:Int)(o:Option Int):List Tr->Option Int
 | []=>none
 | .leaf _ _ _ rows::_=>valAt (gq rows k) o
 | .inner _ _ _ _ aM _::p=>oJ aM k o (cJ k o p)
theorem Path.one {k:Int}{t:Tr}{p:List Tr}(h:Path k t p):∀{p':List Tr},Path k t p'->p=p':=by
 induction h with
 | leaf a lo hi rows=>intro p' h;cases h;rfl
 | inner a lo hi aV aM ks u p e _ ih=>
   intro p' h;cases h with
   | inner _ _ _ _ _ _ u' p' e' h'=>
     rw[e]at e';cases e';rw[ih h']
theorem Path.ends {k:Int}{t:Tr}{p:List Tr}(h:Path k t p):∃ins a lo hi rows,p=ins++[.leaf a lo hi rows]:=by
 induction h with
 | leaf a lo hi rows=>exact⟨[],a,lo,hi,rows,rfl⟩
 | inner a lo hi aV aM ks u p e _ ih=>
   obtain⟨ins,a',jx,eY,rows,rfl⟩:=ih;exact⟨_::ins,a',jx,eY,rows,rfl⟩
theorem Path.ok {a c k:Int}{t:Tr}{p:List Tr}(h:Path k t p):∀{f:Nat}{lo hi:Int},bq a b c t f lo hi->∀u∈p,∃f' jx eY,bq a b c u f' jx eY:=by
 induction h with
 | leaf A l h rows=>intro f lo hi ok u hu;rw[cq.mp hu];exact⟨f,lo,hi,ok⟩
 | inner A l h aV aM ks u p e _ ih=>
   intro f lo hi ok v hv;rcases List.mem_cons.mp hv with rfl | hv
   . exact⟨f,lo,hi,ok⟩
   . unfold bq at ok;obtain⟨_,_,_,_,g',_,_,tk⟩:=ok;obtain⟨l',h',_,_,okc,_,_⟩:=qE tk _ u e;exact ih okc v hv
theorem Path.inn {k:Int}{t:Tr}{p:List Tr}(h:Path k t p):∀(i:Nat) (u:Tr),p[i]?=some u->i + 1 < p.length->∃a lo hi aV aM ks,u=.inner a lo hi aV aM ks:=by
 induction h with
 | leaf A l h rows=>intro i u hu hi;simp at hi
 | inner A l h aV aM ks u p e _ ih=>
   intro i v hv hi;cases i with
   | zero=>cases hv;exact⟨A,l,h,aV,aM,ks,rfl⟩
   | succ i=>exact ih i v hv (by simpa using hi)
theorem Path.i0 {a c k:Int}{t:Tr}{p:List Tr}(h:Path k t p):∀{f:Nat}{lo hi:Int},bq a b c t f lo hi->p.length=f + 1:=by
 induction h with
 | leaf A l h rows=>intro f lo hi ok;unfold bq at ok;rw[ok.1];rfl
 | inner A l h aV aM ks u p e _ ih=>
   intro f lo hi ok;unfold bq at ok;obtain⟨_,_,_,_,g',rfl,_,tk⟩:=ok;obtain⟨l',h',_,_,okc,_,_⟩:=qE tk _ u e;rw[List.length_cons,ih okc]
inductive BI (K:Frag)(cL cI:Addr)(vs:List V)(H:Hp)(Q:VK)(E9:XK):Prop
 | mk (t:Tr) (o k) (g:Addr->Int) (a b c f lo hi) (at':Option Int) (_:vs=[.ref o,.int k,on at']) (_:iS K cL cI H g t o) (_:bq a b c t f lo hi) (_:f<=3) (_:∀ts H',Path k t ts->Ext K H H'->Q (on (cJ k at' ts)) H')
include B in
theorem yV (F:bT K "told_value" "told_value" gE f fd)(g9:⋯ "rooms_to" 2 ["top","key"] (BH K aI av))(eK:⋯ "versions_in" 1 ["leaf","key"] (yd K aI))(oK:oX P w K mg base "value_of" 1 ["versions","at"] ["at"] 1 1 (IE K))(BJ:oX P w K mg base "seen" 3 ["tray","key","value","at"] ["at"] 3 1 (Oe K)):(!0) 4 f fd ["top","key","at"] (BI K aI av):=by
 exists 0,["top","key","at","inners","leaf","value","room"]
 obtain⟨t,o,k,g,a,b,c,f,lo,hi,at',rfl,ho,ok,f3,q⟩:=h;exists 2,gE,3,aE (aR sJ),r3,J3,e3;exists 2,gE,2,ao (mH PassesOwn.never rfl (Xv rfl B.reversed (aa gC ah)) (gn 6 nk) (aE (ss 5 nk (AW BJ (rm hr) rfl (aa (j7 (dH UW)) (aa cF (aa sJ ah))) (zK eB JM))))) J3,r2,J2,e2;exists 2,gE,1,ao (ss 5 nk (AW oK (rm hr) rfl (aa (ec eK hr (aa jA (aa cF ah))) ah) (zK eB JM))) J2,r1,J1,e1;refine⟨_,(ao (iW (ec g9 hr (aa bg (aa cF ah))) (MM (n:=2) (i:=0) rfl (MN (gn 3 nk) (aA (gn 4 nk) dN)))) J1),?_⟩
 ext
 refine⟨t,o,k,g,a,b,c,f,lo,hi,rfl,ho,ok,f3,λD0 os ts H1 YU pt hos x1=>?_⟩;obtain⟨ins,A',l',h',rows,ets⟩:=pt.ends;have lts:=pt.i0 ok;have Vi:=hos.len;have Z8:ins.length + 1=ts.length:=by rw[ets,ar];rfl
 obtain⟨io,ol,rfl⟩:∃io ol,os=io++[ol]:=by
   rcases mI os with e | ⟨io,ol,e⟩
   . rw[e,List.length_nil]at Vi;omega
   . exact⟨io,ol,by rw[e];simp⟩
 have YV:io.length=ins.length:=by
   rw[ar,lx]at Vi;omega
 obtain⟨ol',eol,hol⟩:=hos.at (i:=ins.length) (u:=.leaf A' l' h' rows) (by rw[ets];simp);rw[<- YV,i5 (ag _),ub]at eol;cases eol;have et:List.take ((List.map V.ref (io++[ol])).length + 1 - 2) (List.drop 0 (List.map V.ref (io++[ol])))=io.map V.ref:=Y2
 have ed:List.drop ((List.map V.ref (io++[ol])).length + 1 - 2) (List.drop 0 (List.map V.ref (io++[ol])))=[V.ref ol]:=Y2
 refine⟨D0,rfl,_,aQ.of YU,by simp,λD nD=>⟨.ref D,[.ref ol],by rw[ed];rfl,.ref ol,[],rfl,rfl,?_⟩⟩;rw[et,e1];have xD:=bM (.lst (io.map V.ref)) nD;have hD:upd H1 D (.lst (io.map V.ref)) D=some (.lst (io.map V.ref)):=af;have DQ:=hos.ext xD;have KW:=hol.ext xD;have x2:=x1.trans xD;generalize upd H1 D (.lst (io.map V.ref))=G at hD DQ KW x2 ⊢;unfold iS at KW;obtain⟨dx,R,us,H0,h1,h2,h3⟩:=KW
 ext
 refine⟨ol,dx,g A',R,us,H0,k,rows,rfl,h1,h2,h3,λDv ws G2 _ hDv aDv x3=>⟨Dv,ws,H0,gq rows k,at',rfl,hDv,aDv,?_⟩⟩;rw[e2]
 ext
 refine⟨_,aQ.of (x3.at hD),C4 (xs:=io.map V.ref) (λi σ G'=>Yd λ(v6:Option V)=>OH (rH σ [some (V.ref o),some (V.int k),some (on at'),some (V.ref D),some (V.ref ol),some (on (cJ k at' (ts.drop (io.length - i)))),v6]) (Ext K G2 G')) ⟨none,?_,Ext.refl⟩ ?_ ?_ ?_⟩
 . rw[ets,Nat.sub_zero,YV,List.drop_left];rfl
 . rintro i σ G' _ ⟨v6,rfl,x4⟩;exact aQ.of ((x3.trans x4).at hD)
 . rintro i x σ G' hi hx ⟨v6,rfl,x4⟩;rw[ab]at hi hx;obtain⟨j,hj⟩:∃j,j=io.length - 1 - i:=⟨_,rfl⟩
   rw[<- hj,ax]at hx;obtain⟨oj,hoj,rfl⟩:=bp.mp hx;have YW:j < ts.length:=X2
   have IJ:=a9 YW;obtain⟨A2,l2,YG,aV,aM,ks,eu⟩:=pt.inn j _ IJ X2;obtain⟨f',jx,eY,oku⟩:=pt.ok ok _ (bb IJ);rw[eu]at oku IJ;obtain⟨oj',eoj,QH⟩:=DQ.at IJ;rw[gN X2,hoj]at eoj;cases eoj;have QH:=QH.ext (x3.trans x4);unfold iS at QH;obtain⟨dx',Pv,C,Y,us',os',H0',k1,k2,k3,k4,k5,_⟩:=QH;unfold bq at oku;obtain⟨_,_,_,_,g',rfl,ty,_⟩:=oku;obtain⟨L,z1,z2,hL⟩:=ai.zip (d:=Nt.d) k5;rw[z1]at k4;have ev:cJ k at' (ts.drop (io.length - (i + 1)))=oJ aM k at' (cJ k at' (ts.drop (io.length - i))):=by
     rw[show io.length - (i + 1)=j from by omega,show io.length - i=j + 1 from by omega,List.drop_eq_getElem_cons YW,eu];rfl
   have tl:=ty.l.1;rw[z2,ab]at tl
   ext
   refine⟨_,_,_,k1,B.cI,B.nI.2.2.2,_,yb,Y,L,k,_,at',rfl,k4,λr qN=>⟨ya (hL r qN),λn z=>?_⟩,by omega,λG5 x5=>⟨some (V.ref oj),?_,x4.trans x5⟩⟩
   . rcases(ty.e r.2 (by rw[z2];exact cx qN)).m with e | ⟨_,e,_⟩ <;> (rw[e]at z;cases z)
   . rw[ev,z2];rfl
 . rintro σ G' ⟨v6,rfl,x4⟩;rw[e3]
   ext
   rw[ab,ub,List.drop_zero];exact q ts G' pt (x2.trans (x3.trans x4))
theorem DR {v:V}{k o t:Addr}:List.lookup ("kept":Str) (KS v k n o t)=some (.ref k):=by
 have k1:(("kept":Str)=="rule")=false:=X9
 simp only[KS,List.lookup,k1,Hn]
theorem vq {v:V}{k o t:Addr}:List.lookup ("top":Str) (KS v k n o t)=some (.ref o):=by
 have k1:(("top":Str)=="rule")=false:=X9
 have k2:(("top":Str)=="kept")=false:=X9
 have k3:(("top":Str)=="fresh")=false:=X9
 simp only[KS,List.lookup,k1,k2,k3,Hn]
theorem kL {v:V}:List.lookup ("house":Str) (vp v n h)=some (.ref h):=by
 have k1:(("house":Str)=="rule")=false:=X9
 have k2:(("house":Str)=="last")=false:=X9
 simp only[vp,List.lookup,k1,k2,Hn]
inductive BL (vs:List V)(H:Hp)(Q:VK)(E9:XK):Prop
 | mk (k:Int) (_:vs=[.int k]) (_:0<=k) (_:k < 10 ^ 12) (_:Q .bS H)
include B in
theorem BN (F:bT K "check_key" "check_key" ux f fd)(kj:⋯ "is_key" 3 ["thing"] FO):(!0) 4 f fd ["thing"] BL:=by
 exists 0,["thing"]
 obtain⟨k,rfl,h0,h1,q⟩:=h;refine⟨_,(aE (iV (fj (ef (ec kj hr (aa bg ah)))) (aE AR) cD)),?_⟩
 ext
 have e:wO 0 999999999999 (some k)=true:=by simp only[wO,cp,Iy];omega
 exact⟨some k,rfl,_,rfl,aK (by rw[e];decide) q⟩
theorem QI {m:Int}(h:m∈ms):EG (V.int m) (ms.map V.int)=true:=by
 unfold EG;exact List.any_eq_true.mpr ⟨.int m,cx h,by simp[Q9]⟩
inductive yf (K:Frag)(cH:Addr)(vs:List V)(H:Hp)(Q:VK)(E9:XK):Prop
 | mk (h dh v k n o t:_) (at':Option Int) (ms:List Int) (_:vs=[.ref h,on at']) (_:H h=some (.ins cH dh (KS v k n o t))) (_:H k=some (.lst (ms.map V.int))) (_:(∀m,at'=some m->m∈ms)) (_:Q .bS H)
include B in
theorem yX (F:bT K "check_mark" "check_mark" rP f fd)(HC:Vf K aX)(aU:⋯ "is_number" 1 ["thing"] lg):(!0) 2 f fd ["house","at"] (yf K aX):=by
 exists 0,["house","at"]
 obtain⟨h,dh,v,k,n,o,t,at',ms,rfl,hh,hk,hm,q⟩:=h;refine⟨_,(aE (iV (tw (Ui (cM (cz (om AE) qM (jm jQ) (aH _))) (Mg (tw (sH (fj (ef (ec aU hr (aa cF ah)))) (jc (cM (cz (om zE) qM (jm (j7 (dH cN))) aab)))))))) (aE AR) cD)),?_⟩
 ext
 cases at' with
 | none=>exact aK Y1 q
 | some m=>
   have hi:EG (V.int m) (ms.map V.int)=true:=QI (hm m rfl);have fl:(ms.map V.int).all l9=true:=by rw[rf];exact eP.mpr λ_ _=>rfl
   exact bw rfl ⟨some m,rfl,true,rfl,aK Y1 ⟨_,_,_,hh,HC.cl,HC.kept,_,DR,k,rfl,_,aJ hk,rfl,fl,aK (by rw[show EG (on (some m)) (ms.map V.int)=true from hi];decide) q⟩⟩
inductive IK (K:Frag)(cH cL cI:Addr)(vs:List V)(H:Hp)(Q:VK)(E9:XK):Prop
 | mk (h dh v kp n o tr:_) (t:Tr) (g:Addr->Int) (a b c f lo hi) (k:Int) (at':Option Int) (ms:List Int) (_:vs=[.ref h,.int k,on at']) (_:H h=some (.ins cH dh (KS v kp n o tr))) (_:H kp=some (.lst (ms.map V.int))) (_:iS K cL cI H g t o) (_:bq a b c t f lo hi) (_:f<=3) (_:0<=k) (_:k < 10 ^ 12) (_:(∀m,at'=some m->m∈ms)) (_:∀ts H',Path k t ts->Ext K H H'->Q (on (cJ k at' ts)) H')
include B in
theorem DS (F:bT K "read_key" "read_key" wZ f fd)(HC:Vf K aX)(gf:⋯ "check_key" 4 ["thing"] BL)(fJ:⋯ "check_mark" 2 ["house","at"] (yf K aX))(fK:⋯ "told_value" 4 ["top","key","at"] (BI K aI av)):(!0) 5 f fd ["house","key","at"] (IK K aX aI av):=by
 exists 0,["house","key","at"]
 obtain⟨h,dh,v,kp,n,o,tr,t,g,a,b,c,f,lo,hi,k,at',ms,rfl,hh,hk,ho,ok,f3,k0,k1,hm,q⟩:=h;refine⟨_,(ao (j4 (ec gf hr (aa cF ah))) (ao (j4 (ec fJ hr (aa bg (aa eB ah)))) (aE (aR (ec fK hr (aa (j7 (dH cN)) (aa cF (aa eB ah)))))))),?_⟩
 ext
 exact⟨k,rfl,k0,k1,h,dh,v,kp,n,o,tr,at',ms,rfl,hh,hk,hm,_,_,_,hh,HC.cl,HC.top,_,vq,t,o,k,g,a,b,c,f,lo,hi,at',rfl,ho,ok,f3,q⟩
inductive BO (K:Frag)(cS cH cL cI:Addr)(vs:List V)(H:Hp)(Q:VK)(E9:XK):Prop
 | mk (x a b c pl last fr:_) (g:Addr->Int) (t:Tr) (f lo hi) (k:Int) (at':Option Int) (ms:List Int) (_:vs=[.ref x,.int k,on at']) (_:Lc K cS cH cL cI H x a b c pl last ms fr g t) (_:bq a b c t f lo hi) (_:f<=3) (_:0<=k) (_:k < 10 ^ 12) (_:(∀m,at'=some m->m∈ms)) (_:∀ts H',Path k t ts->Ext K H H'->Q (on (cJ k at' ts)) H')
include B in
theorem qf (F:bT K "read" "Store.read" rQ f fd)(SC:Vg K aS)(jM:oX P w K mg base "read_key" 5 ["house","key","at"] ["at"] 2 1 (IK K aX aI av)):(!0) 6 f fd ["self","key","at"] (BO K aS aX aI av):=by
 exists 0,["self","key","at"]
 obtain⟨x,a,b,c,pl,last,fr,g,t,f,lo,hi,k,at',ms,rfl,⟨dx,h,dh,R,kp,o,tr,s1,s2,s3,s4,s5'⟩,ok,f3,k0,k1,hm,q⟩:=h;refine⟨_,(aE (aR (AW jM (rm hr) rfl (aa (j7 (dH cN)) (aa cF ah)) (zK eB JM)))),?_⟩
 ext
 exact⟨_,_,_,s1,SC.cl,SC.xW,_,kL,h,dh,.ref R,kp,fr,o,tr,t,g,a,b,c,f,lo,hi,k,at',ms,rfl,s2,s4,s5',ok,f3,k0,k1,hm,q⟩
include B in
theorem BP (F:bT K "_law_acts" "_law_acts" nJ f fd):(!0) 1 f fd ["_law_action_here","_law_value_here"] (By K):=by
 exists 0,["_law_action_here","_law_value_here","_law_half"]
 obtain⟨v,t,m,o,rfl,⟨a,r,u,rfl,h1,h2,h3⟩,hm,q⟩:=h;exists 2,nJ,1,ao (iV (cM (cz (om fL) (jm (iq eB)) (jm dM) (aH _))) (aE (aR jQ)) cD) (ao (iV (cM (cz (om fL) (jm (iq eB)) (jm dM) (aH _))) (aE (aR (cB (mA bu) cF (iq eB)))) cD) (aE (aR (iq eB)))),r1,J1,e1;refine⟨_,(ao (ss 2 nk (sW (uv je) bg (cX sV rfl B.int vL (aa (fS mV cF jQ (aH _)) ah)) (λ_ _=>rfl))) J1),?_⟩;simp_arith [↓eqT h1];have key:∀(z:Addr) (h:bR),tupQ K H z=some h.v->(o=none->∀n,h≠.plus n)->Q (on (h.act o)) H->r1 { nx:=λx H'=>Q V.bS H',rt:=Q } [some (V.ref a),some (on o),some (V.ref z)] H:=by
   intro z h hz hn q;rw[e1];simp_arith [↓eqT hz];cases h with
   | gone=>exact⟨_,pM,rfl,bw rfl q⟩
   | is n=>exact⟨_,pM,rfl,aK (λz=>by revert z;decide +kernel) ⟨_,pM,rfl,aK (λz=>s3 (V.str.inj z)) ⟨_,tZ,q⟩⟩⟩
   | plus n=>
     cases o with
     | none=>exact absurd rfl (hn rfl n)
     | some v=>exact⟨_,pM,rfl,aK (λz=>by revert z;decide +kernel) ⟨_,pM,rfl,bw rfl ⟨_,tZ,v,rfl,n,rfl,q⟩⟩⟩
 cases o with
 | none=>exact⟨.ref u,(show j3 [V.ref r,V.ref u] (if V.bS=V.bS then 1 else 0)=_ from by rw[Hk rfl];rfl),key u m h3 (λ_=>hm) q⟩
 | some i=>exact⟨.ref r,by rw[He (λz=>by cases z)];rfl,key r t h2 (λz=>by cases z) q⟩
theorem cy.zip {cL cI:Addr}{H:Hp}{g:Addr->Int}:∀{ts:List Tr}{os:List Addr},cy K cL cI H g ts os->∀q∈ts.zip os,iS K cL cI H g q.1 q.2
 | [],os,p,q,h=>by cases h
 | t::ts,os,p,q,h=>by
   unfold cy at p;obtain⟨o,r,rfl,h1,h2⟩:=p;rcases List.mem_cons.mp h with rfl | h
   . exact h1
   . exact cy.zip h2 q h
include B in
theorem Vj {u:Tr}{o:Addr}(p:iS K aI av H g u o):∃C dx fs,H o=some (.ins C dx fs)/\uN K C/\bK K C "number"/\List.lookup ("number":Str) fs=some (.int (g u.a)):=by
 cases u with
 | leaf a l h rows=>
   unfold iS at p;obtain⟨dx,R,us,H0,h1,_⟩:=p;exact⟨_,_,_,h1,B.cL,B.nL.1,BG⟩
 | inner a l h aV aM ks=>
   unfold iS at p;obtain⟨dx,Pv,C,Y,us,os,H0,h1,_⟩:=p;exact⟨_,_,_,h1,B.cI,B.nI.1,BF⟩
inductive IL (K:Frag)(cL cI:Addr)(vs:List V)(H:Hp)(Q:VK)(E9:XK):Prop
 | mk (t:Tr) (o) (g:Addr->Int) (a b c f lo hi) (_:vs=[.ref o]) (_:iS K cL cI H g t o) (_:bq a b c t f lo hi) (_:∀v H',aL K H H' (t.told g) v->Ext K H H'->Q v H')
include B in
theorem BQ (F:bT K "room_told" "room_told" jI f fd)(g7:⋯ "own_rows" 1 ["rows"] (Oa K)):(!0) 2 f fd ["room"] (IL K aI av):=by
 exists 0,["room","numbers"]
 obtain⟨t,o,g,a,b,c,f,lo,hi,rfl,ho,ok,q⟩:=h;exists 2,jI,2,aE (aR (mK (aa dM (aa (j7 (dH cN)) (aa (cX cg rfl B.list cA (aa (j7 (dH cN)) ah)) (aa cF (aa (cX cg rfl B.list cA (aa (j7 (dH cN)) ah)) ah))))))),r2,J2,e2;exists 2,jI,1,ao (Zn (i:=1) nk rfl (Or.inl rfl) (ck [ "child" ] [none]) rfl (kO (bU (jm (j7 (dH cN))))) 'j' 'v' (λ_ _ _ _=>(Rr K bg))) J2,r1,J1,e1;refine⟨_,(ao (iV (Ec (ef (jm (bL kW rfl B.isinstance ic (aa bg (aa (jb rfl B.Yo B.HX) ah)))))) (aE (aR (mK (aa dM (aa (j7 (dH cN)) (aa (ec g7 hr (aa (j7 (dH cN)) ah)) ah)))))) cD) J1),?_⟩
 ext
 cases t with
 | leaf A' l h rows=>
   unfold iS at ho;obtain⟨dx,R,us,H0,h1,h2,h3⟩:=ho;unfold bq at ok;refine⟨_,B.tyL h1,true,B.kLL,bw rfl ⟨_,_,_,h1,B.cL,B.nL.1,_,BG,_,_,_,h1,B.cL,B.nL.2,_,DO,R,us,rows,H0,rfl,h2,h3,by have:=ok.2.2.2.2.l;omega,λD ws H1 nD hD aD x1 T nT=>?_⟩⟩;have xT:=bM (.tup [V.str (Str.ofString "leaf"),V.int (g A'),V.ref D]) nT;refine q _ _ ?_ (x1.trans xT);exact aL.tt.mpr ⟨T,_,rfl,aF,ai.cons (aL.ss.mpr rfl) (ai.cons (aL.ii.mpr rfl) (ai.cons (aL.ll.mpr ⟨D,ws,rfl,nD,xT.at hD,aD.ext xT⟩) ai.nil))⟩
 | inner A' l h aV aM ks=>
   unfold iS at ho;obtain⟨dx,Pv,C,Y,us,os,H0,h1,h2,h3,h4,h5,h6⟩:=ho;have lk:=h6.len;have l4:ks.length<=4:=by
     unfold bq at ok;obtain⟨_,_,l3,_,g',_,_,ok⟩:=ok;have:=bz.len ok;omega
   refine⟨_,B.tyI h1,false,B.kIL,aK Y1 ?_⟩;rw[e1]
   ext
   have ez:os.map V.ref=(ks.zip os).map λq=>V.ref q.2:=by
     rw[show(λq:Tr×Addr=>V.ref q.2)=V.ref ∘ Prod.snd from rfl,<- dq,rp (by rw[lk];exact ag _)]
   have en:(ks.zip os).map (λq=>V.int (g q.1.a))=(ks.map λt=>g t.a).map V.int:=by
     rw[show(λq:Tr×Addr=>V.int (g q.1.a))=(λt:Tr=>V.int (g t.a)) ∘ Prod.fst from rfl,<- dq,pj (by rw[lk];exact ag _),dq];rfl
   rw[ez]at h3;refine⟨_,_,_,h1,B.cI,B.nI.2.2.1,_,Ge,C,rfl,⟨_,aQ.of h3⟩,λD nD=>gH (L:=ks.zip os) (f:=λq=>V.ref q.2) (g:=λq=>V.int (g q.1.a)) (aQ.of h3) nD (by rw[mN];omega) (λr qN H' Q' xx qq=>?_) (λH1 hD x1=>?_)⟩
   . obtain⟨C',dx',fs,n1,n2,n3,n4⟩:=Vj B ((h6.zip r qN).ext xx)
     ext
     exact⟨_,_,_,n1,n2,n3,_,n4,qq _ Ext.refl⟩
   rw[en]at hD;rw[e2]
   ext
   refine⟨_,_,_,x1.at h1,B.cI,B.nI.1,_,BF,_,_,_,x1.at h1,B.cI,B.nI.2.1,_,BE,Pv,rfl,_,aJ (x1.at h2),λl1 m1=>?_⟩;have y1:=bM (.lst (aV.map V.int)) m1;have x2:=x1.trans y1;refine⟨_,_,_,x2.at h1,B.cI,B.nI.2.2.2,_,yb,Y,rfl,_,aJ (x2.at h4),λl2 m2 T nT=>?_⟩;have y2:=bM (.lst us) m2;have y3:=bM (.tup [V.str (Str.ofString "inner"),V.int (g A'),V.ref l1,V.ref D,V.ref l2]) nT;refine q _ _ ?_ (x2.trans (y2.trans y3));refine aL.tt.mpr ⟨T,_,rfl,aF,ai.cons (aL.ss.mpr rfl) (ai.cons (aL.ii.mpr rfl) (ai.cons (aL.ll.mpr ⟨l1,_,rfl,bB x1 m1,(y2.trans y3).at af,ai.lK aV⟩) (ai.cons (aL.ll.mpr ⟨D,_,rfl,nD,(y1.trans (y2.trans y3)).at hD,?_⟩) (ai.cons (aL.ll.mpr ⟨l2,us,rfl,bB x2 m2,y3.at af,?_⟩) ai.nil))))⟩
   . rw[show(ks.map λt=>PyData.int (g t.a))=(ks.map λt=>g t.a).map PyData.int from by rw[dq];rfl];exact ai.lK _
   . exact(h5.flat (gY vn _)).ext (x2.trans (y2.trans y3))
mutual
def c7:PyData->Bool
 | .none=>true
 | .int i=>decide (i.natAbs < 10 ^ 60)
 | .str s=>decide ((PyData.str s).shown.length<=20)&&(PyData.str s).showable
 | .list ds=>bN ds
 | .tuple ds=>bN ds
 | _=>false
def bN:List PyData->Bool
 | []=>true
 | d::ds=>c7 d&&bN ds
end
theorem Gf (h:i.natAbs < 10 ^ 60):(PySem.Str.ofString (toString i)).length<=61:=by
 rw[PySem.ofString_length];exact Bz Y1 h
mutual
theorem BR:∀{d:PyData},c7 d=true->d.shown.length + 4<=100 * wt d
 | .none,_=>by simp only[PyData.shown,wt];decide
 | .int i,h=>by
   simp only[c7,Iy]at h;have:=Gf h;simp only[PyData.shown,wt];omega
 | .list ds,h=>by
   simp only[c7]at h;have:=qH h;have l:=CY (PyData.shownAll ds);simp only[PyData.shown,wt];omega
 | .tuple ds,h=>by
   simp only[c7]at h;have:=qH h;have l:=rE (PyData.shownAll ds);simp only[PyData.shown,wt];omega
 | .bool _,h=>by simp[c7]at h
 | .str _,h=>by
   simp only[c7,cp,Iy]at h;have:=h.1;simp only[wt];omega
 | .dict _,h=>by simp[c7]at h
theorem qH:∀{ds:List PyData},bN ds=true->piled (PyData.shownAll ds)<=100 * dG ds
 | [],_=>by simp[PyData.shownAll,piled,dG]
 | d::ds,h=>by
   simp only[bN,cp]at h;have h1:=BR h.1;have h2:=qH h.2;simp only[PyData.shownAll,piled_cons,dG];omega
end
mutual
theorem pA:∀{d:PyData},c7 d=true->d.showable=true/\d.hasDict=false
 | .none,_=>by simp only[PyData.showable,PyData.hasDict];exact⟨trivial,trivial⟩
 | .int i,h=>by
   simp only[c7,Iy]at h;have:=MD h;simp only[bare]at this;simp only[PyData.showable,PyData.hasDict];exact⟨this,trivial⟩
 | .list ds,h=>by
   simp only[c7]at h;simp only[PyData.showable,PyData.hasDict];exact lQ h
 | .tuple ds,h=>by
   simp only[c7]at h;simp only[PyData.showable,PyData.hasDict];exact lQ h
 | .bool _,h=>by simp[c7]at h
 | .str _,h=>by
   simp only[c7,cp]at h;exact⟨h.2,by simp only[PyData.hasDict]⟩
 | .dict _,h=>by simp[c7]at h
theorem lQ:∀{ds:List PyData},bN ds=true->PyData.showableAll ds=true/\PyData.hasDictAll ds=false
 | [],_=>by simp[PyData.showableAll,PyData.hasDictAll]
 | d::ds,h=>by
   simp only[bN,cp]at h;have h1:=pA h.1;have h2:=lQ h.2;simp only[PyData.showableAll,PyData.hasDictAll,h1.1,h1.2,h2.1,h2.2,Bool.and_self,Bool.or_self];exact⟨trivial,trivial⟩
end
theorem fq {α:Type}{d:α->PyData}:∀{l:List α},(∀a∈l,c7 (d a)=true)->bN (l.map d)=true
 | [],_=>by simp only[List.map_nil,bN]
 | a::l,h=>by
   simp only[List.map_cons,bN,cp];exact⟨h a Y2,fq λb hb=>h b (by simp[hb])⟩
theorem jr {α:Type}{d:α->PyData}{c:Nat}:∀{l:List α},(∀a∈l,wt (d a)<=c)->dG (l.map d)<=l.length * c
 | [],_=>by simp[dG]
 | a::l,h=>by
   have h1:=h a Y2;have h2:=jr (l:=l) λb hb=>h b (by simp[hb]);simp only[List.map_cons,dG,List.length_cons,Nat.succ_mul];omega
theorem sC (h:i.natAbs < 10 ^ 60):c7 (.int i)=true:=by simp only[c7];exact Hm h
theorem small (h0:0<=i)(h1:i<=10 ^ 13):i.natAbs < 10 ^ 60:=X2
theorem sD {p:lq}(h0:0<=p.1)(h1:p.1 < 40)(h:Se p.2):c7 (fN p)=true/\wt (fN p)<=3:=by
 obtain⟨n,o⟩:=p;cases o with
 | none=>exact⟨by simp only[fN,uG,c7,bN,lj];exact Hm (small h0 X2),by simp[fN,uG,wt,dG]⟩
 | some i=>exact⟨by simp only[fN,uG,c7,bN,lj,cp,Iy];exact⟨small h0 X2,h i rfl⟩,by simp[fN,uG,wt,dG]⟩
theorem Of {lo c:Int}{rows:List (Int×List lq)}(h:yN lo hi c rows)(h0:0<=lo)(h1:hi<=10 ^ 12):∀r∈rows,c7 (fF r)=true/\wt (fF r)<=18:=by
 intro r hr;have hk:=h.k r hr;have hv:=h.v r hr;refine⟨?_,?_⟩
 . simp only[fF,c7,bN,lj,cp,Iy];exact⟨small X2 X2,fq λp hp=>(sD (hv.n p hp).1 (hv.n p hp).2.1 (hv.n p hp).2.2).1⟩
 . have:=jr (d:=fN) (c:=3) (l:=r.2) λp hp=>(sD (hv.n p hp).1 (hv.n p hp).2.1 (hv.n p hp).2.2).2;have:=hv.l.2;simp only[fF,wt,dG];omega
theorem Ao {h:bR}(s:h.sm):c7 h.hd=true/\wt h.hd<=3:=by
 cases h with
 | plus n=>exact⟨by simp only[bR.hd,c7,bN,lj,cp];exact⟨by decide +kernel,Hm s⟩,by simp[bR.hd,wt,dG]⟩
 | is n=>exact⟨by simp only[bR.hd,c7,bN,lj,cp];exact⟨by decide +kernel,Hm s⟩,by simp[bR.hd,wt,dG]⟩
 | gone=>exact⟨by decide +kernel,by simp[bR.hd,wt,dG]⟩
theorem Aq {lo f:Int}{e:Nt}(h:U3 lo hi f e)(hf:0<=f/\f<=3)(h0:0<=lo)(h1:hi<=10 ^ 12):c7 e.d=true/\wt e.d<=11:=by
 have s:=h.s;have n:=h.n;have ms:e.m.sm:=by
   rcases h.m with z | ⟨i,z,g,_⟩ <;> rw[z]
   . exact trivial
   . exact g
 have a:=Ao h.t;have b:=Ao ms;refine⟨?_,?_⟩
 . simp only[Nt.d,Nt.rn,RN.d,uG,Kz,c7,bN,lj,cp,Iy];exact⟨small X2 X2,small X2 X2,small X2 X2,a.1,b.1⟩
 . simp only[Nt.d,Nt.rn,RN.d,uG,Kz,wt,dG];omega
theorem KY {a c lo:Int}{u:Tr}{f:Nat}(ok:bq a b c u f lo hi)(hf:f<=3)(h0:0<=lo)(h1:hi<=10 ^ 12)(hg:∀v∈u::u.kids,0<=g v.a/\g v.a<=10 ^ 12):c7 (u.told g)=true/\wt (u.told g)<=500:=by
 have gu:=hg u Y2;cases u with
 | leaf A l h rows=>
   unfold bq at ok;have nr:=Of ok.2.2.2.2 h0 h1;have w1:=jr (d:=fF) (c:=18) λr hr=>(nr r hr).2;have l1:=ok.2.2.2.2.l.1;refine⟨?_,?_⟩
   . simp only[Tr.told,c7,bN,lj,cp];exact⟨by decide +kernel,Hm (small gu.1 (by have:=gu.2;show g A<=_;exact Fs this Y1)),fq λr hr=>(nr r hr).1⟩
   . simp only[Tr.told,wt,dG];omega
 | inner A l h aV aM ks=>
   have gk:∀v∈ks,0<=g v.a/\g v.a<=10 ^ 12:=λv hv=>hg v (bc _ hv);unfold bq at ok;obtain⟨_,_,l3,_,g',fe,ty,tk⟩:=ok;have lk:=tk.len;have np:∀p∈aV,c7 (PyData.int p)=true:=λp hp=>by
     have up:=F9 tk;rw[List.pairwise_cons]at up;have u1:=up.1 p (js _ hp);have u2:=(rg.mp up.2).2.2 p hp hi Y2;exact sC (small X2 X2)
   have nn:=λe he=>Aq (ty.e e he) ⟨by omega,by omega⟩ h0 h1;have w1:=jr (d:=PyData.int) (c:=1) (l:=aV) λp _=>by simp[wt]
   have w2:=jr (d:=λt:Tr=>PyData.int (g t.a)) (c:=1) (l:=ks) λp _=>by simp[wt]
   have w3:=jr (d:=Nt.d) (c:=11) λe he=>(nn e he).2;have l1:=ty.l.1;refine⟨?_,?_⟩
   . simp only[Tr.told,c7,bN,lj,cp];exact⟨by decide +kernel,Hm (small gu.1 (Fs gu.2 Y1)),fq np,fq λv hv=>sC (small (gk v hv).1 (Fs (gk v hv).2 Y1)),fq λe he=>(nn e he).1⟩
   . simp only[Tr.told,wt,dG];omega
mutual
theorem bq.Gg {a b c:Int}:∀{t:Tr}{f:Nat}{lo hi:Int},bq a b c t f lo hi->∀u∈t.pre,∃f' jx eY,bq a b c u f' jx eY/\f'<=f/\lo<=jx/\eY<=hi
 | .leaf a' l h rows,f,lo,hi,ok,u,hu=>by
   unfold Tr.pre at hu;rw[cq.mp hu];exact⟨f,lo,hi,ok,ag _,mx _,mx _⟩
 | .inner a' l h aV aM ks,f,lo,hi,ok,u,hu=>by
   unfold Tr.pre at hu;rcases List.mem_cons.mp hu with rfl | hu
   . exact⟨f,lo,hi,ok,ag _,mx _,mx _⟩
   . unfold bq at ok;obtain⟨_,_,l3,_,g,rfl,_,ok⟩:=ok;obtain⟨f',jx,eY,h1,h2,h3,h4⟩:=bz.Gg ok u hu;exact⟨f',jx,eY,h1,by omega,h3,h4⟩
theorem bz.Gg {a b c:Int}:∀{ts:List Tr}{g:Nat}{lo:Int}{aV:List Int}{hi:Int},bz a b c ts g lo aV hi->∀u∈c6 ts,∃f' jx eY,bq a b c u f' jx eY/\f'<=g/\lo<=jx/\eY<=hi
 | [],g,lo,aV,hi,ok,u,hu=>by unfold bz at ok;exact ok.elim
 | t::ts,g,lo,[],hi,ok,u,hu=>by
   unfold bz at ok;rw[ok.2]at hu;unfold c6 at hu;unfold c6 at hu;rw[List.append_nil]at hu;exact bq.Gg ok.1 u hu
 | t::ts,g,lo,q::qs,hi,ok,u,hu=>by
   unfold bz at ok;unfold c6 at hu;have h1:=ok.1.lt;have h2:=ok.2.lt;rcases de.mp hu with hu | hu
   . obtain⟨f',jx,eY,h3,h4,h5,h6⟩:=bq.Gg ok.1 u hu;exact⟨f',jx,eY,h3,h4,h5,by omega⟩
   . obtain⟨f',jx,eY,h3,h4,h5,h6⟩:=bz.Gg ok.2 u hu;exact⟨f',jx,eY,h3,h4,by omega,h6⟩
end
theorem jt {α:Type}{d:α->PyData}{c:Nat}:∀{l:List α},(∀a∈l,(d a).depth<=c)->PyData.depthAll (l.map d)<=c
 | [],_=>by simp[PyData.depthAll]
 | a::l,h=>by
   have h1:=h a Y2;have h2:=jt (l:=l) λb hb=>h b (by simp[hb]);simp only[List.map_cons,PyData.depthAll];omega
theorem Og (p:lq):(fN p).depth<=2:=by
 obtain⟨n,o⟩:=p;cases o <;> simp only[fN,uG,PyData.depth,PyData.depthAll] <;> decide
theorem Vk (r:Int×List lq):(fF r).depth<=5:=by
 have:=jt (d:=fN) (c:=2) (l:=r.2) λp _=>Og p;simp only[fF,PyData.depth,PyData.depthAll];omega
theorem IM (e:Nt):e.d.depth<=5:=by
 obtain⟨n,lo,hi,t,m⟩:=e;cases t <;> cases m <;> simp only[Nt.d,Nt.rn,RN.d,uG,Kz,bR.hd,PyData.depth,PyData.depthAll] <;> decide
theorem QJ (g:Addr->Int)(u:Tr):(u.told g).depth<=8:=by
 cases u with
 | leaf A l h rows=>
   have:=jt (d:=fF) (c:=5) (l:=rows) λr _=>Vk r;simp only[Tr.told,PyData.depth,PyData.depthAll];omega
 | inner A l h aV aM ks=>
   have h1:=jt (d:=PyData.int) (c:=1) (l:=aV) λ_ _=>by simp[PyData.depth]
   have h2:=jt (d:=λt:Tr=>PyData.int (g t.a)) (c:=1) (l:=ks) λ_ _=>by simp[PyData.depth]
   have h3:=jt (d:=Nt.d) (c:=5) (l:=aM) λe _=>IM e;simp only[Tr.told,PyData.depth,PyData.depthAll];exact Nat.succ_le_succ (pd.mpr ⟨by decide,pd.mpr ⟨by decide,pd.mpr ⟨Nat.succ_le_succ (cw h1 Y1),pd.mpr ⟨Nat.succ_le_succ (cw h2 Y1),pd.mpr ⟨Nat.succ_le_succ (cw h3 Y1),by decide⟩⟩⟩⟩⟩)
theorem Oh {a c:Int}{f:Nat}{fr:Int}{t:Tr}(wo:OL a b c pl f last ms fr g t):'s'.showable=true/\'s'.hasDict=false/\'s'.depth<=60/\'s'.shown.length<=sizeLine:=by
 have f3:=wo.f3;have la:=wo.la;have ff:=wo.fr;have ra:=wo.rl.a;have rb:=wo.rl.b;have rc:=wo.rl.c;have NZ:t.pre.length<=85:=by
   have h1:=wo.ok.i0.1;rw[cG,ab]at h1;have h2:sz f<=85:=by
     have:f=0∨f=1∨f=2∨f=3:=X2
     rcases this with rfl | rfl | rfl | rfl <;> decide
   omega
 have gr:∀v∈t.pre,0<=g v.a/\g v.a<=10 ^ 12:=λv hv=>by
   have:=wo.gr v.a (by rw[cG];exact cx hv);omega
 have nt:∀u∈t.pre,c7 (u.told g)=true/\wt (u.told g)<=500:=λu hu=>by
   obtain⟨f',jx,eY,h1,h2,h3,h4⟩:=wo.ok.Gg u hu;obtain⟨j,hj⟩:=mB hu;refine KY h1 X2 h3 h4 λv hv=>?_;rcases List.mem_cons.mp hv with rfl | hv
   . exact gr _ hu
   . exact gr v (xn (o9 t j u hj v hv))
 have w1:=jr (d:=PyData.int) (c:=1) (l:=ms) λ_ _=>by simp[wt]
 have w2:=jr (d:=Tr.told g) (c:=500) λu hu=>(nt u hu).2;have ml:=wo.ml;have np:c7 (.str pl)=true:=by rcases wo.rl.p with e | e <;> rw[e] <;> decide +kernel
 have n:c7 's'=true:=by
   simp only[jB,c7,bN,lj,cp,Iy]at np ⊢;exact⟨⟨small X2 X2,small X2 X2,small X2 X2,np⟩,small X2 X2,fq λm hm=>sC (small (by have:=wo.mr m hm;omega) (by have:=wo.mr m hm;omega)),small X2 X2,fq λu hu=>(nt u hu).1⟩
 have w:wt 's'<=50000:=by
   simp only[jB,wt,dG];omega
 have d1:=jt (d:=PyData.int) (c:=1) (l:=ms) λ_ _=>by simp[PyData.depth]
 have d2:=jt (d:=Tr.told g) (c:=8) (l:=t.pre) λu _=>QJ g u;have l:=BR n;refine⟨(pA n).1,(pA n).2,?_,by rw[NA];omega⟩;simp only[jB,PyData.depth,PyData.depthAll];exact Nat.succ_le_succ (pd.mpr ⟨by decide,pd.mpr ⟨by decide,pd.mpr ⟨Nat.succ_le_succ (cw d1 Y1),pd.mpr ⟨by decide,pd.mpr ⟨Nat.succ_le_succ (cw d2 Y1),by decide⟩⟩⟩⟩⟩)
theorem Oi {v:V}:List.lookup ("last":Str) (vp v n h)=some (.int n):=by
 have k1:(("last":Str)=="rule")=false:=X9
 simp only[vp,List.lookup,k1,Hn]
theorem Oj {v:V}:List.lookup ("rule":Str) (vp v n h)=some v:=by simp only[vp,List.lookup,Hn]
theorem KZ {v:V}{k o t:Addr}:List.lookup ("fresh":Str) (KS v k n o t)=some (.int n):=by
 have k1:(("fresh":Str)=="rule")=false:=X9
 have k2:(("fresh":Str)=="kept")=false:=X9
 simp only[KS,List.lookup,k1,k2,Hn]
theorem BS {v:V}(k1:(m=="rule")=false)(k2:(m=="last")=false)(k3:(m=="house")=false)(k4:(m=="runs")=false):List.lookup m (vp v n h)=none:=by
 simp only[vp,List.lookup,k1,k2,k3,k4]
inductive IP (K:Frag)(cS cH cL cI:Addr)(vs:List V)(H:Hp)(Q:VK)(E9:XK):Prop
 | mk (x a b c pl last fr:_) (g:Addr->Int) (t:Tr) (ms:List Int) (_:vs=[.ref x]) (_:Lc K cS cH cL cI H x a b c pl last ms fr g t) (_:∀D H',new K H D->H' D=some (.lst (ms.map V.int))->Ext K H H'->Q (.ref D) H')
include B in
theorem yg (F:bT K "marks" "Store.marks" pX f fd)(SC:Vg K aS)(HC:Vf K aX):(!0) 1 f fd ["self"] (IP K aS aX aI av):=by
 exists 0,["self"]
 obtain⟨x,a,b,c,pl,last,fr,g,t,ms,rfl,⟨dx,h,dh,R,kp,o,tr,s1,s2,s3,s4,s5'⟩,q⟩:=h;refine⟨_,(aE (aR (cX (gA K) rfl B.list cA (aa (j7 (dH (jm (j7 (dH cN))))) ah)))),?_⟩
 ext
 exact⟨_,_,_,s1,SC.cl,SC.xW,_,kL,h,rfl,_,_,_,s2,HC.cl,HC.kept,_,DR,kp,rfl,_,aJ s4,λl nl=>q l _ nl af (Ext.new nl)⟩
inductive Sv (K:Frag)(vs:List V)(H:Hp)(Q:VK)(E9:XK):Prop
 | mk (W M:_) (aB:List (Key×V)) (ms:List Int) (_:vs=[.ref W]) (_:H W=some (.dK aB)) (_:c8 aB (.inr "marks")=some (.ref M)) (_:H M=some (.lst (ms.map V.int))) (_:ms.length<=1000) (_:∀D H',new K H D->H' D=some (.lst ((ms.map some++[none]).map on))->Ext K H H'->Q (.ref D) H')
include B in
theorem DT (F:bT K "_law_ats" "_law_ats" xg f fd):(!0) 1 f fd ["_law_world_here"] (Sv K):=by
 exists 0,["_law_world_here"]
 obtain⟨W,M,aB,ms,rfl,hW,hv,hM,lm,q⟩:=h;refine⟨_,(aE (aR (cB cR 'q' (jG (aa jQ ah))))),?_⟩
 ext
 refine⟨_,qA hW hv,λp np=>⟨M,rfl,_,(Ext.new np).at hM,by rw[ab];omega,λD nD=>q D _ (bB (Ext.new np) nD) ?_ ((Ext.new np).trans (Ext.new nD))⟩⟩;rw[af,bj,dq];rfl
inductive Sw (K:Frag)(cS cH cL cI:Addr)(vs:List V)(H:Hp)(Q:VK)(E9:XK):Prop
 | mk (x a b c pl f last fr:_) (g:Addr->Int) (t:Tr) (ms:List Int) (_:vs=[.ref x]) (_:Lc K cS cH cL cI H x a b c pl last ms fr g t) (_:OL a b c pl f last ms fr g t) (_:∀v H',aL K H H' 's' v->Ext K H H'->Q v H')
inductive Ol (K:Frag)(cL cI:Addr)(vs:List V)(H:Hp)(Q:VK)(E9:XK):Prop
 | mk (t:Tr) (o) (g:Addr->Int) (a b c f) (_:vs=[.ref o]) (_:iS K cL cI H g t o) (_:bq a b c t f 0 (10 ^ 12)) (_:f<=3) (_:∀W us H',new K H W->H' W=some (.lst us)->ai K H H' (t.pre.map (Tr.told g)) us->Ext K H H'->Q (.ref W) H')
include B in
theorem yh (F:bT K "image" "Store.image" pY f fd)(SC:Vg K aS)(HC:Vf K aX)(ue:⋯ "roll_of" 4 ["top"] (Ol K aI av))(ju:j6 P w K mg base aS "marks" 1 ["self"] [] (IP K aS aX aI av)):(!0) 5 f fd ["self"] (Sw K aS aX aI av):=by
 exists 0,["self"]
 obtain⟨x,a,b,c,pl,f,last,fr,g,t,ms,rfl,so,wo,q⟩:=h;have Vl:=so;obtain⟨dx,h,dh,R,kp,o,tr,s1,s2,s3,s4,s5'⟩:=Vl;have iu:=SC.cl;refine⟨_,(aE (aR (mK (aa (j7 (dH cN)) (aa (j7 (dH cN)) (aa (MJ ju iu (rm hr) bg) (aa (j7 (dH (jm (j7 (dH cN))))) (aa (ec ue hr (aa (j7 (dH (jm (j7 (dH cN))))) ah)) ah)))))))),?_⟩
 ext
 refine⟨_,_,_,s1,SC.cl,SC.rule,_,Oj,_,_,_,s1,SC.cl,SC.last,_,Oi,_,_,s1,BS X9 X9 X9 X9,x,a,b,c,pl,last,fr,g,t,ms,rfl,so,λD H1 nD hD x1=>⟨_,_,_,x1.at s1,SC.cl,SC.xW,_,kL,h,rfl,_,_,_,x1.at s2,HC.cl,HC.fresh,_,KZ,_,_,_,x1.at s1,SC.cl,SC.xW,_,kL,h,rfl,_,_,_,x1.at s2,HC.cl,HC.top,_,vq,t,o,g,a,b,c,f,rfl,s5'.ext x1,wo.ok,wo.f3,λW us H2 nW hW aW x2 T nT=>?_⟩⟩;have xT:=bM (.tup [V.ref R,V.int last,V.ref D,V.int fr,V.ref W]) nT;have x3:=x2.trans xT;refine q _ _ ?_ (x1.trans x3);exact aL.tt.mpr ⟨T,_,rfl,aF,ai.cons (aL.tt.mpr ⟨R,_,rfl,(x1.trans x3).tup s3,ai.cons (aL.ii.mpr rfl) (ai.cons (aL.ii.mpr rfl) (ai.cons (aL.ii.mpr rfl) (ai.cons (aL.ss.mpr rfl) ai.nil)))⟩) (ai.cons (aL.ii.mpr rfl) (ai.cons (aL.ll.mpr ⟨D,_,rfl,nD,x3.at hD,ai.lK ms⟩) (ai.cons (aL.ii.mpr rfl) (ai.cons (aL.ll.mpr ⟨W,us,rfl,bB x1 nW,xT.at hW,(aW.ext xT).old x1⟩) ai.nil))))⟩
def Ar:Stmt->List Stmt
 | .While _ b _ _=>b
 | _=>[]
def Eg (K:Frag)(H:Hp)(u:V)(o:Addr):Prop:=∃T l h,u=.ref T/\tupQ K H T=some [.ref o,.int l,.int h]
theorem Eg.ext {o:Addr}(r:Eg K H u o)(x:Ext K H H'):Eg K H' u o:=by
 obtain⟨T,l,h,e,t⟩:=r;exact⟨T,l,h,e,x.tup t⟩
theorem Eg.upd {o:Addr}{ys:List V}(r:Eg K H u o)(hD:H D=some (.lst xs)):Eg K (upd H D (.lst ys)) u o:=by
 obtain⟨T,l,h,e,t⟩:=r;exact⟨T,l,h,e,(Kp.upd hD).tup hD t⟩
inductive Om (K:Frag)(cI:Addr)(vs:List V)(H:Hp)(Q:VK)(E9:XK):Prop
 | mk (o dx n Pv C Y lo hi:_) (os:List Addr) (aV:List Int) (_:vs=[.ref o,.int lo,.int hi]) (_:H o=some (.ins cI dx (Br n Pv C Y))) (_:H Pv=some (.lst (aV.map V.int))) (_:H C=some (.lst (os.map V.ref))) (_:os.length=aV.length + 1) (_:aV.length<=3) (_:∀D us H',new K H D->H' D=some (.lst us)->us.length=os.length->(∀q∈us.zip os,Eg K H' q.1 q.2)->Ext K H H'->Q (.ref D) H')
inductive Oo (K:Frag)(cL cI:Addr)(vs:List V)(H:Hp)(Q:VK)(E9:XK):Prop
 | mk (t:Tr) (o) (g:Addr->Int) (a b c f) (_:vs=[.ref o]) (_:iS K cL cI H g t o) (_:bq a b c t f 0 (10 ^ 12)) (_:f<=3) (_:∀D us os H',new K H D->H' D=some (.lst us)->us.length=os.length->cy K cL cI H g t.pre os->(∀q∈us.zip os,Eg K H' q.1 q.2)->Ext K H H'->Q (.ref D) H')
include B in
theorem BU (F:bT K "all_rooms" "all_rooms" fZ f fd)(jZ:⋯ "children_of" 2 ["room","low","high"] (Om K av)):(!0) 3 f fd ["top"] (Oo K aI av):=by
 exists 0,["top","told","waiting","room","low","high"]
 obtain⟨t,o,g,a,b,c,f,rfl,ho,ok,f3,q⟩:=h;exists 2,fZ,3,aE (aR cF),r4,J4,e4;refine aq (rest:=(Ar ((aj fZ).getD 2 'r')).drop 2) (aE (iV (Ec (ef (jm (bL kW rfl B.isinstance ic (aa gC (aa (jb rfl B.Inner B.NF) ah)))))) (aE (ss 2 nk (cB cR eB (Ur (ec jZ hr (aa gC (aa jA (aa sJ ah)))))))) cD)) λr3 J3 e3=>?_;refine aq (rest:=(Ar ((aj fZ).getD 2 'r')).drop 1) (ao (j4 (Uh PySem.F.plainAttrs_list PySem.F.slot_list_append PySem.F.type_list_append fz cF (aa (mK (aa gC (aa jA (aa sJ ah)))) ah))) J3) λr2 J2 e2=>?_;exists 2,fZ,2,ao (EU PassesOwn.never (vV eB (λ_=>rfl)) (ao (iW (Ug PySem.F.plainAttrs_list PySem.F.slot_list_pop PySem.F.type_list_pop LQ eB) (kX (dF (n:=3) rfl (aA (gn 3 nk) (aA (gn 4 nk) (aA (gn 5 nk) dN)))))) J2)) J4,r1,J1,e1;refine⟨_,(ao (ss 1 nk (jG ah)) (ao (ss 2 nk (jG (aa (mK (aa bg (aa ei (aa (jb rfl B.Yl B.xh) ah)))) ah))) J1)),?_⟩
 ext
 intro D nD T0 nT0 Wt nWt;rw[e1]
 ext
 obtain⟨W,hW⟩:∃W:Nat->St->Hp->Prop,W=λm σ G=>Ex8 λ(i:Nat) (DU:List V) (OM:List Addr) (Wt:Addr) (Z:List (Tr×Addr×V)) (v3 v4 v5:Option V)=>Al9 (rH σ [some (V.ref o),some (V.ref D),some (V.ref Wt),v3,v4,v5]) (m + i=t.pre.length) ((G D=some (.lst DU)/\DU.length=OM.length)) (cy K aI av H g (t.pre.take i) OM) (∀q∈DU.zip OM,Eg K G q.1 q.2) ((G Wt=some (.lst (Z.map (·.2.2)))/\new K H Wt/\D≠Wt)) (∀z∈Z,iS K aI av H g z.1 z.2.1/\Eg K G z.2.2 z.2.1) (c6 (Z.reverse.map (·.1))=t.pre.drop i) (Ext K H G):=⟨_,rfl⟩
 have y1:=bM (.lst []) nD;have y2:=bM (.tup [V.ref o,V.int 0,V.int 1000000000000]) nT0;have y3:=bM (.lst [V.ref T0]) nWt;have yy:=y1.trans (y2.trans y3);have F1:D≠Wt:=ay (y2.at (af (H:=H) (a:=D) (o:=.lst []))) nWt.1;refine⟨W,⟨t.pre.length,?_⟩,λm σ G hw=>?_⟩
 . rw[hW];refine⟨0,[],[],Wt,[(t,o,.ref T0)],none,none,none,rfl,Nat.add_zero _,⟨(y2.trans y3).at af,rfl⟩,by unfold cy;rfl,λq hq=>(by cases hq),⟨af,bB y1 (bB y2 nWt),F1⟩,λz hz=>?_,?_,yy⟩
   . rw[cq.mp hz];exact⟨ho,T0,_,_,rfl,y3.tup aF⟩
   . show t.pre++[]=_;rw[List.append_nil];rfl
 have NZ:t.pre.length<=1000:=by
   have h1:=ok.i0.1;rw[cG,ab]at h1;have h2:sz f<=1000:=by
     have:f=0∨f=1∨f=2∨f=3:=X2
     rcases this with rfl | rfl | rfl | rfl <;> decide
   omega
 rw[hW]at hw;obtain⟨i,DU,OM,Wt,Z,v3,v4,v5,rfl,hm,⟨hD,lu⟩,hos,hrm,⟨Ld,nWt,F1⟩,hZ,hp,xG⟩:=hw
 ext
 rcases mI Z with rfl | ⟨Z0,z,rfl⟩
 . refine⟨false,.inl ⟨_,aQ.of Ld,rfl⟩,aK Y1 ?_⟩;have ei:i=t.pre.length:=by
     have:t.pre.drop i=[]:=hp.symm;have:=List.drop_eq_nil_iff.mp this;omega
   rw[ei,dv]at hos;rw[e4]
   ext
   exact q D DU OM G nD hD lu hos hrm xG
 . rw[List.concat_eq_append]at Ld hZ hp;refine⟨true,.inl ⟨_,aQ.of Ld,by simp⟩,bw rfl ?_⟩;obtain⟨u,oz,uz⟩:=z;obtain⟨hOu,T,l,h,e,hT⟩:=hZ (u,oz,uz) Y2;have e:uz=.ref T:=e;subst e;have Ld:G Wt=some (.lst (Z0.map (·.2.2)++[V.ref T])):=by rw[bj]at Ld;exact Ld
   have Uv:u::(c6 u.kids++c6 (Z0.reverse.map (·.1)))=t.pre.drop i:=by
     rw[<- hp,tf];show _=u.pre++_;rw[iH];rfl
   have iI:i < t.pre.length:=by
     by_cases c:i < t.pre.length
     . exact c
     . rw[List.drop_eq_nil_of_le X2]at Uv;cases Uv
   rw[List.drop_eq_getElem_cons iI]at Uv;obtain⟨eu,ed⟩:=List.cons.inj Uv;have hu:t.pre[i]?=some u:=by rw[a9 iI,eu]
   have et:t.pre.take (i + 1)=t.pre.take i++[u]:=by rw[List.take_add_one,hu];rfl
   obtain⟨f',jx,eY,oku⟩:=ok.pre u (bb hu);have k1:=Kp.upd (K:=K) (o:=.lst (Z0.map (·.2.2))) Ld;have QA:=k1.tup Ld hT;have qv:=k1.keep D _ hD F1;have YX:∀q∈DU.zip OM,Eg K (upd G Wt (.lst (Z0.map (·.2.2)))) q.1 q.2:=λq hq=>(hrm q hq).upd Ld;have hZ1:∀z∈Z0,iS K aI av H g z.1 z.2.1/\Eg K (upd G Wt (.lst (Z0.map (·.2.2)))) z.2.2 z.2.1:=λz hz=>⟨(hZ z (by simp[hz])).1,(hZ z (by simp[hz])).2.upd Ld⟩
   have xN:∀{A:Addr}{G':Hp}{o:HO},new K H A->Ext K H G'->Ext K H (upd G' A o):=λn x=>⟨λr o e=>by rw[au (ay e n.1)];exact x.at e,λr xs e md=>by rw[au (λz=>by rw[z,n.2]at md;cases md)];exact x.mod r xs e md⟩
   have x1:=xN (o:=.lst (Z0.map (·.2.2))) nWt xG;have YT:upd G Wt (.lst (Z0.map (·.2.2))) Wt=some (.lst (Z0.map (·.2.2))):=af;refine⟨W (m - 1),λσ' H' h=>⟨m - 1,by omega,h⟩,.inl ⟨_,aQ.of Ld⟩,_,Ld,.ref T,by simp,T,rfl,_,by rw[rh];exact QA,rfl,_,_,rfl,_,_,rfl,_,_,rfl,rfl,?_⟩;rw[rh,e2];generalize upd G Wt (.lst (Z0.map (·.2.2)))=G1 at QA qv YX hZ1 x1 YT ⊢
   ext
   refine⟨.inl ⟨_,aQ.of qv⟩,λT' nT'=>?_⟩;have xT:=bM (.tup [V.ref oz,V.int l,V.int h]) nT';have VI:DU.length<=1000:=by
     have:=hos.len;rw[eC]at this;omega
   refine⟨_,xT.at qv,eI VI Y1,?_⟩;rw[e3];have kD:=Kp.upd (K:=K) (o:=.lst (DU++[V.ref T'])) (xT.at qv);have lG:upd (upd G1 T' (.tup [V.ref oz,V.int l,V.int h])) D (.lst (DU++[V.ref T'])) D=some (.lst (DU++[V.ref T'])):=af;have VE:=kD.keep Wt _ (xT.at YT) (Ne.symm F1);have x2:=xN (o:=.lst (DU++[V.ref T'])) nD (x1.trans xT);have DQ:cy K aI av H g (t.pre.take (i + 1)) (OM++[oz]):=by rw[et];exact hos.snoc hOu
   have Z9:∀z∈Z0,iS K aI av H g z.1 z.2.1/\Eg K (upd (upd G1 T' (.tup [V.ref oz,V.int l,V.int h])) D (.lst (DU++[V.ref T']))) z.2.2 z.2.1:=λz hz=>⟨(hZ1 z hz).1,((hZ1 z hz).2.ext xT).upd (xT.at qv)⟩
   have Vm:∀q∈(DU++[V.ref T']).zip (OM++[oz]),Eg K (upd (upd G1 T' (.tup [V.ref oz,V.int l,V.int h])) D (.lst (DU++[V.ref T']))) q.1 q.2:=λq hq=>by
     rw[List.zip_append lu]at hq;rcases de.mp hq with hq | hq
     . exact((YX q hq).ext xT).upd (xT.at qv)
     . rw[cq.mp hq];exact⟨T',l,h,rfl,kD.tup (xT.at qv) aF⟩
   have lu2:(DU++[V.ref T']).length=(OM++[oz]).length:=by rw[ar,ar,lu];rfl
   generalize upd (upd G1 T' (.tup [V.ref oz,V.int l,V.int h])) D (.lst (DU++[V.ref T']))=G2 at lG VE x2 Z9 Vm ⊢
   ext
   cases u with
   | leaf A' l' h' rows=>
     have hO:=hOu.ext x2;unfold iS at hO;obtain⟨dx,R,us,H0,h1,_⟩:=hO;refine⟨_,B.tyL h1,false,B.kLI,aK Y1 ?_⟩;rw[hW];exact⟨i + 1,_,_,Wt,Z0,_,_,_,rfl,by omega,⟨lG,lu2⟩,DQ,Vm,⟨VE,nWt,F1⟩,Z9,ed,x2⟩
   | inner A' l' h' aV aM ks=>
     have hO:=hOu;unfold iS at hO;obtain⟨dx,Pv,C,Y,us,os',H0,h1,h2,h3,h4,h5,h6⟩:=hO;unfold bq at oku;obtain⟨_,_,l3,_,g',_,_,tk⟩:=oku;have ZX:=tk.len;have Vi:=h6.len;refine⟨_,B.tyI (x2.at h1),true,B.kII,bw rfl ?_⟩;refine⟨oz,dx,g A',Pv,C,Y,l,h,os',aV,rfl,x2.at h1,x2.at h2,x2.at h3,by omega,l3,λD1 us1 G3 nD1 hD1' lu1 rm1 x3=>?_⟩;have lZ:Z0.length<=1000:=by
       have h1:=sq (Z0.reverse.map (·.1));have h2:=congrArg List.length ed;rw[ab,fb]at h1;rw[ar,km]at h2;omega
     refine⟨D1,rfl,us1,aQ.of hD1',λp np=>⟨Z0.map (·.2.2),(Ext.new np).at (x3.at VE),by rw[ab,fb];omega,λWt' nWt'=>?_⟩⟩;have z3:=x3.trans (bM (.lst us1.reverse) np);have z4:=z3.trans (bM (.lst (Z0.map (·.2.2)++us1.reverse)) nWt');have z5:=(bM (.lst us1.reverse) np).trans (bM (.lst (Z0.map (·.2.2)++us1.reverse)) nWt');have m1:(ks.zip (os'.zip us1)).map (·.2.2)=us1:=by
       rw[show(λq:Tr×Addr×V=>q.2.2)=Prod.snd ∘ Prod.snd from rfl,<- dq,rp (by rw[mN];omega),rp X2]
     have m2:(ks.zip (os'.zip us1)).map (·.1)=ks:=pj (by rw[mN];omega);rw[hW];refine⟨i + 1,DU++[V.ref T'],OM++[oz],Wt',Z0++(ks.zip (os'.zip us1)).reverse,some (V.ref oz),some (V.int l),some (V.int h),rfl,by omega,⟨z4.at lG,lu2⟩,DQ,λq hq=>(Vm q hq).ext z4,⟨by rw[bj,Fn,m1];exact af,bB (x2.trans z3) nWt',ay (z3.at lG) nWt'.1⟩,λz hz=>?_,?_,x2.trans z4⟩
     . rcases de.mp hz with hz | hz
       . exact⟨(Z9 z hz).1,(Z9 z hz).2.ext z4⟩
       . obtain⟨j,hj⟩:=mB (vk.mp hz);rw[dr,dr]at hj;refine⟨h6.zip (z.1,z.2.1) (bb (i:=j) (dr.mpr ⟨hj.1,hj.2.1⟩)),(rm1 (z.2.2,z.2.1) (bb (i:=j) (dr.mpr ⟨hj.2.2,hj.2.1⟩))).ext z5⟩
     . rw[tf,xt,bj,m2,rV];exact ed
include B in
theorem Gh (F:bT K "roll_of" "roll_of" Ai f fd)(oM:⋯ "all_rooms" 3 ["top"] (Oo K aI av))(oO:⋯ "room_told" 2 ["room"] (IL K aI av)):(!0) 4 f fd ["top"] (Ol K aI av):=by
 exists 0,["top"]
 obtain⟨t,o,g,a,b,c,f,rfl,ho,ok,f3,q⟩:=h;refine⟨_,(aE (aR (pP (ck [ "room","low","high" ] [none,none,none]) rfl (kO (bU (jm (ec oM hr (aa bg ah))))) (λ_ _ _ _=>(kX (iK K (n:=3) rfl (aA (gn 0 nk) (aA (gn 1 nk) (aA (gn 2 nk) dN)))))) 'v' (λ_ _ _ _=>(ec oO hr (aa bg ah)))))),?_⟩
 ext
 refine⟨t,o,g,a,b,c,f,rfl,ho,ok,f3,λD us os H1 nD hD lu hos hrm x1=>?_⟩;have Vi:=hos.len;have NZ:t.pre.length<=1000:=by
   have h1:=ok.i0.1;rw[cG,ab]at h1;have h2:sz f<=1000:=by
     have:f=0∨f=1∨f=2∨f=3:=X2
     rcases this with rfl | rfl | rfl | rfl <;> decide
   omega
 refine⟨D,rfl,⟨_,aQ.of hD⟩,λN nN=>fQ (xs:=us) (λi acc σ G=>ZD λ(v0 v1 v2:Option V)=>VC (rH σ [v0,v1,v2]) (G N=some (.lst acc)) (acc.length=i) (ai K (upd H1 N (.lst [])) G ((t.pre.take i).map (Tr.told g)) acc) (Kp K N (upd H1 N (.lst [])) G)) ⟨_,_,_,rfl,af,rfl,ai.nil,Kp.refl⟩ ?_ ?_ ?_⟩
 . rintro i acc σ G _ ⟨v0,v1,v2,rfl,_,_,_,k⟩;exact aQ.of ((k.ext nN).at hD)
 . rintro i x acc σ G hx ⟨v0,v1,v2,rfl,hN,la,ha,k⟩;have hi:i < us.length:=(bo.mp hx).1;obtain⟨oj,hoj⟩:∃oj,os[i]?=some oj:=⟨_,a9 X2⟩
   obtain⟨u,hu⟩:∃u,t.pre[i]?=some u:=⟨_,a9 X2⟩
   obtain⟨f',jx,eY,oku⟩:=ok.pre u (bb hu);have xG:=k.ext nN;obtain⟨T,l,h,e,hT⟩:=(hrm (x,oj) (bb (i:=i) (dr.mpr ⟨hx,hoj⟩))).ext xG;have e:x=.ref T:=e;subst e;obtain⟨oj',eo,hO⟩:=hos.at hu;rw[hoj]at eo;cases eo;simp_arith [hT];refine⟨u,oj,g,a,b,c,f',jx,eY,rfl,hO.ext (x1.trans xG),oku,λv G2 at2 x2=>?_⟩;have hN2:=x2.at hN;have Qn:=at2.qx λa n=>dX k hN n;refine⟨hN2,by rw[la];exact cm hi (cw (show us.length<=1000 by omega) Y1),_,_,_,rfl,trivial,by rw[ar,la];rfl,?_,k.trans (x2.kp.trans (Kp.upd hN2))⟩;rw[List.take_add_one,hu,fi];exact((ha.ext x2).map Qn).fr (Fr.kp (K:=K) (H0:=upd H1 N (.lst [])) af hN2 (Kp.upd hN2))
 . rintro acc σ G ⟨v0,v1,v2,rfl,hN,la,ha,k⟩;rw[show us.length=t.pre.length by omega,dv]at ha;exact q N acc G (bB x1 nN) hN ((ha.old (Ext.new nN)).old x1) (x1.trans (k.ext nN))
inductive Sx (K:Frag)(cI:Addr)(vs:List V)(H:Hp)(Q:VK)(E9:XK):Prop
 | mk (o dx n Pv C Y lo hi:_) (aV:List Int) (_:vs=[.ref o,.int lo,.int hi]) (_:H o=some (.ins cI dx (Br n Pv C Y))) (_:H Pv=some (.lst (aV.map V.int))) (_:aV.length<=3) (_:∀D H',∀L:List Addr,new K H D->H' D=some (.lst (L.map V.ref))->L.length=aV.length + 1->(∀T∈L,∃l h:Int,H' T=some (.tup [.int l,.int h]))->Ext K H H'->Q (.ref D) H')
include B in
theorem BV (F:bT K "stretches" "stretches" nG f fd):(!0) 1 f fd ["room","low","high"] (Sx K av):=by
 exists 0,["room","low","high","edges"]
 obtain⟨o,dx,n,Pv,C,Y,lo,hi,aV,rfl,h1,h2,l3,q⟩:=h;exists 2,nG,1,aE (aR (Kn rfl rfl B.list rfl B.zip (aa gC (aa (vS m7 gC (zB ei) GO) ah)))),r1,J1,e1;refine⟨_,(ao (ss 3 nk (cB cR (cB cR (jG (aa cF ah)) (j7 (dH cN))) (jG (aa eB ah)))) J1),?_⟩
 ext
 intro p np;have x1:=bM (.lst [V.int lo]) np;refine⟨_,_,_,x1.at h1,B.cI,B.nI.2.1,_,BE,Pv,rfl,_,x1.at h2,by rw[ab];omega,λp1 np1 p2 np2=>⟨_,(Ext.new np2).at af,by rw[List.length_cons,ab];omega,λp3 np3=>?_⟩⟩;have x2:=bM (.lst (V.int lo::aV.map V.int)) np1;have x3:=x1.trans (x2.trans ((Ext.new np2).trans (bM (.lst (V.int lo::aV.map V.int++[V.int hi])) np3)));have h3:upd (upd (upd (upd H p (.lst [V.int lo])) p1 (.lst (V.int lo::aV.map V.int))) p2 (.lst [V.int hi])) p3 (.lst (V.int lo::aV.map V.int++[V.int hi])) p3=some (.lst ((lo::aV++[hi]).map V.int)):=by rw[af,bj];rfl
 rw[e1];generalize upd (upd (upd (upd H p (.lst [V.int lo])) p1 (.lst (V.int lo::aV.map V.int))) p2 (.lst [V.int hi])) p3 (.lst (V.int lo::aV.map V.int++[V.int hi]))=G at x3 h3 ⊢
 ext
 refine⟨_,aQ.of h3,λp4 np4=>?_⟩;have ec:ql ((lo::aV++[hi]).map V.int) (some 1) none=(aV++[hi]).map V.int:=by
   exact sZ _ 1
 rw[ec];have x4:=bM (.lst ((aV++[hi]).map V.int)) np4;refine⟨_,aQ.of (x4.at h3),_,aQ.of af,aV.length + 1,by simp,by simp,by omega,by omega,λD L H' nD lL _ _ hD x5 hT=>?_⟩;have x6:=x3.trans x4;refine q D H' L (bB x6 nD) hD lL (λT hm=>?_) (x6.trans x5);obtain⟨j,hj⟩:=mB hm;have iI:j < aV.length + 1:=lL ▸ (bo.mp hj).1;obtain⟨a,ea⟩:∃a,(lo::aV++[hi])[j]?=some a:=⟨_,a9 aaa⟩
 obtain⟨b,eb⟩:∃b,(aV++[hi])[j]?=some b:=⟨_,a9 aaa⟩
 have:=(hT j T hj).2;simp only[ax,ea,eb,Option.map_some,Option.getD_some]at this;exact⟨a,b,this⟩
include B in
theorem yi (F:bT K "children_of" "children_of" pV f fd)(oQ:⋯ "stretches" 1 ["room","low","high"] (Sx K av)):(!0) 2 f fd ["room","low","high"] (Om K av):=by
 exists 0,["room","low","high"]
 obtain⟨o,dx,n,Pv,C,Y,lo,hi,os,aV,rfl,h1,h2,h3,jx,l3,q⟩:=h;refine⟨_,(aE (aR (pP (ck [ "child","first","end" ] [none,none,none]) rfl (R4 rfl B.zip (aa (j7 (dH cN)) (aa (ec oQ hr (aa bg (aa cF (aa eB ah)))) ah))) (λ_ _ _ _=>(kX (iK K (n:=2) rfl (aA (gn 0 nk) (aA (kX (iK K (n:=2) rfl (aA (gn 1 nk) (aA (gn 2 nk) dN)))) dN))))) 'v' (λ_ _ _ _=>(RG (qm K (am (aa bg (aa cF (aa eB ah)))))))))),?_⟩
 ext
 refine⟨_,_,_,h1,B.cI,B.nI.2.2.1,_,Ge,o,dx,n,Pv,C,Y,lo,hi,aV,rfl,h1,h2,l3,λS H1 L nS hS lL hT x1=>⟨C,rfl,S,rfl,⟨_,aQ.of (x1.at h3)⟩,⟨_,aQ.of hS⟩,λD nD=>?_⟩⟩;have xD:=bM (.lst []) nD;refine Uy (xs:=os.map V.ref) (ys:=L.map V.ref) (λi acc σ G=>ZD λ(v0 v1 v2:Option V)=>VC (rH σ [v0,v1,v2]) (G D=some (.lst acc)) (acc.length=i) (∀q∈acc.zip os,Eg K G q.1 q.2) (Kp K D (upd H1 D (.lst [])) G)) (by rw[ab,ab];omega) ⟨_,_,_,rfl,af,rfl,λq hq=>(by cases hq),Kp.refl⟩ ?_ ?_ ?_
 . rintro i acc σ G _ ⟨v0,v1,v2,rfl,_,_,_,k⟩;exact⟨aQ.of ((k.ext nD).at (x1.at h3)),aQ.of ((k.ext nD).at hS)⟩
 . rintro i x y acc σ G T hx hy ⟨v0,v1,v2,rfl,hD,la,hr,k⟩ nT;rw[ax]at hx hy;obtain⟨oi,hoi,rfl⟩:=bp.mp hx;obtain⟨Ti,hTi,rfl⟩:=bp.mp hy;obtain⟨l,h,hl⟩:=hT Ti (bb hTi);have xT:=bM (.tup [V.ref oi,V.ref Ti]) nT;have Xi:=Cu (K:=K) (xT.at ((k.ext nD).at hl))
   ext
   refine⟨_,Xi,rfl,_,_,rfl,_,_,rfl,rfl,λp np=>?_⟩;have xp:=xT.trans (bM (.tup [V.ref oi,V.int l,V.int h]) np);have lG:=xp.at hD;have hi:i < os.length:=(bo.mp hoi).1;refine⟨lG,by omega,_,_,_,rfl,trivial,by rw[ar,la];rfl,λz hz=>?_,k.trans (xp.kp.trans (Kp.upd lG))⟩;obtain⟨j,hj⟩:=mB hz;rw[dr]at hj;rcases Nat.lt_or_ge j acc.length with c | c
   . rw[gN c]at hj;exact((hr z (bb (i:=j) (dr.mpr hj))).ext xp).upd lG
   . have hjl:=(bo.mp hj.1).1;rw[ar,lx]at hjl;have ej:j=i:=X2
     rw[i5 c,ej,la,ub,hoi]at hj;obtain⟨z1,z2⟩:=z;cases hj.1;cases hj.2;exact Eg.upd ⟨p,l,h,rfl,aF⟩ lG
 . rintro acc σ G ⟨v0,v1,v2,rfl,hD,la,hr,k⟩;exact q D acc G (bB x1 nD) hD (by rw[la,ab]) hr (x1.trans (k.ext nD))
def yj (k:Int)(o:Option Int):Tr->List PyData
 | .leaf _ _ _ rows=>(gq rows k).map fN
 | .inner _ _ _ _ aM _=>((aM.filter λe=>cut o e.n).filter λe=>e.has k).map Nt.d
def b9 (g:Addr->Int)(k:Int)(o:Option Int)(u:Tr):PyData:=.tuple [.int (g u.a),.list (yj k o u)]
theorem yl {k:Int}{u:Tr}{v:V}(p:aL K H0 H (b9 g k o u) v):∃(T l:Addr) (ys:List V),v=.ref T/\tupQ K H T=some [.int (g u.a),.ref l]/\new K H0 l/\H l=some (.lst ys)/\ai K H0 H (yj k o u) ys:=by
 obtain⟨T,ws,e,hT,hu⟩:=aL.tt.mp p;simp only[ai.cc,ai.nn,aL.ii,aL.ll]at hu;obtain⟨v1,r1,rfl,rfl,v2,r2,rfl,⟨l,ys,rfl,n,hl,al⟩,rfl⟩:=hu;exact⟨T,l,ys,e,hT,n,hl,al⟩
theorem ai.picked {d:α->PyData}{p:α->Bool}{L:List (V×α)}(h:∀q∈L,aL K H0 H (d q.2) q.1):ai K H0 H (((L.map (·.2)).filter p).map d) ((L.filter λq=>p q.2).map (·.1)):=by
 induction L with
 | nil=>exact ai.nil
 | cons q L ih=>
   have ih:=ih λr hr=>h r (bc _ hr);rw[List.map_cons];cases e:p q.2 with
   | true=>
     rw[ui e,ui (p:=λq:V×α=>p q.2) e,List.map_cons,List.map_cons];exact ai.cons (h q cb) ih
   | false=>
     rw[uj (by rw[e];decide),uj (p:=λq:V×α=>p q.2) (by rw[e];decide)];exact ih
inductive IQ (K:Frag)(cH cL cI:Addr)(vs:List V)(H:Hp)(Q:VK)(E9:XK):Prop
 | mk (h dh v kp n o tr:_) (t:Tr) (g:Addr->Int) (a b c f lo hi) (k:Int) (at':Option Int) (ms:List Int) (_:vs=[.ref h,.int k,on at']) (_:H h=some (.ins cH dh (KS v kp n o tr))) (_:H kp=some (.lst (ms.map V.int))) (_:iS K cL cI H g t o) (_:bq a b c t f lo hi) (_:f<=3) (_:0<=k) (_:k < 10 ^ 12) (_:(∀m,at'=some m->m∈ms)) (_:∀ts T L items H1 H',Path k t ts->ai K H H1 (ts.map (b9 g k at')) items->new K H1 L->H' L=some (.lst items)->Ext K H1 H'->tupQ K H' T=some [on (cJ k at' ts),.ref L]->Ext K H H1->Q (.ref T) H')
include B in
theorem DV (F:bT K "read_way" "read_way" kY f fd)(HC:Vf K aX)(gf:⋯ "check_key" 4 ["thing"] BL)(fJ:⋯ "check_mark" 2 ["house","at"] (yf K aX))(g9:⋯ "rooms_to" 2 ["top","key"] (BH K aI av))(g8:⋯ "touching" 2 ["tray","key"] (BC K))(pq:⋯ "up_to" 1 ["tray","at"] (Vh K))(eK:⋯ "versions_in" 1 ["leaf","key"] (yd K aI))(fK:⋯ "told_value" 4 ["top","key","at"] (BI K aI av)):(!0) 5 f fd ["house","key","at"] (IQ K aX aI av):=by
 exists 0,["house","key","at","inners","leaf","rooms"]
 obtain⟨h,dh,v,kp,n,o,tr,t,g,a,b,c,f,lo,hi,k,at',ms,rfl,hh,hk,ho,ok,f3,k0,k1,hm,q⟩:=h;exists 2,kY,4,aE (aR (mK (aa (ec fK hr (aa (j7 (dH cN)) (aa cF (aa eB ah)))) (aa (cB cR sJ (jG (aa (mK (aa (j7 (dH ZJ)) (aa (ec eK hr (aa jA (aa cF ah))) ah))) ah))) ah)))),r4,J4,e4;exists 2,kY,3,ao (Zn (i:=5) nk rfl (Or.inl rfl) (ck [ "room","key","at" ] [none,some 1,some 2]) rfl (kO (bU Qj)) 'j' 'v' (λ_ _ _ _=>(RG (qm K (am (aa (j7 (dH cN)) (aa (ec g8 hr (aa (ec pq hr (aa (j7 (dH cN)) (aa eB ah))) (aa cF ah))) ah))))))) J4,r3,J3,e3;refine⟨_,(ao (j4 (ec gf hr (aa cF ah))) (ao (j4 (ec fJ hr (aa bg (aa eB ah)))) (ao (iW (ec g9 hr (aa (j7 (dH cN)) (aa cF ah))) (MM (n:=2) (i:=0) rfl (MN (gn 3 nk) (aA (gn 4 nk) dN)))) J3))),?_⟩
 ext
 refine⟨k,rfl,k0,k1,h,dh,v,kp,n,o,tr,at',ms,rfl,hh,hk,hm,_,_,_,hh,HC.cl,HC.top,_,vq,t,o,k,g,a,b,c,f,lo,hi,rfl,ho,ok,f3,λD0 os ts H1 YU pt hos x1=>?_⟩;obtain⟨ins,A',l',h',rows,ets⟩:=pt.ends;have lts:=pt.i0 ok;have Vi:=hos.len;have Z8:ins.length + 1=ts.length:=by rw[ets,ar];rfl
 obtain⟨io,ol,rfl⟩:∃io ol,os=io++[ol]:=by
   rcases mI os with e | ⟨io,ol,e⟩
   . rw[e,List.length_nil]at Vi;omega
   . exact⟨io,ol,by rw[e];simp⟩
 have YV:io.length=ins.length:=by
   rw[ar,lx]at Vi;omega
 obtain⟨ol',eol,hol⟩:=hos.at (i:=ins.length) (u:=.leaf A' l' h' rows) (by rw[ets];simp);rw[<- YV,i5 (ag _),ub]at eol;cases eol;have et:List.take ((List.map V.ref (io++[ol])).length + 1 - 2) (List.drop 0 (List.map V.ref (io++[ol])))=io.map V.ref:=Y2
 have ed:List.drop ((List.map V.ref (io++[ol])).length + 1 - 2) (List.drop 0 (List.map V.ref (io++[ol])))=[V.ref ol]:=Y2
 refine⟨D0,rfl,_,aQ.of YU,by simp,λD nD=>⟨.ref D,[.ref ol],by rw[ed];rfl,.ref ol,[],rfl,rfl,?_⟩⟩;rw[et,e3];have xD:=bM (.lst (io.map V.ref)) nD;have hD:upd H1 D (.lst (io.map V.ref)) D=some (.lst (io.map V.ref)):=af;have DQ:=hos.ext xD;have KW:=hol.ext xD;have x2:=x1.trans xD;clear nD xD hos hol;generalize upd H1 D (.lst (io.map V.ref))=G at hD DQ KW x2 ⊢
 ext
 refine⟨⟨_,aQ.of hD⟩,λS nS=>?_⟩;obtain⟨G1,hG1⟩:∃G1,G1=upd G S (.lst []):=⟨_,rfl⟩
 have hS:G1 S=some (.lst []):=by rw[hG1];exact af
 have QK:∀{G':Hp},Kp K S G1 G'->Ext K G G':=λk=>by rw[hG1]at k;exact k.ext nS
 rw[<- hG1];refine fQ (xs:=io.map V.ref) (λi acc σ G'=>Yd λ(v0:Option V)=>Al4 (rH σ [v0,some (V.int k),some (on at')]) (G' S=some (.lst acc)) (ai K G1 G' ((ts.take i).map (b9 g k at')) acc) (Kp K S G1 G')) ⟨none,rfl,hS,ai.nil,Kp.refl⟩ ?_ ?_ ?_
 . rintro i acc σ G' _ ⟨v0,rfl,_,_,kG⟩;exact aQ.of ((QK kG).at hD)
 . rintro i x acc σ G' hx ⟨v0,rfl,K4,al,kG⟩;rw[ax]at hx;obtain⟨oj,hoj,rfl⟩:=bp.mp hx;have hi:i < io.length:=(bo.mp hoj).1;have hit:i < ts.length:=X2
   have IJ:=a9 hit;obtain⟨A2,l2,YG,aV,aM,ks,eu⟩:=pt.inn i _ IJ X2;obtain⟨f',jx,eY,oku⟩:=pt.ok ok _ (bb IJ);rw[eu]at oku IJ;obtain⟨oj',eoj,QH⟩:=DQ.at IJ;rw[gN hi,hoj]at eoj;cases eoj;have QH:=QH.ext (QK kG);unfold iS at QH;obtain⟨dx',Pv,C,Y,us',os',H0',k1',k2,k3,k4,k5,_⟩:=QH;unfold bq at oku;obtain⟨_,_,_,_,g',_,ty,_⟩:=oku;obtain⟨L,z1,z2,hL⟩:=ai.zip (d:=Nt.d) k5;rw[z1]at k4;have tl:=ty.l.1;rw[z2,ab]at tl
   ext
   refine⟨_,_,_,k1',B.cI,B.nI.1,_,BF,_,_,_,k1',B.cI,B.nI.2.2.2,_,yb,Y,L,at',rfl,k4,λq hq=>(ya (hL q hq)).a,by omega,λD1 H1' qv xa=>⟨D1,L.filter λq=>cut at' q.2.n,k,rfl,qv,λq hq=>(ya ((hL q (ib.mp hq).1).ext xa)).a,cw (i3 _ _) X2,λD2 H2 nD2 lG xb T nT=>?_⟩⟩;have xT:=bM (.tup [V.int (g A2),V.ref D2]) nT;have x3:=xa.trans (xb.trans xT);have nD:=dX (kG.trans xa.kp) (xa.at K4) nD2;have it:aL K G1 (upd H2 T (.tup [V.int (g A2),V.ref D2])) (b9 g k at' (.inner A2 l2 YG aV aM ks)) (.ref T):=by
     unfold b9;refine aL.tt.mpr ⟨T,_,rfl,aF,ai.cons (aL.ii.mpr rfl) (ai.cons (aL.ll.mpr ⟨D2,_,rfl,nD,xT.at lG,?_⟩) ai.nil)⟩;rw[z2];show ai K _ _ ((((L.map (·.2)).filter λe=>cut at' e.n).filter λe=>e.has k).map Nt.d) _;rw[tj];exact ai.picked (p:=λe:Nt=>e.has k) λq hq=>((hL q (ib.mp hq).1).ext x3).flat (vn _)
   refine⟨x3.at K4,by rw[al.len,ab,eC];omega,_,rfl,trivial,?_,kG.trans (x3.kp.trans (Kp.upd (x3.at K4)))⟩;rw[List.take_add_one,IJ,fi,bj];exact ai.kp hS (x3.at K4) (Kp.upd (x3.at K4)) ((al.ext x3).snoc it)
 . rintro acc σ G' ⟨v0,rfl,K4,al,kG⟩;rw[ab]at al;rw[e4]
   ext
   have xG:=x2.trans (QK kG);refine⟨_,_,_,xG.at hh,HC.cl,HC.top,_,vq,t,o,k,g,a,b,c,f,lo,hi,at',rfl,ho.ext xG,ok,f3,λts' G2 pt' xa=>?_⟩;rw[pt'.one pt];have YY:=KW.ext ((QK kG).trans xa);unfold iS at YY;obtain⟨dx,R,us,H0,h1,h2,h3⟩:=YY;refine⟨_,_,_,h1,B.cL,B.nL.1,_,BG,ol,dx,_,R,us,H0,k,rows,rfl,h1,h2,h3,λDv ws G3 nDv hDv aDv xb=>?_⟩;intro p np p1 np1;have xp:=bM (.tup [V.int (g A'),V.ref Dv]) np;have xp1:=bM (.lst [V.ref p]) np1;have xx:=xp.trans xp1;have x5:=xa.trans (xb.trans xx);refine⟨acc,x5.at K4,by rw[al.len,ab,eC];omega,λp2 np2 p3 np3=>?_⟩;have e2:ts=ts.take io.length++[.leaf A' l' h' rows]:=by rw[ets,YV,List.take_left]
   have K0:=(al.ext x5).old (x2.trans (QK Kp.refl));have lf:aL K H (upd (upd G3 p (.tup [V.int (g A'),V.ref Dv])) p1 (.lst [V.ref p])) (b9 g k at' (.leaf A' l' h' rows)) (.ref p):=by
     unfold b9;exact aL.tt.mpr ⟨p,_,rfl,xp1.tup aF,ai.cons (aL.ii.mpr rfl) (ai.cons (aL.ll.mpr ⟨Dv,ws,rfl,bB (xG.trans xa) nDv,xx.at hDv,(aDv.flat (gY rX _)).ext xx⟩) ai.nil)⟩
   have al2:=K0.snoc lf;have e3:(ts.take io.length).map (b9 g k at')++[b9 g k at' (.leaf A' l' h' rows)]=ts.map (b9 g k at'):=by rw[e2,bj,<- e2];rfl
   rw[e3]at al2;have x2':=bM (.lst (acc++[V.ref p])) np2;have x3':=bM (.tup [on (cJ k at' ts),V.ref p2]) np3;exact q ts p3 p2 _ _ _ pt al2 np2 (x3'.at af) (x2'.trans x3') aF (xG.trans x5)
inductive BW (K:Frag)(cS cH cL cI:Addr)(vs:List V)(H:Hp)(Q:VK)(E9:XK):Prop
 | mk (x a b c pl last fr:_) (g:Addr->Int) (t:Tr) (f lo hi) (k:Int) (at':Option Int) (ms:List Int) (_:vs=[.ref x,.int k,on at']) (_:Lc K cS cH cL cI H x a b c pl last ms fr g t) (_:bq a b c t f lo hi) (_:f<=3) (_:0<=k) (_:k < 10 ^ 12) (_:(∀m,at'=some m->m∈ms)) (_:∀ts T L items H1 H',Path k t ts->ai K H H1 (ts.map (b9 g k at')) items->new K H1 L->H' L=some (.lst items)->Ext K H1 H'->tupQ K H' T=some [on (cJ k at' ts),.ref L]->Ext K H H1->Q (.ref T) H')
include B in
theorem sE (F:bT K "way" "Store.way" uD f fd)(SC:Vg K aS)(jN:oX P w K mg base "read_way" 5 ["house","key","at"] ["at"] 2 1 (IQ K aX aI av)):(!0) 6 f fd ["self","key","at"] (BW K aS aX aI av):=by
 exists 0,["self","key","at"]
 obtain⟨x,a,b,c,pl,last,fr,g,t,f,lo,hi,k,at',ms,rfl,⟨dx,h,dh,R,kp,o,tr,s1,s2,s3,s4,s5'⟩,ok,f3,k0,k1,hm,q⟩:=h;refine⟨_,(aE (aR (AW jN (rm hr) rfl (aa (j7 (dH cN)) (aa cF ah)) (zK eB JM)))),?_⟩
 ext
 exact⟨_,_,_,s1,SC.cl,SC.xW,_,kL,h,dh,.ref R,kp,fr,o,tr,t,g,a,b,c,f,lo,hi,k,at',ms,rfl,s2,s4,s5',ok,f3,k0,k1,hm,q⟩
theorem DX {n:Int}:∀(L:List (Int×V)) (d:List (Key×V)),(∀q∈L,q.1≠n)->c8 (L.foldl (λd q=>putK d (.inl q.1) q.2) d) (.inl n)=c8 d (.inl n)
 | [],_,_=>rfl
 | q::L,d,h=>by rw[List.foldl_cons,DX L _ λr hr=>h r (bc _ hr),qX,He (λe=>h q cb (Sum.inl.inj e).symm)]
theorem IS {n:Int}{v:V}:∀(L:List (Int×V)) (d:List (Key×V)),(L.map (·.1)).Nodup->(n,v)∈L->c8 (L.foldl (λd q=>putK d (.inl q.1) q.2) d) (.inl n)=some v
 | q::L,d,nd,m=>by
   rw[List.map_cons,List.nodup_cons]at nd;rw[List.foldl_cons];rcases List.mem_cons.mp m with e | m
   . rw[<- e]at nd ⊢;rw[DX L _ (λr hr z=>nd.1 (fg.mpr ⟨r,hr,z⟩)),qX,Hk rfl]
   . exact IS L _ nd.2 m
theorem K1 {u:Tr}{v:V}(p:aL K H0 H (u.told g) v):∃T wd us,v=.ref T/\tupQ K H T=some (.str wd::.int (g u.a)::us):=by
 cases u with
 | leaf A l h rows=>
   obtain⟨T,Rw,us,e,hT,_⟩:=vo p;exact⟨T,_,_,e,hT⟩
 | inner A l h aV aM ks=>
   obtain⟨T,Pv,C,Y,us,e,hT,_⟩:=su p;exact⟨T,_,_,e,hT⟩
theorem QL {a c:Int}{f:Nat}{fr:Int}{t:Tr}(wo:OL a b c pl f last ms fr g t):t.pre.length<=85:=by
 have f3:=wo.f3;have h1:=wo.ok.i0.1;rw[cG,ab]at h1;have h2:sz f<=85:=by
   have:f=0∨f=1∨f=2∨f=3:=X2
   rcases this with rfl | rfl | rfl | rfl <;> decide
 omega
def acq (K:Frag)(G H:Hp)(ds:List PyData)(acc:List V):Prop:=∃(l:Addr) (ws ys:List V),acc=.ref l::ws/\new K G l/\H l=some (.lst ys)/\ai K G H ds ys
inductive IT (K:Frag)(vs:List V)(H:Hp)(Q:VK)(E9:XK):Prop
 | mk (im H0 a b c pl f last fr:_) (g:Addr->Int) (t:Tr) (ms:List Int) (k:Int) (o:Option Int) (_:vs=[im,.int k,on o]) (_:aL K H0 H 's' im) (_:OL a b c pl f last ms fr g t) (_:∀ts L items H',Path k t ts->new K H L->H' L=some (.lst items)->ai K H H' (ts.map (b9 g k o)) items->Ext K H H'->Q (.ref L) H')
include B in
theorem yY (F:bT K "_law_found" "_law_found" dU f fd):(!0) 1 f fd ["_law_image","_law_key","_law_when"] (IT K):=by
 exists 0,["_law_image","_law_key","_law_when","_law_rooms","_law_room_here","_law_found_here","_law_notes","_law_versions"]
 obtain⟨im,H0,a,b,c,pl,f,last,fr,g,t,ms,k,o,rfl,him,wo,q⟩:=h;obtain⟨T,R,M,W,us,rfl,hT,hR,hM,nW,hW,WW⟩:=t8 him;exists 2,dU,5,aE (aR (cB cR sJ (jG (aa (mK (aa (iq jA) (aa (iq (cB cR Qi (jG (aa (jG ah) ah)))) ah))) ah)))),r5,J5,e5;exists 2,dU,4,ao (ss 7 nk (pP (ck [ "_law_one","_law_versions","_law_key" ] [none,none,some 1]) rfl (kO (bU (jm (iq jA)))) (λ_ _ _ _=>(kX (iK K (n:=2) rfl (aA (gn 0 nk) (aA (gn 1 nk) dN))))) (λ_ _ _ _=>(yv (cM (cz (om fL) cN Dd (aH _))))) (λ_ _ _ _=>(cX (gA K) rfl B.list cA (aa cF ah))))) J5,r4,J4,e4;exists 2,dU,3,ao (EU PassesOwn.never (cM (cz (om fL) (jm (iq jA)) (jm dM) (aH _))) (ao (Zn (i:=6) nk rfl (Or.inl rfl) (ck [ "_law_note","_law_key","_law_when" ] [none,some 1,some 2]) rfl (kO (bU (jm (iq jA)))) 'j' (λ_ _ _ _=>(yv (tw (Ui (UQ (ET (om (mA gy)) (om (mA i9)) (jm (Ku K bg)) qM (jm (Ku K bg)))) (Mg (tw (sH (cM (cz (om mV) Dd (jm jQ) (aH _))) (jc (cM (cz (om (mA gy)) (jm (Ku K bg)) Dd (aH _))))))))))) (λ_ _ _ _=>bg)) (ao (j4 (Uh PySem.F.plainAttrs_list PySem.F.slot_list_append PySem.F.type_list_append fz sJ (aa (mK (aa (iq jA) (aa C9 ah))) ah))) (aE (ss 4 nk (B0 (gJ hr.units Qj (jm (sW (uv je) (iq jA) (tN B.len (pP (ck [ "_law_one","_law_key" ] [none,some 1]) rfl (kO (bU (jm (iq jA)))) 'j' (λ_ _ _ _=>(yv (cM (cz (om (mA gy)) cN qM (aH _))))) (λ_ _ _ _=>bg))) (λ_ _=>rfl))) (λ_ _=>rfl)))))))) J4,r3,J3,e3;exists 2,dU,2,ao (ss 5 nk (jG ah)) J3,r2,J2,e2;exists 2,dU,1,ao (ss 4 nk (iq (iq bg))) J2,r1,J1,e1;refine⟨_,(ao (ss 3 nk (cX (Fg rfl) rfl B.dict PB (aa (pP (ck [ "_law_room_here" ] [none]) rfl (kO (bU (jm (iq bg)))) 'j' 'v' (λ_ _ _ _=>(RG (qm K (am (aa (Ku K bg) (aa bg ah))))))) ah))) J1),?_⟩
 ext
 obtain⟨L0,eu,ep,hL0⟩:=ai.zip WW;have lL:L0.length<=85:=by
   have:=QL wo;rw[ep,ab]at this;exact this
 refine⟨_,aZ hT,_,rfl,W,rfl,⟨_,aQ.of hW⟩,λD0 nD0=>?_⟩;obtain⟨G0,hG0⟩:∃G0,G0=upd H D0 (.lst []):=⟨_,rfl⟩
 have YU:G0 D0=some (.lst []):=by rw[hG0];exact af
 have QK:∀{G:Hp},Kp K D0 G0 G->Ext K H G:=λk=>by rw[hG0]at k;exact k.ext nD0
 rw[<- hG0];refine fQ (xs:=us) (λi acc σ G=>FI λ(v0:Option V) (X:List (V×Int×V))=>Ye (rH σ [v0]) (acc=X.map (·.1)) (X.map (·.2)=(L0.take i).map (λq=>(g q.2.a,q.1))) (∀q∈X,∃t,q.1=.ref t/\tupQ K G t=some [.int q.2.1,q.2.2]) (G D0=some (.lst acc)) (Kp K D0 G0 G)) ⟨none,[],rfl,rfl,rfl,λ_ h=>absurd h List.not_mem_nil,YU,Kp.refl⟩ ?_ ?_ ?_
 . rintro i acc σ G _ ⟨v0,X,rfl,_,_,_,_,kG⟩;exact aQ.of ((QK kG).at hW)
 . rintro i x acc σ G hx ⟨v0,X,rfl,rfl,eX,hX,hDa,kG⟩;rw[eu,ax]at hx;obtain⟨r,qN,rfl⟩:=bp.mp hx;obtain⟨T1,wd,us1,eT,h1⟩:=K1 ((hL0 r (bb qN)).ext (QK kG));have lX:X.length<=85:=by
     have:=congrArg List.length eX;rw[ab,ab,eC]at this;omega
   rw[eT]
   ext
   refine⟨_,aZ h1,_,tZ,λp np=>?_⟩;have xp:=bM (.tup [V.int (g r.2.a),V.ref T1]) np;have VJ:=xp.at hDa;refine⟨VJ,by rw[ab];omega,_,X++[(.ref p,g r.2.a,.ref T1)],rfl,by rw[bj];rfl,?_,λq hq=>?_,trivial,kG.trans (xp.kp.trans (Kp.upd VJ))⟩
   . rw[bj,eX,List.take_add_one,qN,fi,bj];show _++[(g r.2.a,V.ref T1)]=_++[(g r.2.a,r.1)];rw[eT]
   . rcases de.mp hq with hq | hq
     . obtain⟨t',e,h⟩:=hX q hq;exact⟨t',e,(Kp.upd VJ).tup VJ (xp.tup h)⟩
     . rw[cq.mp hq];exact⟨p,rfl,(Kp.upd VJ).tup VJ aF⟩
 . rintro acc σ G ⟨v0,X,rfl,rfl,eX,hX,hDa,kG⟩;rw[eu,ab,dv]at eX;have lX:X.length<=85:=by
     have:=congrArg List.length eX;rw[ab,ab]at this;omega
   refine⟨X,aQ.of hDa,hX,by omega,λD nD=>?_⟩;rw[e1];have kvE:∀r∈L0,c8 (tF (X.map (·.2))) (.inl (g r.2.a))=some r.1:=λr hr=>by
     have nd:=wo.nd;rw[cG,dq,ep,dq]at nd;rw[eX];exact IS _ _ (by rw[dq];exact nd) (fg.mpr ⟨r,hr,rfl⟩)
   have xD:=bM (.dK (tF (X.map (·.2)))) nD;have hD:upd G D (.dK (tF (X.map (·.2)))) D=some (.dK (tF (X.map (·.2)))):=af;have x1:=(QK kG).trans xD;generalize tF (X.map (·.2))=aB at *;generalize upd G D (.dK aB)=G1 at *
   ext
   obtain⟨r0,L1,eL,er⟩:∃r0 L1,L0=r0::L1/\r0.2=t:=by
     cases L0 with
     | nil=>cases t <;> (unfold Tr.pre at ep;cases ep)
     | cons r0 L1=>
       refine⟨r0,L1,rfl,?_⟩;cases t <;> (unfold Tr.pre at ep;rw[List.map_cons]at ep;injection ep with h _;exact h.symm)
   refine⟨_,aZ (x1.tup hT),_,rfl,W,rfl,_,aJ (x1.at hW),r0.1,by rw[eu,eL,List.map_cons];exact pM,?_⟩;rw[e2]
   ext
   intro Fa nFa;obtain⟨G2,hG2⟩:∃G2,G2=upd G1 Fa (.lst []):=⟨_,rfl⟩
   have hFa:G2 Fa=some (.lst []):=by rw[hG2];exact af
   have toF:∀{G:Hp},Kp K Fa G2 G->Ext K G1 G:=λk=>by rw[hG2]at k;exact k.ext nFa
   rw[<- hG2,e3]
   ext
   obtain⟨Wm,hWm⟩:∃Wm:Nat->St->Hp->Prop,Wm=λm σ G=>ZG λ(ts:List Tr) (r:V×Tr) (v6 v7:Option V) (acc:List V) (jx eY:Int)=>ZH (rH σ [some (V.ref T),some (V.int k),some (on o),some (V.ref D),some r.1,some (V.ref Fa),v6,v7]) (r∈L0) (bq a b c r.2 m jx eY) ((∀p,Path k r.2 p->Path k t (ts++p))) (ts.length + m<=3) (G Fa=some (.lst acc)) (ai K G2 G (ts.map (b9 g k o)) acc) (Kp K Fa G2 G):=⟨_,rfl⟩
   refine⟨Wm,⟨f,hWm ▸ ⟨[],r0,none,none,[],0,10 ^ 12,rfl,by rw[eL];exact cb,by rw[er];exact wo.ok,λp hp=>by rw[er]at hp;exact hp,by have:=wo.f3;simpa using this,hFa,ai.nil,Kp.refl⟩⟩,λm σ G hw=>?_⟩;rw[hWm]at hw;obtain⟨ts,r,v6,v7,acc,jx,eY,rfl,rL,oku,hp,lm,hFs,al,kG⟩:=hw;obtain⟨v,u⟩:=r;dsimp only at oku hp ⊢;have hv:=(hL0 _ rL).ext (x1.trans (toF kG));dsimp only at hv
   ext
   cases u with
   | leaf A' l h rows=>
     obtain⟨T',Rw,us',rfl,rF,hR',K0⟩:=vo hv;refine⟨_,rfl,_,aZ rF,_,pM,rfl,aK (λz=>by revert z;decide +kernel) ?_⟩;rw[e4]
     ext
     obtain⟨L,z1,z2,hL⟩:=ai.zip (d:=fF) K0;unfold bq at oku;have lr:=oku.2.2.2.2.l.1;have lu:us'.length=rows.length:=by rw[z1,z2,ab,ab]
     refine⟨_,aZ rF,_,rfl,Rw,rfl,⟨_,aQ.of hR'⟩,λD1 nD1=>?_⟩;obtain⟨G3,hG3⟩:∃G3,G3=upd G D1 (.lst []):=⟨_,rfl⟩
     have qv:G3 D1=some (.lst []):=by rw[hG3];exact af
     have Vn:∀{G':Hp},Kp K D1 G3 G'->Ext K G G':=λk=>by rw[hG3]at k;exact k.ext nD1
     rw[<- hG3];refine fQ (xs:=us') (λi acc σ G'=>FI λ(v0 v1:Option V)=>VC (rH σ [v0,v1,some (V.int k)]) (acc.length<=i) ((acc=[]/\(∀r∈rows.take i,r.1≠k)∨acq K G3 G' ((gq rows k).map fN) acc)) (G' D1=some (.lst acc)) (Kp K D1 G3 G')) ⟨none,none,rfl,ag _,.inl ⟨rfl,λr hr=>(by cases hr)⟩,qv,Kp.refl⟩ ?_ ?_ ?_
     . rintro i acc σ G' _ ⟨v0,v1,rfl,_,_,_,kG'⟩;exact aQ.of ((Vn kG').at hR')
     . rintro i x acc σ G' hx ⟨v0,v1,rfl,la,hor,hDa,kG'⟩;rw[z1,ax]at hx;obtain⟨r,qN,rfl⟩:=bp.mp hx;have er:rows[i]?=some r.2:=by rw[z2,ax,qN];rfl
       have hi:i < rows.length:=(bo.mp er).1;obtain⟨T0,B',ys,ea,h1,h2,h3⟩:=lA ((hL r (bb qN)).ext (Vn kG'));rw[ea]
       ext
       refine⟨_,h1,rfl,_,_,rfl,_,_,rfl,rfl,rfl,jP (λc=>⟨B',rfl,_,aJ h2,λl nl=>?_⟩) (λc=>?_)⟩
       . have xl:=bM (.lst ys) nl;have hDl:=xl.at hDa;have nl3:=dX kG' hDa nl;have kl:=Kp.upd (K:=K) (o:=.lst (acc++[V.ref l])) hDl;refine⟨hDl,by omega,_,_,rfl,by rw[ar];exact Nat.add_le_add_right la 1,.inr ?_,trivial,kG'.trans (xl.kp.trans kl)⟩;rcases hor with ⟨rfl,hno⟩ | ⟨l0,ws,YZ,rfl,n0,h0,a0⟩
         . exact⟨l,[],ys,rfl,nl3,kl.keep _ _ af (ay qv nl3.1).symm,ai.kp qv hDl kl (by rw[IG er (V.int.inj c) hno];exact(h3.flat (gY rX _)).ext xl)⟩
         . exact⟨l0,_,YZ,rfl,n0,kl.keep _ _ (xl.at h0) (ay qv n0.1).symm,ai.kp qv hDl kl (a0.ext xl)⟩
       . refine⟨_,_,rfl,va la,?_,hDa,kG'⟩;rcases hor with ⟨rfl,hno⟩ | h
         . refine .inl ⟨rfl,λr' hr''=>?_⟩;rw[List.take_add_one,er]at hr'';rcases de.mp hr'' with h | h
           . exact hno r' h
           . rw[cq.mp h];exactλe=>c (congrArg V.int e)
         . exact .inr h
     . rintro acc2 σ G' ⟨v0,v1,rfl,la,hor,hDa,kG'⟩;rw[lu,dv]at hor;rw[e5]
       ext
       refine⟨_,aZ ((Vn kG').tup rF),_,tZ,λp np p1 np1=>?_⟩;have xa:=(bM (.lst []) np).trans (bM (.lst [V.ref p]) np1);refine⟨acc2,xa.at hDa,by omega,λp2 np2=>?_⟩;have x2:=bM (.lst (acc2++[V.ref p])) np2;have xb:=xa.trans x2;have hp0:=((bM (.lst [V.ref p]) np1).trans x2).at af;have xH:Ext K H G':=x1.trans ((toF kG).trans (Vn kG'));generalize upd (upd (upd G' p (.lst [])) p1 (.lst [V.ref p])) p2 (.lst (acc2++[V.ref p]))=G4 at xb hp0 ⊢;obtain⟨l1,Sy,el,n1,h1,a1⟩:∃(l1:Addr) (Sy:List V),j3 (acc2++[V.ref p]) 0=some (.ref l1)/\new K H l1/\G4 l1=some (.lst Sy)/\ai K H G4 ((gq rows k).map fN) Sy:=by
         rcases hor with ⟨rfl,hno⟩ | ⟨l,ws,ys,rfl,nl,hl,al⟩
         . exact⟨p,[],pM,bB xH np,hp0,by rw[II hno];exact ai.nil⟩
         . exact⟨l,ys,pM,bB (x1.trans ((toF kG).trans (Vn Kp.refl))) nl,xb.at hl,(al.flat (gY rX _)).ext xb⟩
       refine⟨_,el,λp3 np3 p4 np4=>?_⟩;have xc:=bM (.tup [V.int (g A'),V.ref l1]) np3;have xd:=xc.trans (bM (.lst [V.ref p3]) np4);refine⟨acc,xd.at (xb.at ((Vn kG').at hFs)),by rw[al.len,ab];omega,λp5 np5=>?_⟩;have xe:=xd.trans (bM (.lst (acc++[V.ref p3])) np5);have lf:aL K H (upd G4 p3 (.tup [V.int (g A'),V.ref l1])) (b9 g k o (.leaf A' l h rows)) (.ref p3):=by
         unfold b9;exact aL.tt.mpr ⟨p3,_,rfl,aF,ai.cons (aL.ii.mpr rfl) (ai.cons (aL.ll.mpr ⟨l1,Sy,rfl,n1,xc.at h1,a1.ext xc⟩) ai.nil)⟩
       have xr:=(bM (.lst [V.ref p3]) np4).trans (bM (.lst (acc++[V.ref p3])) np5);refine q (ts++[.leaf A' l h rows]) p5 (acc++[V.ref p3]) _ (hp _ (.leaf ..)) (bB (xH.trans (xb.trans xd)) np5) af ?_ (xH.trans (xb.trans xe));rw[bj];exact((al.old (x1.trans (toF Kp.refl))).ext ((Vn kG').trans (xb.trans xe))).snoc (lf.ext xr)
   | inner A' l h aV aM ks=>
     have hv0:=hL0 _ rL;dsimp only at hv0;obtain⟨T',Pv,C,Y,us',rfl,Qm,hP0,hC0,U9,aY⟩:=su hv0;have X:=x1.trans (toF kG);have rF:=X.tup Qm;have hP':=X.at hP0;have hC':=X.at hC0;have U9:=X.at U9;refine⟨_,rfl,_,aZ rF,_,pM,rfl,bw rfl ?_⟩
     ext
     unfold bq at oku;obtain⟨_,_,l3,_,g',rfl,ty,tk⟩:=oku;have lk:=tk.len;obtain⟨L,z1,z2,hL⟩:=ai.zip (d:=Nt.d) aY;have tl:=ty.l.1;rw[z2,ab]at tl;rw[z1]at U9;refine⟨Wm g',λσ' H' h=>⟨g',kf _,h⟩,_,aZ rF,_,rfl,Y,rfl,⟨_,aQ.of U9⟩,λD1 nD1=>kJ (f:=(·.1)) (p:=λe=>e.has k&&cut o e.n) U9 nD1 X2 (λq hq G' N xx n=>?_) (λ_ _ _ _ _ h=>h) (λG' qv xx=>?_)⟩
     . obtain⟨a',u',ea,ha⟩:=(ya ((hL q hq).ext (X.trans xx))).a;rw[ea]
       ext
       have n:N (q.2.has k&&cut o q.2.n) G':=n;refine⟨_,aZ ha,_,tZ,_,rfl,jP (λc1=>⟨_,aZ ha,_,rfl,_,rfl,jP (λc2=>?_) (λc2=>?_)⟩) (λc1=>?_)⟩
       . rw[show q.2.has k=true from by unfold Nt.has;simp[c1,c2],Hb]at n;cases o with
         | none=>exact bw rfl n
         | some m=>exact aK (λz=>by cases z) ⟨_,aZ ha,_,pM,_,rfl,m,rfl,n⟩
       . rw[show q.2.has k=false from by unfold Nt.has;simp[c2],FV]at n;exact n
       . rw[show q.2.has k=false from by unfold Nt.has;simp[c1],FV]at n;exact n
     . have hFx:=xx.at hFs;have Vc:=xx.tup rF;refine⟨.inl ⟨_,aQ.of hFx⟩,_,aZ Vc,_,tZ,λp np=>?_⟩;have xp:=bM (.tup [V.int (g A'),V.ref D1]) np;have Y0:=xp.at hFx;have kF:=Kp.upd (K:=K) (o:=.lst (acc++[V.ref p])) Y0;have acs:upd (upd G' p (.tup [V.int (g A'),V.ref D1])) Fa (.lst (acc++[V.ref p])) Fa=some (.lst (acc++[V.ref p])):=af;have Z2:=kF.tup Y0 (xp.tup Vc);have hP3:=kF.keep _ _ (xp.at (xx.at hP')) (ay (x1.at hP0) nFa.1);have hC3:=kF.keep _ _ (xp.at (xx.at hC')) (ay (x1.at hC0) nFa.1);have hDd:=kF.keep _ _ (xp.at (xx.at ((toF kG).at hD))) (ay hD nFa.1);have k3:=kG.trans (xx.kp.trans (xp.kp.trans kF));refine⟨acc,Y0,by rw[al.len,ab];omega,?_⟩;have it:aL K G2 (upd G' p (.tup [V.int (g A'),V.ref D1])) (b9 g k o (.inner A' l h aV aM ks)) (.ref p):=by
         unfold b9;refine aL.tt.mpr ⟨p,_,rfl,aF,ai.cons (aL.ii.mpr rfl) (ai.cons (aL.ll.mpr ⟨D1,_,rfl,dX kG hFs nD1,xp.at qv,?_⟩) ai.nil)⟩;rw[z2];show ai K _ _ ((((L.map (·.2)).filter λe=>cut o e.n).filter λe=>e.has k).map Nt.d) _;rw[List.filter_filter];exact ai.picked (p:=λe:Nt=>e.has k&&cut o e.n) λq hq=>((hL q hq).ext (X.trans (xx.trans xp))).flat (vn _)
       have al3:=ai.kp hFa Y0 kF ((al.ext (xx.trans xp)).snoc it);have xG3:=X.trans (xx.trans xp);clear kF Y0 hFx Vc np xp it;generalize upd (upd G' p (.tup [V.int (g A'),V.ref D1])) Fa (.lst (acc++[V.ref p]))=G5 at *;have hP4:G5 Pv=some (.lst ((aV.map λp=>(V.int p,p)).map (·.1))):=by rw[dq];exact hP3
       refine⟨_,aZ Z2,_,rfl,_,aZ Z2,_,rfl,Pv,rfl,⟨_,aQ.of hP3⟩,λD2 nD2=>kJ (f:=(·.1)) (p:=λp=>decide (p<=k)) hP4 nD2 (by rw[ab];omega) (λr hr G6 N xx n=>?_) (λ_ _ _ _ _ h=>h) (λG6 lG x6=>?_)⟩
       . obtain⟨p,_,rfl⟩:=fg.mp hr
         ext
         exact n
       . have el:((((aV.map λp=>(V.int p,p)).filter λq=>decide (q.2<=k)).map (·.1)).length:Int)=(place aV k:Int):=by
           unfold place;rw[ab,tj,ab];rfl
         have lp:place aV k<=aV.length:=i3 _ _;obtain⟨uc,huc⟩:∃u,ks[place aV k]?=some u:=⟨_,a9 X2⟩
         obtain⟨l',h',_,_,okc,_,_⟩:=qE tk _ uc huc;obtain⟨j,hj⟩:=mB rL;have hpj:t.pre[j]?=some (.inner A' l h aV aM ks):=by rw[ep,ax,hj];rfl
         have ucp:=xn (o9 t j _ hpj uc (bb huc));rw[ep]at ucp;obtain⟨rc,hrc,erc⟩:=fg.mp ucp;subst erc;have ev:=dI (xs:=ks.map λt=>V.int (g t.a)) (i:=place aV k) (v:=.int (g rc.2.a)) (by rw[ax,huc];rfl);rw[t5]at ev;refine⟨_,aJ lG,C,rfl,_,aJ (x6.at hC3),_,by rw[el];exact ev,_,(kvE rc hrc) ▸ sU.k (k:=.inl (g rc.2.a)) (x6.at hDd),?_⟩;rw[hWm];refine⟨ts++[.inner A' l h aV aM ks],rc,_,_,_,l',h',rfl,hrc,okc,λp pp=>?_,by rw[ar];simp only[lx];omega,x6.at acs,by rw[bj];exact al3.ext x6,k3.trans x6.kp⟩;rw[gL];exact hp _ (.inner _ _ _ _ _ _ _ _ huc pp)
inductive Oq (K:Frag)(vs:List V)(H:Hp)(Q:VK)(E9:XK):Prop
 | mk (L H0 items ts:_) (g:Addr->Int) (t:Tr) (a b c f lo hi) (k:Int) (o:Option Int) (_:vs=[.ref L,on o]) (_:H L=some (.lst items)) (_:ai K H0 H (List.map (b9 g k o) ts) items) (_:Path k t ts) (_:bq a b c t f lo hi) (_:f<=3) (_:∀H',Ext K H H'->Q (on (cJ k o ts)) H')
include B in
theorem BX (F:bT K "_law_come" "_law_come" iF f fd)(oR:⋯ "_law_acts" 1 ["_law_action_here","_law_value_here"] (By K)):(!0) 2 f fd ["_law_rooms","_law_when"] (Oq K):=by
 exists 0,["_law_rooms","_law_when","_law_value_here","_law_number_here","_law_shown","_law_notes","_law_note"]
 obtain⟨L,H0,items,ts,g,t,a,b,c,f,lo,hi,k,o,rfl,hL,al,pt,ok,f3,q⟩:=h;exists 2,iF,3,aE (aR eB),r3,J3,e3;exists 2,iF,2,ao (mH PassesOwn.never rfl (kO (bU (jm (Ur (vS m7 bg GO (zB (Ue qj ei))))))) (kX (dF (n:=2) rfl (aA (gn 3 nk) (aA (gn 5 nk) dN)))) (aE (mH PassesOwn.never rfl (kO (bU jv5)) (gn 6 nk) (aE (ss 2 nk (ec oR hr (aa (iq C9) (aa eB ah)))))))) J3,r2,J2,e2;exists 2,iF,1,ao (mH PassesOwn.never rfl (kO (bU (jm (iq (sW (uv je) bg (Ue qj ei) (λ_ _=>rfl)))))) (kX (dF (n:=2) rfl (aA (gn 3 nk) (aA (gn 4 nk) dN)))) (aE (iV (tw (sH (cM (cz (om mV) qM (jm jQ) (aH _))) (jc (cM (cz (om (mA gy)) Qj qM (aH _)))))) (aE (ss 2 nk jA)) cD))) J2,r1,J1,e1;refine⟨_,(ao (ss 2 nk jQ) J1),?_⟩
 ext
 rw[e1]
 ext
 obtain⟨ins,A',l',h',rows,ets⟩:=pt.ends;have lts:=pt.i0 ok;obtain⟨LZ,z1,z2,hZ⟩:=ai.zip al;obtain⟨LI,r,rfl⟩:∃LI r,LZ=LI++[r]:=by
   rcases mI LZ with e | ⟨LI,r,e⟩
   . rw[z2,e]at ets;cases ins <;> cases ets
   . exact⟨LI,r,by rw[e];simp⟩
 rw[bj]at z1 z2;rw[ets]at z2;obtain⟨zi,zr⟩:=List.append_inj' z2 rfl;have er:.leaf A' l' h' rows=r.2:=(List.cons.inj zr).1;have hr0:=hZ r Y2;rw[<- er]at hr0;obtain⟨T,l,ys,eT,hT,_,hl,aY⟩:=yl hr0
 replace aY:ai K H0 H ((gq rows k).map fN) ys:=aY
 obtain⟨LV,v1,v2,hV⟩:=ai.zip aY;rw[z1]at hL;refine⟨_,aJ hL,r.1,rZ _ _,T,eT,_,aZ hT,_,tZ,l,rfl,⟨_,aQ.of hl⟩,fX (xs:=ys) (λi σ H'=>FI λ(v3 v4:Option V)=>OH (rH σ [some (V.ref L),some (on o),some (on (valAt ((gq rows k).take i) o)),v3,v4,none,none]) (H'=H)) ⟨_,_,rfl,rfl⟩ ?_ ?_ ?_⟩
 . rintro i σ H' _ ⟨v3,v4,rfl,rfl⟩;exact aQ.of hl
 . rintro i x σ H' hx ⟨v3,v4,rfl,rfl⟩;rw[v1,ax]at hx;obtain⟨p,hp,rfl⟩:=bp.mp hx;obtain⟨a,ea,ha⟩:=rT (hV p (bb hp));rw[ea];have et:valAt ((gq rows k).take (i + 1)) o=BB o (valAt ((gq rows k).take i) o) p.2:=by
     unfold valAt;rw[v2,List.take_add_one,ax,hp,oP];rfl
   rw[et]
   ext
   refine⟨_,ha,rfl,_,_,rfl,_,_,rfl,rfl,?_⟩;cases o with
   | none=>exact bw rfl ⟨_,_,rfl,trivial⟩
   | some m=>
     refine aK (λz=>by cases z) ⟨_,rfl,m,rfl,jP (λc=>?_) (λc=>?_)⟩
     . rw[show BB (some m) (valAt ((gq rows k).take i) (some m)) p.2=p.2.2 from Hk (Hm c)];exact⟨_,_,rfl,trivial⟩
     . rw[show BB (some m) (valAt ((gq rows k).take i) (some m)) p.2=valAt ((gq rows k).take i) (some m) from He (by rw[show cut (some m) p.2.1=false from Kk c];decide)];exact⟨_,_,rfl,trivial⟩
 . rintro σ H' ⟨v3,v4,rfl,rfl⟩;rw[show ys.length=(gq rows k).length from by rw[v1,v2,ab,ab],dv];rw[e2]
   ext
   have ec:ql (LI.map (·.1)++[r.1]) none (some (-1))=LI.map (·.1):=by
     unfold ql HT.BZ;simp;rw[show(-1 + ((LI.length:Int) + 1)).toNat=(LI.map (·.1)).length from by rw[ab];omega,List.take_left]
   have Z8:ins.length=LI.length:=by rw[zi,ab]
   have lz:ts.length=LI.length + 1:=by rw[ets,ar,Z8];rfl
   refine⟨_,aQ.of hL,λp np=>⟨_,aQ.of af,λp1 np1=>?_⟩⟩;rw[show List.map (·.1) [r]=[r.1] from rfl,ec]at *;have xp:=(bM (.lst (LI.map (·.1))) np).trans (bM (.lst (LI.map (·.1)).reverse) np1);have qO:upd (upd H' p (.lst (LI.map (·.1)))) p1 (.lst (LI.map (·.1)).reverse) p1=some (.lst (LI.map (·.1)).reverse):=af;generalize upd (upd H' p (.lst (LI.map (·.1)))) p1 (.lst (LI.map (·.1)).reverse)=G at xp qO ⊢;refine⟨⟨_,aQ.of qO⟩,fX (xs:=(LI.map (·.1)).reverse) (λi σ G'=>ZF λ(v3 v4 v5 v6:Option V)=>OH (rH σ [some (V.ref L),some (on o),some (on (cJ k o (ts.drop (LI.length - i)))),v3,v4,v5,v6]) (Ext K G G')) ⟨v3,v4,none,none,?_,Ext.refl⟩ ?_ ?_ ?_⟩
   . rw[ets,Nat.sub_zero,<- Z8,List.drop_left];rfl
   . rintro i σ G' _ ⟨v3,v4,v5,v6,rfl,x⟩;exact aQ.of (x.at qO)
   . rintro i x σ G' hx ⟨v3,v4,v5,v6,rfl,xG⟩;have hi:=(bo.mp hx).1;rw[fb,ab]at hi;rw[wb (by rw[ab];exact hi),ab,ax]at hx;obtain⟨j,hj⟩:∃j,j=LI.length - 1 - i:=⟨_,rfl⟩
     rw[<- hj]at hx;obtain⟨s,hs,rfl⟩:=bp.mp hx;have YW:j < ts.length:=X2
     have IJ:=a9 YW;obtain⟨A2,l2,YG,aV,aM,ks,eu⟩:=pt.inn j _ IJ X2;obtain⟨f',jx,eY,oku⟩:=pt.ok ok _ (bb IJ);have es:ts[j]?=some s.2:=by rw[ets,zi,gN (by rw[ab];omega),ax,hs];rfl
     rw[IJ]at es;have es:=(Option.some.inj es).symm.trans eu;rw[eu]at oku;unfold bq at oku;obtain⟨_,_,_,_,g',_,ty,_⟩:=oku;have hs0:=(hZ s (by simp[bb hs])).ext (xp.trans xG);rw[es]at hs0;obtain⟨T2,l3,ys2,eT2,Vc,_,Rf,a2⟩:=yl hs0
     replace a2:ai K H0 G' (((aM.filter λe=>cut o e.n).filter λe=>e.has k).map Nt.d) ys2:=a2
     obtain⟨LN,n1,n2,hN⟩:=ai.zip (d:=Nt.d) a2;have ev:cJ k o (ts.drop (LI.length - (i + 1)))=oJ aM k o (cJ k o (ts.drop (LI.length - i))):=by
       rw[show LI.length - (i + 1)=j from by omega,show LI.length - i=j + 1 from by omega,List.drop_eq_getElem_cons YW,eu];rfl
     have eM:oJ aM k o (cJ k o (ts.drop (LI.length - i)))=(LN.map (·.2)).foldl (λv e=>DK e.t e.m v) (cJ k o (ts.drop (LI.length - i))):=by
       unfold oJ;rw[n2]
     rw[eT2]
     ext
     refine⟨_,Vc,rfl,_,_,rfl,_,_,rfl,rfl,l3,rfl,⟨_,aQ.of Rf⟩,fX (xs:=ys2) (λm σ G2=>FI λ(v3 v6:Option V)=>OH (rH σ [some (V.ref L),some (on o),some (on (((LN.take m).map (·.2)).foldl (λv e=>DK e.t e.m v) (cJ k o (ts.drop (LI.length - i))))),v3,v4,some (V.ref l3),v6]) (G2=G')) ⟨_,_,rfl,rfl⟩ ?_ ?_ ?_⟩
     . rintro m σ G2 _ ⟨v3,v6,rfl,rfl⟩;exact aQ.of Rf
     . rintro m x σ G2 hx ⟨v3,v6,rfl,rfl⟩;rw[n1,ax]at hx;obtain⟨q',hq',rfl⟩:=bp.mp hx;obtain⟨a',u,ea,ha,hu⟩:=ya (hN q' (bb hq'));have mt:q'.2∈aM:=by
         have:q'.2∈LN.map (·.2):=cx (bb hq');rw[<- n2]at this;exact(ib.mp (ib.mp this).1).1
       rw[ea]
       ext
       refine⟨_,aZ ha,u,rfl,u,q'.2.t,q'.2.m,_,rfl,hu,λn z=>?_,v3,some (V.ref a'),?_,rfl⟩
       . rcases(ty.e q'.2 mt).m with e | ⟨_,e,_⟩ <;> (rw[e]at z;cases z)
       . rw[List.take_add_one,hq',fi,bj,oP];rfl
     . rintro σ G2 ⟨v3,v6,rfl,rfl⟩;rw[ev,eM,n1,ab,dv];exact⟨_,_,_,_,rfl,xG⟩
   . rintro σ G' ⟨v3,v4,v5,v6,rfl,x⟩;rw[e3]
     ext
     rw[fb,ab,ub,List.drop_zero];exact q G' (xp.trans x)
def Y3:Option Int->Str
 | none=>Str.ofString "None"
 | some i=>Str.ofString (toString i)
theorem ym {X:Cx}:dQ X (.builtin "repr") (λxs H Q=>∃o:Option Int,xs=[on o]/\(∀i,o=some i->i.natAbs.log2 < 1920)/\Q (.str (Y3 o)) H):=by
 exists 1,xs,us,Q,I,r,h;obtain⟨o,rfl,ho,q⟩:=h;obtain⟨u,rfl,ru⟩:=vals1 r;cases o with
 | none=>
   cases ru;exact PySem.P.repr_of_none ⟨.str _,H,I.tok _,⟨_,rfl⟩,q⟩
 | some i=>
   obtain⟨t,rfl⟩:=ru;exact PySem.P.repr_of_int (ho i rfl) ⟨.str _,H,I.tok _,⟨_,rfl⟩,q⟩
theorem As {h:bR}{B:Nat}(hs:h.sm)(hB:10 ^ 60<=B)(ho:∀i,o=some i->i.natAbs < B):∀i,h.act o=some i->i.natAbs < B + 10 ^ 60:=by
 intro i hi;cases h with
 | gone=>cases hi
 | is n=>
   have hs:n.natAbs < 10 ^ 60:=hs;cases hi;omega
 | plus n=>
   have hs:n.natAbs < 10 ^ 60:=hs;cases o with
   | none=>cases hi
   | some j=>
     have:=ho j rfl;cases hi;show(j + n).natAbs < _;omega
theorem yo:∀(l:List Nt) (o:Option Int) (B:Nat),(∀e∈l,e.t.sm/\e.m.sm)->10 ^ 60<=B->(∀i,o=some i->i.natAbs < B)->∀i,l.foldl (λv e=>DK e.t e.m v) o=some i->i.natAbs < B + 10 ^ 60 * l.length
 | [],o,B,_,_,ho,i,hi=>ho i hi
 | e::l,o,B,he,hB,ho,i,hi=>by
   have h1:∀j,DK e.t e.m o=some j->j.natAbs < B + 10 ^ 60:=by
     cases o with
     | none=>exact As (he e cb).2 hB ho
     | some v=>exact As (he e cb).1 hB ho
   have:=yo l _ (B + 10 ^ 60) (λx hx=>he x (bc _ hx)) X2 h1 i hi;rw[List.length_cons];omega
theorem Au:∀(l:List lq) (o v:Option Int),(∀p∈l,Se p.2)->Se v->Se (l.foldl (BB o) v)
 | [],_,_,_,hv=>hv
 | p::l,o,v,h,hv=>by
   refine Au l o _ (λq hq=>h q (bc _ hq)) ?_;unfold BB;split
   . exact h p cb
   . exact hv
theorem DY {rows:List (Int×List lq)}{k:Int}:gq rows k=[]∨∃r∈rows,gq rows k=r.2:=by
 unfold gq;split
 . rename_i r e
   exact .inr ⟨r,List.mem_of_find?_eq_some e,rfl⟩
 . exact .inl rfl
theorem Path.small {a c k:Int}{t:Tr}{p:List Tr}(h:Path k t p):∀{f:Nat}{lo hi:Int},bq a b c t f lo hi->∀i,cJ k o p=some i->i.natAbs < 10 ^ 60 * (1 + 5 * f):=by
 induction h with
 | leaf A l h rows=>
   intro f lo hi ok i eY;unfold bq at ok;have hv:∀p∈gq rows k,Se p.2:=by
     rcases DY (rows:=rows) (k:=k)with e | ⟨r,hr,e⟩ <;> rw[e]
     . exactλp hp=>absurd hp List.not_mem_nil
     . exactλp hp=>((ok.2.2.2.2.v r hr).n p hp).2.2
   have:=Au (gq rows k) o none hv (λj hj=>by cases hj) i eY;omega
 | inner A l h aV aM ks u p e _ ih=>
   intro f lo hi ok i eY;unfold bq at ok;obtain⟨_,_,_,_,g',rfl,ty,tk⟩:=ok;obtain⟨l',h',_,_,okc,_,_⟩:=qE tk _ u e;have h1:=ih okc;have:=yo ((aM.filter λe=>cut o e.n).filter λe=>e.has k) _ (10 ^ 60 * (1 + 5 * g')) (λe he=>?_) X2 h1 i eY
   . have l1:=i3 (λe:Nt=>e.has k) (aM.filter λe=>cut o e.n);have l2:=i3 (λe:Nt=>cut o e.n) aM;have:=ty.l.1;omega
   . have ne:=ty.e e (ib.mp (ib.mp he).1).1;refine⟨ne.t,?_⟩;rcases ne.m with z | ⟨j,z,g,_⟩ <;> rw[z]
     . exact trivial
     . exact g
def Sz (d:PyData):Prop:=d.showable=true/\d.hasDict=false/\d.depth<=60/\d.shown.length<=sizeLine
theorem QM (ho:∀i,o=some i->i.natAbs < 10 ^ 62):(uG o).showable=true/\(uG o).hasDict=false/\(uG o).depth<=1/\(uG o).shown.length<=63:=by
 cases o with
 | none=>exact⟨by decide,by decide,by decide,by decide⟩
 | some i=>
   have h:=ho i rfl;have l:(PySem.Str.ofString (toString i)).length<=63:=by
     rw[PySem.ofString_length];exact Bz Y1 h
   have b:i.natAbs.log2 < 1920:=by
     by_cases z:i.natAbs=0
     . rw[z];decide
     . exact(FR z).mpr (pf h X9)
   refine⟨?_,rfl,by simp[uG,PyData.depth],l⟩;simp only[uG,PyData.showable];exact Hm b
theorem K2 {ds:List PyData}(ho:∀i,o=some i->i.natAbs < 10 ^ 62)(hn:bN ds=true)(hw:dG ds<=4000)(hd:PyData.depthAll ds<=20):Sz (.tuple [uG o,.list ds]):=by
 have ns:c7 (.list ds)=true:=by simp only[c7];exact hn
 have s1:=pA ns;have l1:=BR ns;have s2:=QM ho;have l2:=rE (PyData.shownAll [uG o,.list ds]);simp only[wt]at l1;refine⟨?_,?_,?_,?_⟩
 . simp only[PyData.showable,PyData.showableAll,s2.1,lj,Hb];exact s1.1
 . simp only[PyData.hasDict,PyData.hasDictAll,s2.2.1,Ha,Bool.false_or];exact s1.2
 . have:=s2.2.2.1;simp only[PyData.depth,PyData.depthAll];omega
 . have:=s2.2.2.2;rw[show(PyData.tuple [uG o,.list ds]).shown=tupleText (PyData.shownAll [uG o,.list ds]) from by simp only[PyData.shown],NA];simp only[PyData.shownAll,piled_cons,show piled []=0 from rfl]at l2 ⊢;omega
theorem DZ {u w:Tr}:∀{ks:List Tr},u∈ks->w∈u.pre->w∈c6 ks
 | v::ks,h,hw=>by
   unfold c6;rcases List.mem_cons.mp h with rfl | h
   . exact js _ hw
   . exact cf _ (DZ h hw)
theorem Path.pre {k:Int}{t:Tr}{p:List Tr}(h:Path k t p):∀u∈p,u∈t.pre:=by
 induction h with
 | leaf A l h rows=>intro u hu;unfold Tr.pre;exact hu
 | inner A l h aV aM ks u p e _ ih=>
   intro v hv;unfold Tr.pre;rcases List.mem_cons.mp hv with rfl | hv
   . exact cb
   . exact bc _ (DZ (bb e) (ih v hv))
theorem K3 {a c lo:Int}{u:Tr}{f:Nat}{k:Int}(ok:bq a b c u f lo hi)(hf:f<=3)(h0:0<=lo)(h1:hi<=10 ^ 12)(gu:0<=g u.a/\g u.a<=10 ^ 12):c7 (b9 g k o u)=true/\wt (b9 g k o u)<=100/\(b9 g k o u).depth<=8:=by
 have gi:c7 (.int (g u.a))=true:=sC (small gu.1 (Fs gu.2 Y1));have key:bN (yj k o u)=true/\dG (yj k o u)<=90/\PyData.depthAll (yj k o u)<=5:=by
   cases u with
   | leaf A l h rows=>
     unfold bq at ok;have hv:(gq rows k).length<=5/\∀p∈gq rows k,0<=p.1/\p.1 < 40/\Se p.2:=by
       rcases DY (rows:=rows) (k:=k)with e | ⟨r,hr,e⟩ <;> rw[e]
       . exact⟨by decide,λp hp=>absurd hp List.not_mem_nil⟩
       . exact⟨(ok.2.2.2.2.v r hr).l.2,(ok.2.2.2.2.v r hr).n⟩
     have w1:=jr (d:=fN) (c:=3) (l:=gq rows k) λp hp=>(sD (hv.2 p hp).1 (hv.2 p hp).2.1 (hv.2 p hp).2.2).2;have d1:=jt (d:=fN) (c:=2) (l:=gq rows k) λp _=>Og p;show bN ((gq rows k).map fN)=true/\dG ((gq rows k).map fN)<=90/\PyData.depthAll ((gq rows k).map fN)<=5;exact⟨fq λp hp=>(sD (hv.2 p hp).1 (hv.2 p hp).2.1 (hv.2 p hp).2.2).1,by omega,by omega⟩
   | inner A l h aV aM ks=>
     unfold bq at ok;obtain⟨_,_,_,_,g',fe,ty,_⟩:=ok;have nn:=λe (he:e∈(aM.filter λe=>cut o e.n).filter λe=>e.has k)=>Aq (ty.e e (ib.mp (ib.mp he).1).1) ⟨by omega,by omega⟩ h0 h1;have w1:=jr (d:=Nt.d) (c:=11) (l:=(aM.filter λe=>cut o e.n).filter λe=>e.has k) λe he=>(nn e he).2;have d1:=jt (d:=Nt.d) (c:=5) (l:=(aM.filter λe=>cut o e.n).filter λe=>e.has k) λe _=>IM e;have l1:=i3 (λe:Nt=>e.has k) (aM.filter λe=>cut o e.n);have l2:=i3 (λe:Nt=>cut o e.n) aM;have l3:=ty.l.1;show bN (((aM.filter λe=>cut o e.n).filter λe=>e.has k).map Nt.d)=true/\dG (((aM.filter λe=>cut o e.n).filter λe=>e.has k).map Nt.d)<=90/\PyData.depthAll (((aM.filter λe=>cut o e.n).filter λe=>e.has k).map Nt.d)<=5;exact⟨fq λe he=>(nn e he).1,by omega,d1⟩
 obtain⟨k1,k2,k3⟩:=key;refine⟨?_,?_,?_⟩
 . simp only[b9,c7,bN,lj,cp]at gi ⊢;exact⟨gi,k1⟩
 . simp only[b9,wt,dG];omega
 . simp only[b9,PyData.depth,PyData.depthAll];omega
theorem Vo (d:PyData):1<=wt d:=by cases d <;> simp only[wt] <;> omega
theorem Ot:∀ds:List PyData,ds.length<=dG ds
 | []=>gs _
 | d::ds=>by
   have h1:=Vo d;have h2:=Ot ds;simp only[dG,List.length_cons];omega
theorem Path.c7 {a c:Int}{f:Nat}{fr:Int}{t:Tr}{k:Int}{ts:List Tr}(pt:Path k t ts)(wo:OL a b c pl f last ms fr g t):bN (ts.map (b9 g k o))=true/\dG (ts.map (b9 g k o))<=4000/\PyData.depthAll (ts.map (b9 g k o))<=20/\∀u∈ts,(yj k o u).length<=100:=by
 have f3:=wo.f3;have ff:=wo.fr;have lts:=pt.i0 wo.ok;have nt:∀u∈ts,eV.c7 (b9 g k o u)=true/\wt (b9 g k o u)<=100/\(b9 g k o u).depth<=8:=λu hu=>by
   have up:=pt.pre u hu;obtain⟨f',jx,eY,h1,h2,h3,h4⟩:=wo.ok.Gg u up;have:=wo.gr u.a (by rw[cG];exact cx up);exact K3 h1 X2 h3 h4 ⟨by omega,by omega⟩
 have w1:=jr (d:=b9 g k o) (c:=100) λu hu=>(nt u hu).2.1;have d1:=jt (d:=b9 g k o) (c:=8) λu hu=>(nt u hu).2.2;refine⟨fq λu hu=>(nt u hu).1,by omega,by omega,λu hu=>?_⟩;have h1:=(nt u hu).2.1;have h2:=Ot (yj k o u);simp only[b9,wt,dG]at h1;omega
def Ou (K:Frag)(G:Hp)(L':Addr)(n:Nat)(H:Hp)(v:V):Prop:=∃(T:Addr) (z:Int) (l:Addr) (ys:List V),v=.ref T/\tupQ K H T=some [.int z,.ref l]/\new K G l/\l≠L'/\H l=some (.lst ys)/\ys.length<=n
theorem Ou.app {G:Hp}{L' l0:Addr}{n:Nat}{v:V}{YZ:List V}(h:Ou K G L' n H v)(h0:H l0=some (.lst YZ))(l0n:YZ.length<=n):Ou K G L' (n + 1) (upd H l0 (.lst (YZ++[u]))) v:=by
 obtain⟨T,z,l,ys,e,hT,nl,ne,hl,ll⟩:=h
 by_cases c:l=l0
 . subst c;exact⟨T,z,l,_,e,(Kp.upd h0).tup h0 hT,nl,ne,af,by rw[ar];exact Nat.add_le_add_right l0n 1⟩
 . exact⟨T,z,l,ys,e,(Kp.upd h0).tup h0 hT,nl,ne,by rw[au c];exact hl,va ll⟩
theorem D5 {G:Hp}{l:Addr}{o:HO}(x:Ext K G H)(n:new K G l):Ext K G (upd H l o):=⟨λr o e=>by rw[au (ay e n.1)];exact x.at e,λr xs e md=>by rw[au (λz=>by rw[z,n.2]at md;cases md)];exact x.mod r xs e md⟩
inductive Ov (K:Frag)(cS cH cL cI:Addr)(vs:List V)(H:Hp)(Q:VK)(E9:XK):Prop
 | mk (x W im H0 a b c pl f last fr:_) (aB:List (Key×V)) (g:Addr->Int) (t:Tr) (ms:List Int) (k:Int) (o:Option Int) (_:vs=[.ref x,.ref W,.int k,on o]) (_:Lc K cS cH cL cI H x a b c pl last ms fr g t) (_:H W=some (.dK aB)) (_:c8 aB (.inr "image")=some im) (_:aL K H0 H 's' im) (_:OL a b c pl f last ms fr g t) (_:(0<=k/\k < 10 ^ 12)) (_:(∀m,o=some m->m∈ms)) (_:∀H',Ext K H H'->Q (.bl true) H')
include B in
theorem sF (F:bT K "_law_key_right" "_law_key_right" b8 f fd)(iu:uN K aS)(lR:⋯ "_law_found" 1 ["_law_image","_law_key","_law_when"] (IT K))(jO:⋯ "_law_come" 2 ["_law_rooms","_law_when"] (Oq K))(lT:HS P w K mg base aS "way" 6 ["self","key","at"] ["at"] 2 1 (BW K aS aX aI av))(lV:j6 P w K mg base aS "way" 6 ["self","key","at"] [.bS] (BW K aS aX aI av))(j0:HS P w K mg base aS "read" 6 ["self","key","at"] ["at"] 2 1 (BO K aS aX aI av)):(!0) 7 f fd ["_law_store","_law_world_here","_law_key","_law_when"] (Ov K aS aX aI av):=by
 exists 0,["_law_store","_law_world_here","_law_key","_law_when","_law_due","_law_turn","_law_told_here","_law_number_here","_law_listed"]
 obtain⟨x,W,im,H0,a,b,c,pl,f,last,fr,aB,g,t,ms,k,o,rfl,so,hW,vI,atim,wo,kr,ho,q⟩:=h;refine aq (rest:=(fC ((aj b8).getD 1 'r')).drop 3) (aE (j4 (Ug PySem.F.plainAttrs_list PySem.F.slot_list_clear PySem.F.type_list_clear LR (iq C9)))) λr5 J5 e5=>?_;refine aq (rest:=(fC ((aj b8).getD 1 'r')).drop 2) (ao (mH PassesOwn.never rfl (kO (bU (jm (iq C9)))) (kX (dF (n:=2) rfl (aA (gn 7 nk) (aA (gn 8 nk) dN)))) (aE (j4 (Uh PySem.F.plainAttrs_list PySem.F.slot_list_append PySem.F.type_list_append fz Dc (aa ei ah))))) J5) λr4 J4 e4=>?_;refine aq (rest:=(fC ((aj b8).getD 1 'r')).drop 1) (ao (iV (tw (sH (cM (cz (om qR) (jm (bL (gQ hr.gd hr.units) rfl B.repr jD (aa C9 ah))) (jm (bL (gQ hr.gd hr.units) rfl B.repr jD (aa (mK (aa (ec jO hr (aa jA (aa gC ah))) (aa jA ah))) ah))) (aH _))) (jc (cM (cz (om qR) (jm (bL ym rfl B.repr jD (aa (iq C9) ah))) (jm (bL ym rfl B.repr jD (aa (Nx j0 iu (rm hr) bg (aa eB ah) (zK gC JM)) ah))) (aH _)))))) (aE (aR uP)) cD) J4) λr3 J3 e3=>?_;exists 2,b8,2,aE (aR (orM (eor (jm (fS AE gC jQ (aH _))) (iC (fS fL (bL (gQ hr.gd hr.units) rfl B.repr jD (aa (UR (wC lV iu (rm hr) cN (aa eB ah))) ah)) (bL (gQ hr.gd hr.units) rfl B.repr jD (aa (mK (aa (ec jO hr (aa jA (aa gC ah))) (aa jA ah))) ah)) (aH _)))))),r2,J2,e2;exists 2,b8,1,ao (mH PassesOwn.never rfl (RE (jE rfl B.range (am (aa ei ah)))) (gn 5 nk) (ao (ss 6 nk (Nx lT iu (rm hr) bg (aa eB ah) (zK gC JM))) J3)) J2,r1,J1,e1;refine⟨_,(ao (ss 4 nk (ec lR hr (aa (B0 (gJ hr.units qM (jm dM) (λ_ _=>rfl))) (aa eB (aa gC ah))))) J1),?_⟩
 ext
 refine⟨_,qA hW vI,im,H0,a,b,c,pl,f,last,fr,g,t,ms,k,o,rfl,atim,wo,λts L items H1 pt nL hL al x1=>?_⟩;have vb:∀i,cJ k o ts=some i->i.natAbs < 10 ^ 62:=λi hi=>by
   have h1:=pt.small wo.ok i hi;have f3:=wo.f3;exact cm h1 (cw (Nat.mul_le_mul_left _ (show 1 + 5 * f<=16 by omega)) Y1)
 obtain⟨d,hd⟩:∃d:PyData,d=.tuple [uG (cJ k o ts),.list (ts.map (b9 g k o))]:=⟨_,rfl⟩
 obtain⟨n1,n2,n3,n4⟩:=pt.c7 (k:=k) (o:=o) wo;have sh:Sz d:=by rw[hd];exact K2 vb n1 n2 n3
 obtain⟨sh1,sh2,sh3,sh4⟩:=sh;have lb:∀i,cJ k o ts=some i->i.natAbs.log2 < 1920:=λi hi=>by
   by_cases z:i.natAbs=0
   . rw[z];decide
   . exact(FR z).mpr (pf (vb i hi) X9)
 have so1:=so.ext x1;have wy:∀{G:Hp}{N:VK},Lc K aS aX aI av G x a b c pl last ms fr g t->(∀T L' items' G1 G',ai K G G1 (ts.map (b9 g k o)) items'->new K G1 L'->G' L'=some (.lst items')->Ext K G1 G'->tupQ K G' T=some [on (cJ k o ts),.ref L']->Ext K G G1->N (.ref T) G')->∃dx fs,G x=some (.ins aS dx fs)/\List.lookup ("way":Str) fs=none/\BW K aS aX aI av [.ref x,.int k,on o] G N E0:=by
   intro G N so n;have Vl:=so;obtain⟨dx,h,dh,R,k',o',tr,s1,_⟩:=Vl;refine⟨_,_,s1,BS X9 X9 X9 X9,x,a,b,c,pl,last,fr,g,t,f,0,10 ^ 12,k,o,ms,rfl,so,wo.ok,wo.f3,kr.1,kr.2,ho,λts' T L' items' G1 G' pt' K0 n1 h1 y1 hT y=>?_⟩;rw[pt'.one pt]at K0 hT;exact n T L' items' G1 G' K0 n1 h1 y1 hT y
 have rdK:∀{G:Hp}{N:VK},Lc K aS aX aI av G x a b c pl last ms fr g t->(∀G',Ext K G G'->N (on (cJ k o ts)) G')->∃dx fs,G x=some (.ins aS dx fs)/\List.lookup ("read":Str) fs=none/\BO K aS aX aI av [.ref x,.int k,on o] G N E0:=by
   intro G N so n;have Vl:=so;obtain⟨dx,h,dh,R,k',o',tr,s1,_⟩:=Vl;refine⟨_,_,s1,BS X9 X9 X9 X9,x,a,b,c,pl,last,fr,g,t,f,0,10 ^ 12,k,o,ms,rfl,so,wo.ok,wo.f3,kr.1,kr.2,ho,λts' G' pt' y=>?_⟩;rw[pt'.one pt];exact n G' y
 have isD:∀{G G0:Hp}{T L':Addr}{us:List V},tupQ K G T=some [on (cJ k o ts),.ref L']->G L'=some (.lst us)->ai K G0 G (ts.map (b9 g k o)) us->Is K G d (.ref T):=by
   intro G G0 T L' us hT hL' K0;rw[hd];unfold Is dD dD dD;refine⟨T,_,rfl,jF hT,_,_,rfl,?_,_,_,rfl,?_,rfl⟩
   . have:aL K G G (uG (cJ k o ts)) (on (cJ k o ts)):=aL.oo.mpr rfl;exact this.is
   . unfold Is;exact⟨L',us,rfl,aQ.of hL',K0.is⟩
 rw[e1]
 ext
 refine gP (λi σ G=>ZF λ(v5 v6 v7 v8:Option V)=>OH (rH σ [some (V.ref x),some (V.ref W),some (V.int k),some (on o),some (V.ref L),v5,v6,v7,v8]) (Ext K H1 G)) ⟨_,_,_,_,rfl,Ext.refl⟩ ?_ ?_
 . rintro i σ G _ ⟨v5,v6,v7,v8,rfl,xG⟩
   ext
   refine wy (so1.ext xG) λT L' items' G1 G' K0 nL' hL' y1 hT y0=>?_;have y:=y0.trans y1;rw[e3]
   ext
   have X:=xG.trans y;have hLX:=X.at hL;have alX:=al.ext X;refine⟨d,isD hT hL' (K0.ext y1),sh1,sh2,sh3,sh4,L,H,items,ts,g,t,a,b,c,f,0,10 ^ 12,k,o,rfl,hLX,alX,pt,wo.ok,wo.f3,λG2 y2 p np=>?_⟩;have yp:=y2.trans (bM (.tup [on (cJ k o ts),V.ref L]) np);refine⟨d,isD (T:=p) aF (yp.at hLX) (alX.ext yp),sh1,sh2,sh3,sh4,aK Y2 ⟨_,aZ (yp.tup hT),_,pM,cJ k o ts,rfl,lb,rdK (so1.ext (X.trans yp)) λG3 y3=>⟨cJ k o ts,rfl,lb,aK Y2 ?_⟩⟩⟩;have Y:=yp.trans y3;generalize upd G2 p (.tup [on (cJ k o ts),V.ref L])=G2p at *;rw[e4]
   ext
   have y3:Ext K G1 G3:=y1.trans Y;have nL:=bB y0 nL';obtain⟨LZ,z1,z2,hZ⟩:=ai.zip K0;have lz:LZ.length<=4:=by
     have:=pt.i0 wo.ok;have:=wo.f3;rw[z2,ab]at *;omega
   have il:items'.length<=4:=by rw[z1,ab];exact lz
   have li:∀v∈items',Ou K G L' 100 G3 v:=λv hv=>by
     rw[z1]at hv;obtain⟨q',hq',rfl⟩:=fg.mp hv;obtain⟨T1,l1,Sy,eT,QA,n1,h1,a1⟩:=yl (hZ q' hq');refine⟨T1,_,l1,Sy,eT,y3.tup QA,n1,ay h1 nL'.1,y3.at h1,?_⟩;have l5:=n4 q'.2 (by rw[z2];exact cx hq');rw[a1.len];exact l5
   refine⟨_,aZ (Y.tup hT),_,tZ,L',rfl,⟨_,aQ.of (Y.at hL')⟩,fX (xs:=items') (λm σ Gm=>FI λ(v7 v8:Option V)=>VC (rH σ [some (V.ref x),some (V.ref W),some (V.int k),some (on o),some (V.ref L),some (V.int (0 + i)),some (V.ref T),v7,v8]) (Gm L'=some (.lst items')) (tupQ K Gm T=some [on (cJ k o ts),.ref L']) ((∀v∈items',Ou K G L' (100 + m) Gm v)) (Ext K G Gm)) ⟨_,_,rfl,Y.at hL',Y.tup hT,li,y.trans Y⟩ ?_ ?_ ?_⟩
   . rintro m σ Gm _ ⟨v7,v8,rfl,h,_⟩;exact aQ.of h
   . rintro m v σ Gm hv ⟨v7,v8,rfl,hm,tm,lm,xm⟩;obtain⟨T1,z,l1,Sy,rfl,QA,n1,ne1,h1,l1l⟩:=lm v (bb hv);have mi:=(bo.mp hv).1
     ext
     exact⟨_,QA,rfl,_,_,rfl,_,_,rfl,rfl,.inl ⟨_,aQ.of h1⟩,l1,rfl,Sy,h1,by omega,_,_,rfl,by rw[au (λz=>ne1 z.symm)];exact hm,(Kp.upd h1).tup h1 tm,λv hv=>(lm v hv).app h1 l1l,D5 xm n1⟩
   . rintro σ Gm ⟨v7,v8,rfl,hm,tm,lm,xm⟩;rw[e5]
     ext
     exact⟨_,aZ tm,_,tZ,.inl ⟨_,aQ.of hm⟩,L',rfl,_,hm,_,_,_,_,rfl,xG.trans (D5 xm nL)⟩
 . rintro σ G ⟨v5,v6,v7,v8,rfl,xG⟩;rw[e2]
   ext
   cases o with
   | some m=>exact bw rfl (q G (x1.trans xG))
   | none=>
     refine aK Y1 (wy (so1.ext xG) λT L' items' G1 G' K0 nL' hL' y1 hT y0=>⟨T,rfl,d,isD hT hL' (K0.ext y1),sh1,sh2,sh3,sh4,L,H,items,ts,g,t,a,b,c,f,0,10 ^ 12,k,none,rfl,(xG.trans (y0.trans y1)).at hL,al.ext (xG.trans (y0.trans y1)),pt,wo.ok,wo.f3,λG2 y2 p np=>?_⟩);have yp:=y2.trans (bM (.tup [on (cJ k none ts),V.ref L]) np);refine⟨d,isD (T:=p) aF (yp.at ((xG.trans (y0.trans y1)).at hL)) ((al.ext (xG.trans (y0.trans y1))).ext yp),sh1,sh2,sh3,sh4,?_⟩;rw[Hm (rfl:d.shown=d.shown)];exact q _ (x1.trans ((xG.trans (y0.trans y1)).trans yp))
inductive IU (K:Frag)(vs:List V)(H:Hp)(Q:VK)(E9:XK):Prop
 | mk (p:_) (n:Nat) (_:vs=[.ref p,.int n]) (_:Wl H p) (_:∀H',Kp K p H H'->Q (.bl true) H')
include B in
theorem yZ (F:bT K "_law_right" "_law_right" fE f fd)(iu:uN K aS)(lW:⋯ "_law_world" 12 ["_law_well_here"] (Io K))(qI:⋯ "store_of" 10 ["image"] (Bv K aS aX aI av))(jv:j6 P w K mg base aS "image" 5 ["self"] [] (Sw K aS aX aI av))(qJ:⋯ "_law_ats" 1 ["_law_world_here"] (Sv K))(ia:⋯ "_law_key_right" 7 ["_law_store","_law_world_here","_law_key","_law_when"] (Ov K aS aX aI av)):(!0) 13 f fd ["_law_well_here","_law_turn"] (IU K):=by
 exists 0,["_law_well_here","_law_turn","_law_world_here","_law_store","_law_ats_here","_law_k"]
 obtain⟨p,n,rfl,hp,q⟩:=h;exists 2,fE,4,aE (aR (fS fL (bL (gQ hr.gd hr.units) rfl B.repr jD (aa (MJ jv iu (rm hr) gC) ah)) (bL (gQ hr.gd hr.units) rfl B.repr jD (aa (B0 (gJ hr.units Dd (jm dM) (λ_ _=>rfl))) ah)) (aH _))),r4,J4,e4;exists 2,fE,3,ao (mH PassesOwn.never rfl (RE (jE rfl B.range (am (aa (tN B.len (B0 (gJ hr.units Dd (jm dM) (λ_ _=>rfl)))) ah)))) (gn 5 nk) (aE (iV (fj (ef (ec ia hr (aa gC (aa eB (aa (sW (uv je) (B0 (gJ hr.units Dd (jm dM) (λ_ _=>rfl))) sJ (λ_ _=>rfl)) (aa (sW (uv je) jA (cB (mC mU) (cB (mA bu) sJ cF) (tN B.len jA)) (λ_ _=>rfl)) ah))))))) (aE (aR uP)) cD))) J4,r3,J3,e3;exists 2,fE,2,ao (ss 4 nk (ec qJ hr (aa eB ah))) J3,r2,J2,e2;exists 2,fE,1,ao (ss 3 nk (ec qI hr (aa (B0 (gJ hr.units Dd (jm dM) (λ_ _=>rfl))) ah))) J2,r1,J1,e1;refine⟨_,(ao (ss 2 nk (ec lW hr (aa bg ah))) J1),?_⟩
 ext
 refine⟨p,rfl,hp,λW M im ks ms bs t S a b c pl f last fr g H1 wa sg LG ZX wo qO k1=>?_⟩;obtain⟨⟨Kd,hW,YF,nKd⟩,nW,atim,la,hM,nM⟩:=wa;obtain⟨T,_,_,_,_,rfl,_⟩:=t8 atim;have sh:=Oh wo;obtain⟨d,hd⟩:∃d,d=jB a b c pl last ms fr g t:=⟨_,rfl⟩
 rw[<- hd]at atim sh;obtain⟨sh1,sh2,sh3,sh4⟩:=sh;clear la sg nKd nW nM;rw[e1]
 ext
 refine⟨_,qA hW vP,.ref T,H,a,b,c,pl,f,last,ms,fr,g,t,rfl,hd ▸ atim,wo,λx H3 so x3=>?_⟩;rw[e2]
 ext
 have hW3:=x3.at hW;have acv:=x3.at YF;refine⟨W,M,_,ms,rfl,hW3,(vN X9).trans ((vN X9).trans ((vN X9).trans vP)),x3.at hM,by have:=wo.ml;omega,λD4 H4 nD4 hD4 x4=>?_⟩;rw[e3]
 ext
 have qL:=x3.trans x4;have lk:(ks.map V.int).length<=30:=by rw[ab];exact ZX
 refine⟨_,qA (x4.at hW3) ((vN X9).trans ((vN X9).trans vP)),Kd,rfl,_,aJ (x4.at acv),by omega,by omega,gP (λi σ G=>Yd λ(v5:Option V)=>OH (rH σ [some (V.ref p),some (V.int n),some (V.ref W),some (V.ref x),some (V.ref D4),v5]) (Ext K H4 G)) ⟨_,rfl,Ext.refl⟩ ?_ ?_⟩
 . rintro i σ G hi ⟨v5,rfl,xG⟩;rw[my,ab]at hi;have X:=qL.trans xG;obtain⟨k,hk⟩:∃k,ks[i]?=some k:=⟨_,a9 hi⟩
   have ek:=dI (xs:=ks.map V.int) (i:=i) (v:=.int k) (by rw[ax,hk];rfl);have ll:((ms.map some++[none]).map on).length=ms.length + 1:=Y2
   obtain⟨o,hoL⟩:∃o,(ms.map some++[none])[(i + n) % (ms.length + 1)]?=some o:=⟨_,a9 (by rw[ar,ab];exact Nat.mod_lt _ (Nat.succ_pos _))⟩
   have eo:=dI (xs:=(ms.map some++[none]).map on) (i:=(i + n) % (ms.length + 1)) (v:=on o) (by rw[ax,hoL];rfl);have ho:∀m,o=some m->m∈ms:=λm e=>by
     rcases de.mp (bb hoL)with h | h
     . obtain⟨m',h',e'⟩:=fg.mp h;rw[<- e']at e;cases e;exact h'
     . rw[cq.mp h]at e;cases e
   have em:((0:Int) + (i:Int) + (n:Int)) % (((ms.map some++[none]).map on).length:Int)=0 + (((i + n) % (ms.length + 1):Nat):Int):=by
     rw[ll,t5,t5,Int.natCast_emod,Int.natCast_add i n]
   ext
   have atG:aL K H G 's' (.ref T):=hd ▸ atim.ext X;exact⟨_,qA (X.at hW) ((vN X9).trans ((vN X9).trans vP)),Kd,rfl,_,aJ (X.at YF),_,ek,_,aJ (xG.at hD4),by rw[ll];omega,_,aJ (xG.at hD4),_,by rw[em];exact eo,x,W,.ref T,H,a,b,c,pl,f,last,fr,_,g,t,ms,k,o,rfl,so.ext (x4.trans xG),X.at hW,vP,atG,wo,LG k (bb hk),ho,λG2 y=>⟨true,rfl,aK Y1 ⟨_,rfl,xG.trans y⟩⟩⟩
 . rintro σ G ⟨v5,rfl,xG⟩;rw[e4]
   ext
   have X:=qL.trans xG;have so2:=so.ext (x4.trans xG);have Vl:=so2;obtain⟨dx,h,dh,R,kk,oo,tr,s1,_⟩:=Vl;refine⟨_,_,s1,BS X9 X9 X9 X9,x,a,b,c,pl,f,last,fr,g,t,ms,rfl,so2,wo,λv G5 hv y=>?_⟩;obtain⟨T5,_,_,_,_,rfl,_⟩:=t8 hv;refine⟨T5,rfl,d,hd ▸ hv.is,sh1,sh2,sh3,sh4,_,qA ((X.trans y).at hW) vP,T,rfl,d,(atim.ext (X.trans y)).is,sh1,sh2,sh3,sh4,?_⟩;rw[Hm (rfl:d.shown=d.shown)];exact q _ (k1.trans (X.trans y).kp)
inductive IV (K:Frag)(vs:List V)(H:Hp)(Q:VK)(E9:XK):Prop
 | mk (a:Addr) (ns:List Int) (_:vs=[.ref a]) (_:aQ K H a (ns.map V.int)) (_:ns.length<=63) (_:Pw H) (_:∀H',Q (.bl true) H')
theorem Ow (ns:List Int)(l h:Option Int):∃ms:List Int,ql (ns.map V.int) l h=ms.map V.int:=by
 unfold ql;exact⟨(ns.drop _).take _,by rw[List.map_take,Bn]⟩
include B in
theorem Vp (F:bT K "law" "law" R8 f fd)(jw:⋯ "_law_cell_at" 1 ["_law_script","_law_k"] (NR K))(oU:⋯ "_law_well" 1 ["_law_cell"] (NS K))(l6:⋯ "_law_right" 13 ["_law_well_here","_law_turn"] (IU K)):(!0) 14 f fd ["_law_script"] (IV K):=by
 exists 0,["_law_script","_law_k","_law_cell"]
 obtain⟨a,ns,rfl,ha,ln,_,q⟩:=h;refine⟨_,(ao (mH PassesOwn.never rfl (ieM (MB rfl B.enumerate (am (aa (cB cR (jG (aa (ec jw hr (aa bg (aa ei ah))) ah)) (vS m7 bg (zB ei) (zB ei))) ah)))) (kX (dF (n:=2) rfl (aA (gn 1 nk) (aA (gn 2 nk) dN)))) (aE (iV (fj (ef (ec l6 hr (aa (ec oU hr (aa eB ah)) (aa cF ah))))) (aE (aR uP)) cD))) (aE (aR uP))),?_⟩
 ext
 refine⟨a,ns,0,rfl,ha,mx _,λn p np=>⟨_,(Ext.new np).same.seq ha,λp1 np1=>⟨[.int n],(Ext.new np1).at af,?_,λp2 np2=>?_⟩⟩⟩
 . have:=uq (ns.map V.int) (some 1) (some 5);rw[ab]at this;simp only[lx];omega
 obtain⟨ms,em⟩:=Ow ns (some 1) (some 5);rw[em]at np2 ⊢;have h2:upd (upd (upd H p (.lst [V.int n])) p1 (.lst (ms.map V.int))) p2 (.lst ([V.int n]++ms.map V.int)) p2=some (.lst ((n::ms).map V.int)):=af;generalize upd (upd (upd H p (.lst [V.int n])) p1 (.lst (ms.map V.int))) p2 (.lst ([V.int n]++ms.map V.int))=G at h2 ⊢;refine⟨⟨_,aQ.of h2⟩,Aa (xs:=(n::ms).map V.int) (λi σ G'=>FI λ(v1 v2:Option V)=>OH (rH σ [some (V.ref a),v1,v2]) (Ext K G G')) ⟨_,_,rfl,Ext.refl⟩ ?_ ?_ ?_⟩
 . rintro i σ G' _ ⟨v1,v2,rfl,x⟩;exact aQ.of (x.at h2)
 . rintro i x σ G' T hx ⟨v1,v2,rfl,xG⟩ nT;rw[ax]at hx;obtain⟨c,_,rfl⟩:=bp.mp hx;have xT:=bM (.tup [V.int i,V.int c]) nT
   ext
   exact⟨c,rfl,λp x y z np=>⟨p,i,rfl,⟨x,y,z,af⟩,λG2 k=>⟨true,rfl,aK Y1 ⟨_,_,rfl,xG.trans (xT.trans (k.ext np))⟩⟩⟩⟩
 . rintro σ G' ⟨v1,v2,rfl,_⟩
   ext
   exact q G'
end
theorem all_mk {l:PySem.W.OpenLaw}{K:Frag}{h:Heap}{fa:Addr}{tE t1 t2 t3 t4:Tok}{aG aP aI av:Addr}(X:K.In h)(G:h.Ns mainGlobals mg)(hfa:mg "law"=some (.ref fa))(B:B K mg aG aP aI av tE t1 t2 t3 t4)
   (Ox:CI K "Survey" az) (Vq:CI K "Leaf" aI) (QN:CI K "Inner" av) (QO:CI K "House" aX) (QS:CI K "Store" aS) (SV:Qw K az)
   (HC:Vf K aX) (SC:Vg K aS) (iu:uN K aS) (d1:DI K "is_number" uw) (d2:DI K "is_whole" wQ) (d3:DI K "is_whole_from" mz)
   (d4:DI K "is_key" De) (d5:DI K "is_stretch" rK) (d6:DI K "is_half" Ag) (d7:DI K "is_action" uy) (d8:DI K "is_note" tQ) (d9:DI K "is_rising" uA)
   (d10:DI K "are_wholes" rM) (d11:DI K "is_version" rN) (d12:DI K "are_versions" nF) (d13:DI K "is_row" Df) (d14:DI K "are_rows" wR) (d15:DI K "are_notes" uB)
   (d16:DI K "has_word" wU) (d17:DI K "is_leaf_told" jg) (d18:DI K "is_inner_told" mD) (d19:DI K "is_plan" tP) (d20:DI K "is_rule" Af) (d21:DI K "are_rising_from" jH)
   (d22:DI K "_law_cell_at" nH) (d23:DI K "_law_well" uE) (d24:DI K "_law_draw" uF) (d25:DI K "_law_value" rS) (d26:DI K "_law_number" qd) (d27:DI K "_law_action" ir)
   (d28:DI K "_law_rule" gb) (d29:DI K "_law_rows" gc) (d30:DI K "_law_tray" fk) (d31:DI K "_law_room" bG) (d32:DI K "_law_all" kZ) (d33:DI K "_law_told" jL)
   (d34:DI K "_law_world" bA) (d35:DI K "has_key" Ah) (d36:DI K "have_common" pT) (d37:DI K "are_beneath" pZ) (d38:DI K "is_tray" Aj) (d39:DI K "are_within" rR)
   (d40:DI K "is_row_beneath" ki) (d41:MI K az "__init__" "Survey.__init__" bW) (d42:MI K az "may_have" "Survey.may_have" jK) (d43:MI K az "has_floors" "Survey.has_floors" iR) (d44:MI K az "is_leaf_sound" "Survey.is_leaf_sound" gG) (d45:MI K az "is_inner_sound" "Survey.is_inner_sound" bQ)
   (d46:MI K az "await_children" "Survey.await_children" cj) (d47:MI K az "takes" "Survey.takes" cO) (d48:DI K "is_frame" w5) (d49:DI K "image_fault" qc) (d50:DI K "own_rows" wX) (d51:MI K aI "__init__" "Leaf.__init__" mE)
   (d52:MI K av "__init__" "Inner.__init__" j8) (d53:DI K "room_made" jJ) (d54:DI K "top_of" rO) (d55:MI K aX "__init__" "House.__init__" j9) (d56:DI K "new_house" uC) (d57:MI K aS "__init__" "Store.__init__" kg)
   (d58:DI K "store_from" gF) (d59:DI K "store_of" w9) (d60:DI K "half_acts" nB) (d61:DI K "does" Nz) (d62:DW K "value_of" "at" wV) (d63:DI K "up_to" HV)
   (d64:DI K "touching" wW) (d65:DW K "seen" "at" NB) (d66:DI K "child_place" pU) (d67:DI K "versions_in" pW) (d68:DI K "rooms_to" wY) (d69:DI K "told_value" gE)
   (d70:DI K "check_key" ux) (d71:DI K "check_mark" rP) (d72:DW K "read_key" "at" wZ) (d73:MW K aS "read" "Store.read" "at" rQ) (d74:DI K "_law_acts" nJ) (d75:DI K "room_told" jI)
   (d76:MI K aS "marks" "Store.marks" pX) (d77:DI K "_law_ats" xg) (d78:DI K "stretches" nG) (d79:DI K "children_of" pV) (d80:DI K "all_rooms" fZ) (d81:DI K "roll_of" Ai)
   (d82:MI K aS "image" "Store.image" pY) (d83:DW K "read_way" "at" kY) (d84:MW K aS "way" "Store.way" "at" uD) (d85:DI K "_law_found" dU) (d86:DI K "_law_come" iF) (d87:DI K "_law_key_right" b8)
   (d88:DI K "_law_right" fE) (d89:DI K "law" R8):
   ∃fd:FuncData,(∀(s:Shared) (v:Value),BindsTo s fd ⟨[v],[]⟩ [("_law_script",v)])/\∀base:Heap,K.In base->base.Ns mainGlobals mg->dR l.prog w K mg base pH 14 fa fd ["_law_script"] (IV K):=by
 obtain⟨f,fd,a,F⟩:=d89;cases hfa.symm.trans (ot X G a);refine⟨fd,λs v=>by obtain⟨_,_,_,_,_,_,_,_,_,rfl,_⟩:=F.ex;exact .of_eq rfl,λbase _ _=>?_⟩;have p:=@DI.c l.prog w K mg base h X G;have aU:=p d1 λF=>A8 B F;have bP:=p d2 λF=>Dh B F aU;have bD:=p d3 λF=>tR B F aU;have kj:=p d4 λF=>KC B F bP;have lB:=p d5 λF=>yF B F bP;have o6:=p d6 λF=>FP B F aU;have nO:=p d7 λF=>Bb B F o6;have tT:=p d8 λF=>FQ B F bD lB nO;have bX:=p d9 λF=>Bc B F;have dW:=p d10 λF=>yH B F aU;have lE:=p d11 λF=>yJ B F aU bD;have ji:=p d12 λF=>uS B F lE bX;have xw:=p d13 λF=>KH B F kj ji;have qy:=p d14 λF=>Dl B F xw bX;have nQ:=p d15 λF=>Bd B F tT;have gU:=p d16 λF=>Dn B F;have jn:=p d17 λF=>uU B F gU aU qy;have iO:=p d18 λF=>tU B F gU aU dW nQ;have tV:=p d19 λF=>FW B F;have i7:=p d20 λF=>FZ B F bP tV;have gI:=p d21 λF=>qz B F dW bX;have jw:=p d22 λF=>uV B F;have oU:=p d23 λF=>Be B F;have ak:=p d24 λF=>Bf B F;have lJ:=p d25 λF=>yK B F ak;have fP:=p d26 λF=>xy B F ak;have jT:=p d27 λF=>xC B F ak fP;have nV:=p d28 λF=>Bg B F ak;have cY:=p d29 λF=>Bj B F ak lJ;have cZ:=p d30 λF=>Bl B F ak jT;have iG:=DI.r (P:=l.prog) (w:=w) (base:=base) X G d31 λF b kp m=>Bm B F (b:=b) (kp:=kp) (m:=m) (ak:=ak) (cY:=cY) (cZ:=cZ);have jk:=DI.r (P:=l.prog) (w:=w) (base:=base) X G d32 λF b kp m=>Ds B F (b:=b) (kp:=kp) (m:=m);have nX:=p d33 λF=>Bo B F;have lW:=p d34 λF=>yR B F ak nV iG jk nX;have i6:=p d35 λF=>F7 B F;have jU:=p d36 λF=>xO B F;have eE:=p d37 λF=>xP B F jU;have tY:=p d38 λF=>F8 B F eE;have lN:=p d39 λF=>yS B F;have gZ:=p d40 λF=>sf B F i6;have xR:=MI.Yj (P:=l.prog) (w:=w) (base:=base) X G d41 Ox λF=>qC B F SV;have fV:=MI.c (P:=l.prog) (w:=w) (mg:=mg) (base:=base) d42 λF=>qD B F SV bP;have fm:=MI.c (P:=l.prog) (w:=w) (mg:=mg) (base:=base) d43 λF=>oh B F SV;have dO:=MI.c (P:=l.prog) (w:=w) (mg:=mg) (base:=base) d44 λF=>kB B F SV gZ;have c9:=MI.c (P:=l.prog) (w:=w) (mg:=mg) (base:=base) d45 λF=>jV B F SV bX lN tY eE;have dg:=MI.c (P:=l.prog) (w:=w) (mg:=mg) (base:=base) d46 λF=>jW B F SV;have iP:=MI.c (P:=l.prog) (w:=w) (mg:=mg) (base:=base) d47 λF=>uW B F SV jn iO fV dO fm c9 dg;have qF:=p d48 λF=>DG B F i7 bD gI;have jX:=p d49 λF=>xQ B F SV qF xR iP;have g7:=p d50 λF=>DH B F;have ud:=MI.Yj (P:=l.prog) (w:=w) (base:=base) X G d51 Vq λF=>t9 B F;have Bt:=MI.Yj (P:=l.prog) (w:=w) (base:=base) X G d52 QN λF=>sr B F;have oq:=p d53 λF=>Bs B F g7 ud Bt;have xY:=p d54 λF=>KR B F oq;have pe:=MI.Yj (P:=l.prog) (w:=w) (base:=base) X G d55 QO λF=>sy B F HC;have oE:=p d56 λF=>Bu B F pe ud;have Bw:=MI.Yj (P:=l.prog) (w:=w) (base:=base) X G d57 QS λF=>sA B F SC i7 oE;have lO:=p d58 λF=>yU B F SC Bw pe xY;have qI:=p d59 λF=>DJ B F jX lO;have oH:=p d60 λF=>Bx B F;have Gd:=p d61 λF=>QF B F oH;have oK:=DW.kc (P:=l.prog) (w:=w) (base:=base) X G d62 λF=>DM B F;have pq:=p d63 λF=>Od B F;have g8:=p d64 λF=>DN B F i6;have BJ:=DW.kc (P:=l.prog) (w:=w) (base:=base) X G d65 λF=>QG B F pq g8 Gd;have jY:=p d66 λF=>yc B F;have eK:=p d67 λF=>ye B F;have g9:=p d68 λF=>DP B F jY;have fK:=p d69 λF=>yV B F g9 eK oK BJ;have gf:=p d70 λF=>BN B F kj;have fJ:=p d71 λF=>yX B F HC aU;have jM:=DW.kc (P:=l.prog) (w:=w) (base:=base) X G d72 λF=>DS B F HC gf fJ fK;have j0:=MW.kc (P:=l.prog) (w:=w) (mg:=mg) (base:=base) d73 λF=>qf B F SC jM;have ON:=MW.dc (P:=l.prog) (w:=w) (mg:=mg) (base:=base) d73 λF=>qf B F SC jM;have oR:=p d74 λF=>BP B F;have oO:=p d75 λF=>BQ B F g7;have ju:=MI.c (P:=l.prog) (w:=w) (mg:=mg) (base:=base) d76 λF=>yg B F SC HC;have qJ:=p d77 λF=>DT B F;have oQ:=p d78 λF=>BV B F;have jZ:=p d79 λF=>yi B F oQ;have oM:=p d80 λF=>BU B F jZ;have ue:=p d81 λF=>Gh B F oM oO;have jv:=MI.c (P:=l.prog) (w:=w) (mg:=mg) (base:=base) d82 λF=>yh B F SC HC ue ju;have jN:=DW.kc (P:=l.prog) (w:=w) (base:=base) X G d83 λF=>DV B F HC gf fJ g9 g8 pq eK fK;have lT:=MW.kc (P:=l.prog) (w:=w) (mg:=mg) (base:=base) d84 λF=>sE B F SC jN;have lV:=MW.dc (P:=l.prog) (w:=w) (mg:=mg) (base:=base) d84 λF=>sE B F SC jN;have lR:=p d85 λF=>yY B F;have jO:=p d86 λF=>BX B F oR;have ia:=p d87 λF=>sF B F iu lR jO lT lV j0;have l6:=p d88 λF=>yZ B F iu lW qI jv qJ ia;exact Vp B F jw oU l6
theorem walk {l:PySem.W.OpenLaw}{q:Program}{loose:List Str}{XP:(Str->Option Value)->Heap->Prop}{YP:World->Heap->Prop}{d:DefRec}{K:Params->Frag}(hn:l.most=some 63)(Q7:d.params.defaults=[])
   (hY:∀(w:World) (h:Heap),YP w h->(K w.params).In h)
   (F:∀(w:World) (mg:Str->Option Value) (fa:Addr) (h:Heap),(K w.params).In h->h.Ns mainGlobals mg->mg d.name=some (.ref fa)->
     ∃fd:FuncData,(∀(s:Shared) (u:Value),BindsTo s fd ⟨[u],[]⟩ [("_law_script",u)])/\∀base:Heap,(K w.params).In base->base.Ns mainGlobals mg->dR l.prog w (K w.params) mg base pH 14 fa fd ["_law_script"] (IV (K w.params))):
   PySem.W.WalkO q loose XP YP l.row.toRowW d [] (λf vs=>PySem.call f vs):=
 L2.Px (n:=63) (k:=14) (x:="_law_script") (CX:=λ_=>pH) (sp:=λw=>IV (K w.params)) hn Y1 Q7 ⟨rfl,by decide,by decide,rfl⟩ hY F (λ_ _ a ns hl ho hS=>⟨a,ns,rfl,hS,hl,ho,λ_=>rfl⟩) λ_ _ _ _ _ z=>z
end eV
open PySem PySem.W PyProof.Rows
theorem PySem.Challenge.cw_notefall_k56_the_way_of_a_value_holds : PySem.Challenge.rw_notefall_k56_the_way_of_a_value.Holds := by
 w_on;refine holds_law eV.VL λsaid=>?_
 refine holds_open (q:=eV.hQ) (loose:=eV.B7) (Xt:=eV.IY eV.hQ eV.Gj) (XP:=XL eV.hQ eV.Gj) (Yf:=eV.Y6) (Ya:=eV.Y7 eV.hK) (YP:=Hook.says (kHook eV.hK eV.Wh eV.hE)) (N:=13722) eV.hl (Hook.of (kHook eV.hK eV.Wh eV.hE)) (Hook.keeps (kHook eV.hK eV.Wh eV.hE)) (λs e=>xl_of s (Bool.and_eq_true_iff.mp e).1) XL.keeps (by rfl) (by rfl) (by rfl) (λs e=>recFacts_of (Bool.and_eq_true_iff.mp e).2) (by rfl) (by first | assumption | decide +kernel) X9 ⟨rfl,rfl,rfl,rfl,rfl,by decide +kernel⟩ ?hw ?hc
 case hw=>w_witness2
 case hc=>
 k_fill
 refine eV.walk (l:=PySem.Challenge.rw_notefall_k56_the_way_of_a_value) rfl rfl (λw h Y=>PySem.W.kIn_of Y) ?F
 case F=>
   intro w mg fa h KX G hmg
   refine' eV.all_mk KX G hmg ?_ ?_ ?_ ?_ ?_ ?_ ?_ ?_ ?_ ?_ ?_ ?_ ?_ ?_ ?_ ?_ ?_ ?_ ?_ ?_ ?_ ?_ ?_ ?_ ?_ ?_ ?_ ?_ ?_ ?_ ?_ ?_ ?_ ?_ ?_ ?_ ?_ ?_ ?_ ?_ ?_ ?_ ?_ ?_ ?_ ?_ ?_ ?_ ?_ ?_ ?_ ?_ ?_ ?_ ?_ ?_ ?_ ?_ ?_ ?_ ?_ ?_ ?_ ?_ ?_ ?_ ?_ ?_ ?_ ?_ ?_ ?_ ?_ ?_ ?_ ?_ ?_ ?_ ?_ ?_ ?_ ?_ ?_ ?_ ?_ ?_ ?_ ?_ ?_ ?_ ?_ ?_ ?_ ?_ ?_ ?_ ?_ ?_ ?_
   rotate_left 12
   all_goals repeat' first | k_is | kit_is | exact ot KX G (by k_is) | exact PySem.W.mg_none_of KX G (by k_is) | refine L2.di ?_ ?_ ?_ ?_ | refine L2.mi ?_ ?_ ?_ ?_ ?_ | refine L2.dw ?_ ?_ ?_ ?_ ?_ ?_ ?_ | refine L2.mw ?_ ?_ ?_ ?_ ?_ ?_ ?_ ?_ | exact L2.PL (by k_is) Y2 rfl | refine L2.na_ ?_ | rfl | decide +kernel | constructor

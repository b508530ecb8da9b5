import PyProof.Rows.All
import Wide.All
import OpenK.AllK
import Wide.FinOn
import Lean
import PyProof.EqAt
import PyProof.EqKinds
import PyProof.TupleCall
import PyProof.ZipIter
import PyProof.ListNew
import PyProof.TupleIter
import PyProof.WalksMore
import PyProof.AttrMissHeap
import PyProof.NeKinds
import PyProof.EnumStmt
import PyProof.Rows.ZipGen
import PyProof.EnumFor
import PyProof.ConsumeWalk
import PyProof.StrWalks
import PyProof.FString5
import PyProof.TupleKey
import PyProof.DictRoadsH
import PyProof.Rows.TupTab
import PyProof.ReprStr
import PyProof.StrLawsRepr
import PyProof.ListMulRoad
import PyProof.StrOps2
import PySem.Challenge.RW_scoreflow_k16_whole_best_tree
set_option compiler.extract_closed false
set_option Elab.async false
set_option linter.all false
set_option maxRecDepth 100000
section
open Lean
def ndS (k:Name)(a:Array Syntax):Syntax:=.node .none k a
def wdC (c:Char):Bool:=c.isAlphanum||c=='_'||c=='\''||c=='.'||c=='!'||c=='?'||c.toNat>0x370&&c.toNat<0x2000||c.toNat>=0x2080&&c.toNat<=0x2089
def wdS (l:List Char):String×List Char:=(String.ofList (l.takeWhile wdC),l.dropWhile wdC)
mutual
def atS:Nat->List Char->Option (Syntax×List Char)
|0,_=>none
|n+1,'('::l=>
 let (w,r):=wdS l
 match r with
 |':'::'='::r=>match apS n r with
  |some (e,')'::r)=>some (ndS ``Parser.Term.namedArgument #[mkAtom "(",mkIdent w.toName,mkAtom ":=",e,mkAtom ")"],r)
  |_=>none
 |_=>match apS n l with
  |some (e,')'::r)=>some (e,r)
  |_=>none
|n+1,'⟨'::l=>match csS n l #[] with
 |some (a,r)=>some (ndS ``Parser.Term.anonymousCtor #[mkAtom "⟨",ndS `null a,mkAtom "⟩"],r)
 |none=>none
|_+1,'?'::'_'::l=>some (ndS ``Parser.Term.syntheticHole #[mkAtom "?",mkAtom "_"],l)
|_+1,'?'::l=>let (w,r):=wdS l;some (ndS ``Parser.Term.syntheticHole #[mkAtom "?",mkIdent w.toName],r)
|_+1,'.'::l=>let (w,r):=wdS l;some (ndS ``Parser.Term.dotIdent #[mkAtom ".",mkIdent w.toName],r)
|_+1,l=>
 let (w,r):=wdS l
 if w=="" then none else if w=="_" then some (ndS ``Parser.Term.hole #[mkAtom "_"],r) else if (w.toList.headD 'a').isDigit then some (Syntax.mkNumLit w,r) else some (mkIdent w.toName,r)
def apS:Nat->List Char->Option (Syntax×List Char)
|0,_=>none
|n+1,l=>match atS n l with
 |none=>none
 |some (f,r)=>match agS n r #[] with
  |some (#[],r)=>some (f,r)
  |some (a,r)=>some (ndS ``Parser.Term.app #[f,ndS `null a],r)
  |none=>none
def agS:Nat->List Char->Array Syntax->Option (Array Syntax×List Char)
|0,_,_=>none
|n+1,' '::l,a=>match atS n l with
 |some (e,r)=>agS n r (a.push e)
 |none=>none
|_,r,a=>some (a,r)
def csS:Nat->List Char->Array Syntax->Option (Array Syntax×List Char)
|0,_,_=>none
|n+1,l,a=>match apS n l with
 |some (e,','::r)=>csS n r ((a.push e).push (mkAtom ","))
 |some (e,'⟩'::r)=>some (a.push e,r)
 |_=>none
end
def tbS:Array String:=#["W.Frag","List Str",".inl rfl","hr.mono ?B","List yw","yt rs","Inv X pins σ H s","yy rs","pq 0 rfl","World","Program","False","yg _","List D","false","model X.prog X.w","model prog w","Yc.refl _",".ref a","Value","Zs mg","List V",".ref C","Shared","pq 1 rfl","yL rs","z.elim","y8 ?_","YT row.length","pq 2 rfl","Pur.refl fh","h F σ H S","Jh rs row k","pq 4 rfl","List Value","pq 3 rfl",".lst xs",".none","L2.KOf KX","List.Perm.refl _","TW rs row","Gl X x","s.toks","y9 row","List Expr","SumG rs row M b s",".raw ?Df","zR rs row k",".ref f","L2.St",".ref z",".inl z","hr.mono ?A","qz st","ye _ hx","yh _ e","X.comp sc N c","List Key","Room k X.A","List κ","Q .non H'","yO hs","P3 X Γ b (.int j)","ks.zip xs","P3 X Γ a ?Bs","I.tok _","List α","zM rs","PySem.W.mg_none_of KX G ?_","Option Int","GB rs row","List Addr","HOk P w H h","List K2",".lst ?Az","Around","pq 6 rfl","p1.fh","Z9 rs","Scope","yp st","Sat K B Γ Ω F σ H","My.den_pos' q","Array Value","List Stmt","QO X.K gs",".raw (.ref c)","Qn P w","BT rs row",".inr z","e1.trans e2","My.den_pos' p","List.range n","model P w","FnScope N ps ?BI","JX ?A5 ?A7 rs","ye _ hq","kbF rs row","ClsG K C_Grammar","RuB hs r",".tup xs",".ref p","yF _ rfl",".ref b",".raw ?AI","yO ws","trivial","EP X pins σ Q","absurd ?uJ yN","p1.trans p2","I.hok.fresh ?AC","y7 ?A8 yx rfl","S.pur p",".dK kvs",".lst ds","isI i2",".int i","⟨_,rfl⟩","g i j","pq 5 rfl","vL rs","nP ?qL i j","c.b1.extBut s1.extBut D.l1z","c.a1.extBut s1.extBut D.i1z","qb hs row kb x i j","List (Option D)","oDk X.K ks ds","sl.mono p1.ff","ns.map V.int","k _ _ ?A2 e","eval e X.env","K w.params","s.heap.objs.size","qu kb h i j","PE X a ta","I.ok.hd hc","X.N.Nodup","QO X.K ds",".ref it",".tup ds","IsL.nil",".lst ?AP","yh _ q","wds t",".bl k",".str x","ha pins s σ H _ I h","ZQ t x y rest i j k","P3 X Γ a ?Bq","W3 X B rest Γ' Ω' E","List.range ?Bx","yb ha yq he","wM n W B'","VS hs row rs i j","P3 X Γ a d","⟨rfl,rfl⟩","VH Ω F H","List.range t","gD C_Grammar st rs","List Int","L.map jz","hp r hr",".dT kvs","ClsB K C_Bests","ClsS K C_Sums","some v","Sz n q","String","Params","row.length",".inl q",".bl true","ye _ yo","y7 ?AO yx rfl",".Name x pos","Rat.divInt t b","CompOk SX sc XN N nt caps",".inl ?FM","List.range k","E.to X.K B F",".ins C dx fs","Option Expr","P3 X Γ e d",".builtin id","zi hs rs L","True.intro","bs.map y9","yR.mp S.nd",".lst ?Bh",".frz o u","Sub.set rfl","List Env","jD N ds",".inr rfl","some e","YX y u","YX v u","Qz ?A7","yO ?A5","cx0 P w K mg base N q st f cdv A outer s H E","some ?Bg","SB hs row T i j c k l s","he pins s σ H _ I h","yb yx (yb yx yq)","Loc X.env.scope x","bs.getD i false","WS X rest ?Ct","QP hs row kn i j","h1 F1 σ H1 S1","uV nt caps Γ","L2.start N vs","wpAny_onRaise ?_","PE X b tb","Cls X.K C","⟨_,Qb,?_⟩",".bool true","some ?Am",".ref t.a","FuncData","ps.zip us","List Nat","hs.take i","pK ks k","ye _ z","top 45","tb n f","some d",".ref l","I.bare","yb ?AT yq","pq 8 rfl","A.deeper (envOfC q ?BI s.heap.objs.size f cdv)","Zi t x y rest i j k","ha pos pins s σ H _ I h","wBm hs row kn b i j kw","⟨rfl,?D,?D,?D,rfl,?D⟩","P3 X Γ a ?CF",".seq its.toArray n",".Subscript a b pos","V3 X B e Γ Ω R","IsL X.K H ds xs","My.G p.den q.den","P3 X Γ b d'","f1.trans f2","btf rs row","WO P w K mg base","rawInt T","⟨_,e⟩","wB rs row","upd H a o","rs.take i","PE X e te","KV kvs vs","⟨st,rs,rfl,rfl⟩","S'.toPur rfl","start N vs","bdD rs row",".dk ks ds","wM2 L ss","YK uo ?_","ps.take i","List ?Av","ye _ ?Cm","J3 rs hs L","OsState","s1.toks",".ref fa","pqc 2 rfl","pqc 1 rfl",".bl false","yk.mp hp","FnOk X.prog X.w X.K X.mg X.base CX k f fd ps sp","envOfC qual scope s.heap.objs.size f cd","ky X.prog X.w X.K l kvs","OpR X (compareOp op) r","⟨_,?Be,rfl,rfl⟩","kA row.length ?A5","PassesOwn ?AF X.A X.env X.xe","bPm hs row kb b i j kp","stR hs row rs i j s n",".BinOp a .Add b pos","SeqAt.EqAt.same _","Array (Option Value)","Pur.lay e2 hT",".Tuple es x1 tpos","Pur.lay S1.fh hq",".frz o ?Bp","Vis X.env.scope x","pyNext ?Ao","IsL X.K H es ys","E.then X B rest","ZipApart z TI TO i1 i2 t1 t2","vf X.K fd ps ds","QD L ch e i j","IsL.mono e e3","IsL K F ds xs","eval b X.env","JW K C fs ds",".ref s.heap.objs.size","pA ks xs k v","kp b o hx e","gc xs lo hi","Option Addr","woS hs row kn i j x","UM X pins H b","i1.mono f2","i _ _ _ hq","hb x hx hh","h1.trans z","g.pos r hr","atD kvs ks","omG P w K C_Sums","Yo K mg x st ps","Uq.mono ?A","Cls X.K Cc","ub CX X E","ii rs row","fs.zip xs","cur i j s","zj ?A5 rs","ks.map KU","qj dvs ds","yR.mp nd","omB P w K C_Bests","yk.mp h","af P w K mg base","grp h g","g.cur h","Yc H H'","Yc F F'","bs.zip ns",".type T",".inl yT","yO t.hs","1650001","yb ?AO ?FW","ZQ ?MM x y rest i j ?Bx","JS ?Bn ?Cn ?_","I1.fpOk ?AC (I1.hok.fresh ?AC)","PySem.W.kHook Law.KP Law.KA Law.KE","ZipApart z TI TO i1 i2 l1 l2","A.deeper (envOfC x ?BI s.heap.objs.size f cdv)","yb ?AT (yb ?AZ yq)","ZQ t x y rest i j ?Bx","Rat.divInt q.num p.den","List.range bs.length","xA P w K mg base C_Bests","vq hs row i j s n r","tupleKind ?BP","P3 X Γ a ?CL","Option.some.inj h1",".Subscript o i pos","Rat.divInt p.num q.den","rnd hs row rs i j s","ch i (L.idxOf o)","yA.mpr ⟨q,hq,e⟩","pu.trans p2","Γ.set i ?De","omG P w K Cs t","TP X pins σ Q","PL3 X Γ es ds",".inl (yE.mp z)","⟨_,hz,rfl⟩","y7 ?AT yx rfl","omB P w K C t","oDt X.K kt ds","kj X.K H d ds","P3 X Γ ?Co d","PT3 X Γ c k","PT3 X Γ a k","yb ?A8 (yb yx yq)","Xi P w K mg base",".seq vs.toArray",".Name y py","xn P w K mg base C_Grammar","Sat.entry fh il","Pur.refl e2",".raw (.ref lo)","oDt K kt vs",".bl ?Bu","vI kvs k v","QH X.K C f","Is K F d v",".Name x np","S.od q ?BY","⟨o,e⟩","My.G b ?yO","PT X a tA","ns.map D.int","ds.length","S1.pur p2",".Name x p","S.back p","UJ.mp hr","S.fr b q","yk.mp hi","bGs rs row c","yk.mp hd","tup (qM ?FP)","xQ (qM ?FP)","kN row.length ?DZ h t","sl.mono (p1.ff.trans p2.ff)","starEach es X.env","Builtin.Tuple.tupleExact _","cx0 P w K mg base N x st f cdv A outer s H E","Zn ?A8 yS.c yS.n_kept_heads rfl","uG r1 r2 h1 h2 hk hn ih","hb pins s1 σ H1 _ I1 q1","s.heap.push W.emptyDict","Sat K B Γ Ω' F' σ H'","⟨.bl _,H,I,rfl,?_⟩","⟨a,b',c,row,rs,hs,kb,kp⟩","⟨.bl _,H,I,rfl,q⟩","I.mod.glob.keeps I.bk","yW (yn e) I.ok.above","ho pins s σ H _ I h","hl pins s σ H _ I h","ym ⟨_,rfl,ym h⟩","F.args_zip_next_1 _",".UnaryOp .Not a pos","upV hs e v r","e2 _ _ (e1 _ _ hl)","bJ X.prog X.w l xs","P3 X Γ b ?Bs","I3 X Γ tg iter ds","Vh s.heap z TI TO f0 f1","Vd s.heap z TI TO f0 f1","IsL.cons iv IsL.nil","Inv X pins σ H' s'",".Attribute e f pos","σ.set i ?Cf","s1.heap.objs.size","P3 X Γ a ?CK","ForInStep.yield r","QT (ql (v8 (jb z.len rfl ?AO) yx)) ?_ ?_",".frz ob (.dK ?B1)","bU P w K mg base","S.pur ?GK","y6 _ (y6 _ (VJ hb e))","omG P w K Cs t'","Nat.mod_lt _ ?B",".tup (k.map kV)","nU P w K mg base","omB P w K C t'","JW X.K C fs ds","mX P w K mg base","⟨0,0,0,0⟩","Rat.divInt n ns.sum","mM P w K mg base","SqT X.K H a xs","SqL X.K H a xs","jac hs e rs m","fM kn h i j t","Pur.lay fh hq","Option Shared","I.ok.bs b o e","s2 _ _ c3 ?KG","hz i gs Ω' j","s1.extBut _ _ D.TOz ho","xF nt caps σ","binaryOp .Add","Qn X.prog X.w","My.den_pos' _","neC b o e hx","chS L ch h o","ZOk rs row n","PT3 X Γ e k","List Keyword","GOk hs ws rs","yb hb yq hs2","Sl K F Γ σ","yR.mp S1.nd","tOp r ta tb","ns.getD k 0","kvs.map ?C","IsPair s.heap TO a b","S.f0.trans w","K.In s.heap","List.range q","g.body r hr","absurd y hb","KT H kvs xs","yE.mpr rfl","sh (f' k')","i1.mono fh","h pins s I",".fields fs","cm P w K mg base","atKey xs k","S.fh _ _ q",".Tuple es x1 tp",".ref g5.objs.size","cY P w K mg base","⟨_,rfl,?_⟩","W.fnOf x x (Jj st) ?Ar ?BI .none kV doc pm an cdv ct","W.fnOf x qual (Jj st) ?Ar ?BI .none kV doc pm an cdv ct","ho pins s2 σ H2 x y v u _ I2 r1 r2 q2","WM CX P w K mg base N qual scope f cd A outer s H E","Yb (yW (yn e) (I.ok.cab x c hfn hc))","s3.extBut _ _ D.TOz.symm ?LQ","hbody f cdv A outer s H vs Q E hr h","yb (pq 7 rfl) (yb ?AX yq)","⟨F2,?G4,ix.mono e1⟩","s.heap.IsSliceOf sl vl vu .none","ZB (i:=0) Q0 rfl ?Hm Vj","Bd X sc N tg elt ifs ?DN ds pre","P3 X Γ ?J9 d3",".inr (.inl ?KA)","y7 ?AZ yx rfl","IsL.cons ?Jk i2","body f cdv A outer s H E hr","W.instObj C s.heap.objs.size","lH P w K mg base C_Grammar","iD P w K mg base C_Grammar",".inl ⟨rfl,_,SqL.of ha⟩","P3 X Γ o (.obj Cc fs gs)","sliceBounds lo hi none n","hb pins s1 σ H1 Q I1 q1","I1.kept (t':=?EH) kp","y4 (s:=s) hz rfl (x:=.bool false) rfl ?_","⟨σ',H',I.unwish,q⟩","gZ P w K mg base C_Sums","f (.int i t) (.int j u)","GPar M b hs row L br ch","Is.lstI ?FM (il.mono w)","qu ?BZ st 0 row.length","Sat X.K B Γ Ω F σ H","tupleKind_room_in1 hu","h F1 σ H1 (S.pur p1)","OpR X (binaryOp op) r","ObjM s.heap x dx C mA","HT.sIx xs.length 0 lo","y4 (s:=s) hz rfl (x:=.ref TI) rfl ?_","I.base.keep b o e n hb hx","xp ht rfl rfl hr ?AC","s2.extBut _ _ c3 ?KG",".inr ⟨o,e _ _ h⟩",".Slice lo hi none p2","Zt hs row kn br i j kw","I.base.free b o e n hx","hi pins s σ H _ I h","assignEach es X.env","P3 X Γ b (.lst es)","List.getElem_inj nd","Heap.SameBut d h h'",".Subscript o i tpos","⟨x,h1,h2.symm⟩","ZipL s.heap TI i1 i2 t1 t2 xs ys k","⟨u,h1,h2.mono w⟩","⟨_,rfl,?A,?A,?_⟩","zipApart_new lt1 lt2","ds.set j (.dt kt vs)","HOk X.prog X.w H' h'","q _ H' F' p (Uw F')","⟨mc,nsK a1,b1⟩","VT3 X B e Γ Ω RT","V3 X B ?yZ Γ Ω R","Pur.layOwn S.fh hl","PL3 X Γ es (kT k)","Ju names cells acc","ForInStep.yield ok",".ref s2.heap.objs.size","yb ?A8 (yb ?AO yq)",".Tuple es' x1 tpos","⟨pg,hd,po,sa⟩","zW (EK ?CS k) k i","sh (chF L ss r j)",".BinOp a op b pos","vq t.hs t.row i j ?wO n r","h.Ns mainGlobals mg","IsL.cons i1 IsL.nil","p2.ff.trans p3.ff","h3 F2 (w.trans e)","Loc X.env.scope y","W.plainGet_of hg","C3 X Γ a op b k",".inl (fh.seq s1)",".Tuple es x1 pos","q v H2 F2 ?Fk i2","lw P w K mg base","⟨v,H,I,r,h⟩","⟨p,rfl,rfl⟩","h1.symm.trans e","PySem.call f vs","PI X tg iter wi","EnG M e n m L a","iX P w K mg base C_Sums","Y5 K Cc m q st ps","xY hi hv hd hcd",".bl (bs.any id)",".bl (bs.all id)","iI K Ω Γ Γ'","backTo pos ?GU","W.instObj C dx","Qt P w H h a o","Nat.succ.inj e","K8 s.heap ks a","False.elim hq'",".int ys.length",".inl (e _ _ h)","PTs ?Au ifs (tc c)","lA P w K mg base C_Grammar C_Bests","Nat.lt_succ_self _","pu.ff.trans w","i1.mono p2.ff","PO3 X Γ lo i","P3 X Γ ?yZ d","L3.ck KX G ?a","IsTup.new _ _","IsL K H ds xs","I.freeC x c e",".inr (.inl w)","pre ds.length","absurd fa' hb","Pur F H F' H'","PO3 X Γ hi j","PF3 X Γ e ds","False.elim hq","DP K F kvs xs","gU P w K mg base C_Grammar","PE ?Au elt (te c)","p4.hh _ _ hH2","sL P w K mg base","relabel sc X.env","lI P w K mg base","ip P w K mg base","Yy (s:=s) c.pr rfl ?_","PG ?Au tg (g c)","yb (pq 10 rfl) yq","iN P w K mg base C_Bests","⟨_,_,rfl,rfl⟩","Zi ?Gd x y rest i j ?Bx","sj P w K mg base",".Attribute o m apos","⟨ok.mod,ok.kind,ok.glob,ok.blt,ok.above,ok.inj,ok.has,ok.cab,ok.hd,ok.frames,ok.stk,ok.exf,ok.bs,ok.bsz,ok.noex,ok.exfs,ok.funs,ok.frf⟩","wpAny_pyIter_slot hT F.slot_zip_iter (YQ F.slot_zip_iter hT F.entry_zip_iter ?_ (F.args_zip_iter_1 _))","s1.extBut _ _ c1 q","q l' _ _ F' ?LE (pu.hh.free hl) (pu.fh.free hl) yT j1","YK (qM (yb (Jn py ?A8 ?AT ?_) (yb (Jn py ?AO ?AT ?_) yq))) ?_","YQ PyProof.Rows.slot_tuple_getitem ht.typeIs entry_tuple_getitem ?_ (args_tuple_getitem _ _)",".Subscript a ?If pos","W.topRun treeTable pr w 11 (some (.ref 6)) ?jW (s0 w os) (W.topStub pr)","rU PySem.F.plainAttrs_list PySem.F.slot_list_append PySem.F.type_list_append wg a b","⟨l,xs,d,ds,rfl,?JI,j1.mono fh,?Ho,hk,q⟩","yb ?A8 (yb ?EJ (yb ?EK (yb (pqc 3 rfl) yq)))","W.fnOf m q (Jj st) ?Ar ?BI .none kV doc pm an cdv ct","nH S2 ?Ev i2 m ⟨_,rfl,Ω2,F2,S2,?Dv,q⟩","⟨l,xs,d,ds,rfl,.inr (qD fh s1),j1.mono fh,?Ho,hk,q⟩","OkM X.prog X.w X.K X.mg X.base CX0 k Cc m ps (spP X.K n C)","OkM X.prog X.w X.K X.mg X.base CX0 k Cc m ps (spP X.K 1 C)","W.fnOf name qual params body scope dV kV doc pm an cdv ct","YN (name:=?wW) hI.typeIs F.slot_tuple_iterator_next ?Mb","OkF X.prog X.w X.K X.mg X.base CX0 k x ps (spP X.K n C)","wpAny ?AG A (Builtin.SmallTypes.nextOf ?CE) Q E s","wpAny ?AF X.A (pyIter v) (PIE X pins σ tg R) X.xe s1","WM CX0 P w K mg base N x ?BI f cdv A outer s H E","WM CX0 P w K mg base N q ?BI f cdv A outer s H E","WM CX P w K mg base N qual scope f cdv A outer s H E","W.kia_one W.kitx_list I.kIn ⟨_,h1,rfl⟩ e ?M h","s5.extBut _ _ c1 (s4 _ _ c4 (s3.extBut _ _ c2 ?Id))","List.range (min us.toArray.size vs.toArray.size)","wpAny_specialOf hT F.slot_tuple_hash.lookup ?_","wpAny_Call_Name_kw (vM I hg hm hv ?_ hn hdb)","Builtin.SmallTypes.ownedTupleIsFree ?Ao","⟨l,bs,rfl,fh.seq s1,k _ _ _ ?AU (Uw F)⟩","yb ?Bn (yb ?EK (yb ?EJ yq))","rnd hs row rs i j (stR hs row rs i j s0 q)","beq_eq_false_iff_ne.mpr (Ne.symm (Yb hb))","s4.extBut _ _ c4 (s3.extBut _ _ c2 ?Ky)","⟨d,d',?Ho,i2.mono fh,hk,hd,q⟩","items.toList.drop (sIx items.size 0 lo)","⟨a,dx,_,rfl,p1.fh _ _ h1,Z8 hm,?_⟩","⟨.int ?Bu,H,?B3,?Bt,q⟩","wpAny_Call_Name_kw (bE I hg hm ?_ hdb)","SeqAt.RcAt A s ?AI ?Bf (ZW ds es)","PyProof.Rows.slot_tuple_getitem.lookup","y4 (s:=s) hz rfl (x:=.bool f1) rfl ?_","vG s.heap z TI TO i1 i2 l1 l2 xs ys k","ho pins s2 σ H2 x y v u Q I2 rx ry q","Xd (pl:=pl) ho c hM F hr hb .nil uZ ht","s2.extBut _ _ c3 (s1.extBut _ _ c1 e)","wpAny ?AF X.A (eval ?Co X.env) Q E s","⟨a,dx',xs,rfl,yT,g7,g8.mono w⟩","wpAny ?AG A (pyIter ?Ao) Q E s","wpAny M A (storeName X.env x u) Q E s","ZipT s.heap TI i1 i2 t1 t2 xs ys k","wBm t.hs t.row t.kn body i j t.kw","hc pins s1 σ H1 vs us Q I1 r1 q1","bPm t.hs t.row t.kb body i j t.kp","⟨l,xs,ob,rfl,yT,hl,il.mono w⟩","y4 (s:=s) hz rfl (x:=?Dy) rfl ?_","wpAny ?AG A (loadIfAlive a) Q E s","codeAny_builtin ZK.entry_loop ?_","Zt t.hs t.row t.kn t.br i j t.kw","Call_ (vM I hg hm boot_zip ?uI)","Qk (x.above y c (PySem.mem_of_lookup h))","pu.trans (Pur.layOwn pu.fh hl)","g3 b u (Ys e1 ha') (sm b u e1)","P3 X Γ a (.lst (bs.map D.bl))","P3 X Γ ?KK (.tup (vt ds i j))","I1.fpOk hb' (I1.hok.fresh hb')","⟨a.nn,a.sz,a.len,b.kp,kl⟩","y4 ho hd (x:=.int i 0) rfl ?_","plainId_quiet ZK.plain_loop _","Pur.lay (o:=.tup ys) p2.fh ht","IsL.cons (iv.mono e6) IsL.nil","PySem.F.args_dict_get_3 _ _ _","P3 X Γ ?xN (.int ds.length)","s2.extBut _ _ D.i1z.symm z1","s.heap.IsTuple a us.toArray","oDt K (knK t.kn) (knV t.kn)","oDt K (kbK t.kb) (kbV t.kb)","k _ _ _ ?AU (Is.tupI s2 j2)","hb wh pins s1 σ H1 Q I1 q1","Turn X.prog X.w X.K tg J fp it tn","Env0 P w K mg base A outer s H","y4 ho hd (x:=.ref t) rfl ?_","k _ _ _ ?AU (Is.tupI s1 j1)","getItem (.ref t) (.ref sl)","SeqAt.EqAt.str_str _ _ _ _","Inv (X.wish E) pins σ H s",".inr ⟨o,keep _ h1 rfl⟩","Bool.and_eq_true_iff.mp e","⟨m',hm,σ3,H3,I3,w3⟩","⟨xs,ys,x,y,h1,h2,hx,hy⟩","wBm t.hs t.row t.kn ?K m j","SeqAt.EqAt.int_int _ _ _ _","⟨oc,od,.func ?Hy,osl⟩","s.heap.IsTupleIter it t i","JS ?IC (y7 ?AX yx rfl) ?_","y8 ⟨some (trD t),?_⟩","letOwnedTupleGo tg ?CE u","k v H' F' (p.trans p') i","il.mono (pu.ff.trans e2)","hi pins s1 σ H1 _ I1 q1","hc pins s3 σ H3 _ I3 q3","h pos pins s σ H _ I hq","fin its r' hz h' c' kp e","Vh s.heap z TI TO ?Dy f1","Vd s.heap z TI TO ?Dy f1","TrB hs row T i j c k l s","⟨target,iter,ifs,0⟩","⟨.bl _,H,?B3,rfl,q⟩","YM (i:=3) Q4.nd rfl ?A2 uo ?_","some (.Attribute o f pos')","z.sameBut hs (cne y c e)","keepD p4 fD2 ⟨_,hH2⟩","SeqAt.EqAt.bool_bool _ _","OpR X (compareOp op') r'","⟨v,H',I',r,i _ _ q⟩","yb ha (yb hb yq he2) he","some (assign ?G1 X.env)","ky P w K t.c (kwV t.kw)","ky P w K t.c (kpV t.kp)","kE (fs.lookup f) (mA f)","fr b o a1 a2 a3 a4 a5 e","Nat.le_succ_of_le a.len","⟨o,w5 _ _ D.l2z D.l2TO D.l2i1 D.l2i2 q,r⟩","f'.trans (p2.ff.trans f5)","⟨o,w5 _ _ D.l1z D.l1TO D.l1i1 D.l1i2 q,r⟩","woS t.hs t.row t.kn i m x","S'.slots (S1.sl.mono f')","tD P w K mg base C_Sums","A4 P w K mg base C_Sums","Vi (i:=0) (j:=3) (a:=a) (b:=b') (Ka Q0) rfl yo rfl ?Cm","w5 _ _ D.TIz D.TITO D.TIi1 D.TIi2 c.pr","⟨a,b',c,gd,row,hs,br,L,ch,kn,kw⟩","Bx P w K mg base C_Grammar C_Sums","A9 P w K mg base C_Grammar","AE P w K mg base C_Grammar C_Sums","j1.extBut s3.extBut D.TOi1.symm","s4.extBut _ _ D.i2z.symm ?I3","BY P w K mg base C_Grammar","Cz P w K mg base C_Bests","A8 P w K mg base C_Grammar","As P w K mg base C_Bests","A2 P w K mg base C_Grammar","s7.extBut _ _ (qW lz) ?Be","Zo (d:=.str h0) ?AO yx a0","rawInt s.heap.objs.size","yb (y7 (d:=?CL) ?AO yx rfl) ?FW","YQ F.slot_tuple_iterator_next hI.typeIs F.entry_tuple_iterator_next ?_ (F.args_tuple_iterator_next_1 _)"]
def nmS (n:Name):Option String:=match n.toString.toList with
|[a,b]=>let i:=(a.toNat-65)*62+(if b.isDigit then b.toNat-48 else if b.isUpper then b.toNat-55 else b.toNat-61);if a.isUpper then tbS[i]? else none
|_=>none
end
set_option hygiene false
open Lean in
local macro_rules
|`(?$x:ident)=>match nmS x.getId.eraseMacroScopes with
 |some s=>match apS 400 s.toList with
  |some (e,[])=>return e
  |_=>Macro.throwUnsupported
 |none=>Macro.throwUnsupported
local macro_rules
|`(?A)=>`(by lia)
|`(?B)=>`(by decide)
|`(?C)=>`((·.1))
|`(?D)=>`(by decide +kernel)
local macro_rules
|`(?E)=>`(i+1+t)
|`(?G)=>`(List D->D->Prop)
|`(?H)=>`(Nat->Nat->Rat)
|`(?I)=>`(j - i)
local macro_rules
|`(?J)=>`(Str->Option Value)
|`(?K)=>`(y::rest)
|`(?L)=>`((x==("__debug__" : Str))=false)
|`(?M)=>`(fun z=>nomatch z)
local macro_rules
|`(?N)=>`(Nat->Rat)
|`(?O)=>`(j<=row.length)
|`(?P)=>`(by dsimp only[L2.KOf];refine' L2.YY KX G _ ?a ?l ?c ?k ?b;(case a|l|c|k=>k_is);case b=>intro _ _ _ _ _ _ us hl;obtain⟨_,_,rfl⟩:=L3.ZR hl;rfl)
|`(?Q)=>`(X.A.units+64<cLine)
local macro_rules
|`(?R)=>`(.type "list")
|`(?S)=>`(Str->Nat->Nat->Rat)
|`(?T)=>`(qS I q (by simp))
|`(?U)=>`((r.1,b0 r))
local macro_rules
|`(?V)=>`(yw->Rat)
|`(?W)=>`(starEach (e::es) X.env=(?AE,?C6)::starEach es X.env)
|`(?X)=>`(qV K mg "NOUGHT" (sh 0))
|`(?Y)=>`((h,i,j))
local macro_rules
|`(?Z)=>`(x::y::rest)
|`(?zA)=>`(Value->Shared->Prop)
|`(?zB)=>`(X.calm=true)
|`(?zC)=>`((·.2))
local macro_rules
|`(?zD)=>`((?JY).any ?C=false)
|`(?zE)=>`(bPm hs row s.1 r.2.1 i j s.2)
|`(?zF)=>`(List (Addr×Obj))
|`(?zG)=>`(fun r=>mP hs row T r.2.1 i j)
local macro_rules
|`(?zH)=>`((h,p.1,p.2))
|`(?zI)=>`((r.1,r.2.1))
|`(?zJ)=>`((?Z,i,j))
|`(?zK)=>`(s.heap.objs.size+1)
local macro_rules
|`(?zL)=>`(List D->Prop)
|`(?zM)=>`(Str->Rat)
|`(?zN)=>`(X.N[i]?=some x)
|`(?zO)=>`(L.getD j "")
local macro_rules
|`(?zP)=>`(j - i - 1)
|`(?zQ)=>`(.type "tuple")
|`(?zR)=>`(by dsimp only[L2.KOf];refine' L2.YY KX G _ ?a ?l ?c ?k ?b;(case a|l|c|k=>k_is);case b=>intro _ _ _ _ _ _ us hl;obtain⟨_,rfl⟩:=L3.VU hl;rfl)
|`(?zS)=>`(⟨#[c]⟩)
local macro_rules
|`(?zT)=>`(fun _ _ q=>q)
|`(?zU)=>`(((0,[]),kp))
|`(?zV)=>`(List.Perm.swap ..)
|`(?zW)=>`(starEach [a] X.env=?qZ::starEach [] X.env)
local macro_rules
|`(?zX)=>`(List (List K2×D))
|`(?zY)=>`(row.length<=5)
|`(?zZ)=>`((([],[]),kw))
|`(?yA)=>`(⟨[],F,H⟩)
local macro_rules
|`(?yB)=>`(a==sysModules)
|`(?yC)=>`(s.toks+1)
|`(?yD)=>`((·.2.2))
|`(?yE)=>`(QQ (fun m=>woS hs row kn i m x) (fun m=>wBm hs row kn ?K m j) i)
local macro_rules
|`(?yF)=>`(jQ (fun m=>qb hs row kb x i m) (fun m=>bPm hs row kb ?K m j) i)
|`(?yG)=>`((?A7).idxOf h)
|`(?yH)=>`(fun _ _=>rfl)
|`(?yI)=>`(.type "zip")
local macro_rules
|`(?yJ)=>`(A.handled=none)
|`(?yK)=>`(D->Om->Prop)
|`(?yL)=>`(0<=T x i j)
|`(?yM)=>`(1 - E k k)
local macro_rules
|`(?yN)=>`(Builtin.«zip.__next__» ⟨[.ref z],[]⟩)
|`(?yO)=>`((p.1.den:Int)*(p.2.den:Int))
|`(?yP)=>`(PL3 X Γ (e::es) ds)
|`(?yQ)=>`(X.env.scope=SX)
local macro_rules
|`(?yR)=>`(by simp;lia)
|`(?yS)=>`(hs.length+1)
|`(?yT)=>`(fun h=>?_)
|`(?yU)=>`(.int (i:Int))
local macro_rules
|`(?yV)=>`(X.comp sc N ⟨s3.heap.objs.size,s3,upd H2 s2.heap.objs.size (.lst []),fp⟩)
|`(?yW)=>`(.Call (.Attribute ?GB "append" apos) [e] [] ppos)
|`(?yX)=>`(X.fn x=true∨X.env.scope.names.lookup x=some .local)
|`(?yY)=>`(starEach [a,b] X.env=[?qZ,(?AE,?Em)])
local macro_rules
|`(?yZ)=>`(.Call ?GJ (e::es) [] pos)
|`(?qA)=>`(starEach [b] X.env=[(?AE,?Em)])
|`(?qB)=>`(List D->List Str×List D->Prop)
|`(?qC)=>`((?AS)[k]?=some p)
local macro_rules
|`(?qD)=>`(backToKw pos (keywordEach [] X.env))
|`(?qE)=>`(.Call ?KD (e::es) [] pos)
|`(?qF)=>`(E k j / ?yM)
|`(?qG)=>`(.Call ?KD [] [] pos)
local macro_rules
|`(?qH)=>`(decide (kv.1=k))
|`(?qI)=>`(by rw[q];decide)
|`(?qJ)=>`(by rw[yi];lia)
|`(?qK)=>`(A.units<cLine)
local macro_rules
|`(?qL)=>`(rest.length+2)
|`(?qM)=>`(List (Key×V))
|`(?qN)=>`(.type "type")
|`(?qO)=>`(List (κ×V))
local macro_rules
|`(?qP)=>`((hf b hb).1)
|`(?qQ)=>`(ps.length=n)
|`(?qR)=>`(.int (j:Int))
|`(?qS)=>`(by dsimp only[L2.KOf];refine' L2.YY KX G _ ?a ?l ?c ?k ?b;(case a|l|c|k=>k_is);case b=>intro _ _ _ _ _ _ us hl;obtain⟨_,_,_,rfl⟩:=L3.Uk hl;rfl)
local macro_rules
|`(?qT)=>`((∀ b o,b≠z->b≠TO->b≠i1->b≠i2->s.heap.get? b=some o->g.get? b=some o))
|`(?qU)=>`(.ListComp elt [⟨tg,iter,ifs,0⟩] sc pos)
|`(?qV)=>`(J Γ' Ω'/\μ Γ' Ω'<μ Γ Ω)
|`(?qW)=>`(Builtin.SmallTypes.nextOf (.ref i2) >>= _)
local macro_rules
|`(?qX)=>`(Builtin.SmallTypes.nextOf (.ref i1) >>= _)
|`(?qY)=>`(X.mg "range" = none)
|`(?qZ)=>`((?AE,eval a X.env))
|`(?jA)=>`(x ≠ "__name__")
local macro_rules
|`(?jB)=>`(List (Rat×Rat))
|`(?jC)=>`(P.given.tree=none)
|`(?jD)=>`((?A7).getD j "")
|`(?jE)=>`(PA X (e::es) t)
local macro_rules
|`(?jF)=>`(by kernel_rfl)
|`(?jG)=>`(4*BB ?zP+1<=c)
|`(?jH)=>`(by rw[Y1];lia)
|`(?jI)=>`(Gl X "range")
local macro_rules
|`(?jJ)=>`(.type "dict")
|`(?jK)=>`(hs.length<=3)
|`(?jL)=>`((?BS).seq s1)
|`(?jM)=>`(f ?E acc.2)
local macro_rules
|`(?jN)=>`(X.mg x=none)
|`(?jO)=>`(fun b hb=>?_)
|`(?jP)=>`(⟨us,[]⟩)
|`(?jQ)=>`(by rw[YL];lia)
local macro_rules
|`(?jR)=>`((?CX).foldl ?yF ?zU)
|`(?jS)=>`(V->Option Int->Option Int->Hp->VK->Prop)
|`(?jT)=>`(show(q.den:Int).natAbs<2 ^ n from hq.2)
|`(?jU)=>`(show(p.den:Int).natAbs<2 ^ m from hp.2)
local macro_rules
|`(?jV)=>`(starEach [a] X.env=[?qZ])
|`(?jW)=>`(12+(1+(2100+(1500+1000))))
|`(?jX)=>`(Qs ?A5 ?F9 r.2.1)
|`(?jY)=>`(if p.1=k then (p.1,v) else p)
local macro_rules
|`(?jZ)=>`(show u=Value.ref a from rx)
|`(?wA)=>`((x==("__classdict__" : Str))=false)
|`(?wB)=>`(wBm hs row kn r.2.1 i j e.2)
|`(?wC)=>`((p.1,Rat.divInt p.2 ns.sum))
local macro_rules
|`(?wD)=>`(0<=r.2.2/\1<=r.2.1.length)
|`(?wE)=>`(behindInMarks op b=false)
|`(?wF)=>`(V->List V->Hp->VK->Prop)
|`(?wG)=>`(nX X.K B F1 (J (i+1)))
local macro_rules
|`(?wH)=>`(bPm hs row kb rl.2.1 i j kp)
|`(?wI)=>`((∀ b∈fp,H' b=none))
|`(?wJ)=>`(rs.drop n++rs.take n)
|`(?wK)=>`(List D->List D->Prop)
local macro_rules
|`(?wL)=>`(qV K mg "ONE" (sh 1))
|`(?wM)=>`(m'<m/\J m' Γ' Ω')
|`(?wN)=>`(fun z=>.inr ?BR)
|`(?wO)=>`((t.kb,t.kp))
local macro_rules
|`(?wP)=>`(decide (p.1=k))
|`(?wQ)=>`(⟨[a],F,H⟩)
|`(?wR)=>`(p.2 - p.1 - 1)
|`(?wS)=>`(if (k==NameKind.free&&env.scope.kind==.function&&env.kindOf n==some .cell)=true then (n,NameKind.cell) else (n,k))
local macro_rules
|`(?wT)=>`(⟨rfl,I.turned (t':=?Ag) (fun b o hb e=>eb b o hb e) f0 f1 f3 f4 f5⟩)
|`(?wU)=>`(⟨fun _ _=>r=.non,fun r' _=>r'=r,fun _ _=>?AB,fun _ _=>?AB⟩)
|`(?wV)=>`(sp vs H Q E->vs.length=ps.length)
|`(?wW)=>`(Str.ofString "__next__")
local macro_rules
|`(?wX)=>`(Builtin.SmallTypes.ownedTupleIsFree ?Ao >>= _)
|`(?wY)=>`(List (Str×Value))
|`(?wZ)=>`(ds.length+es.length<=sizeLine)
|`(?vA)=>`(Zt hs row k.1 br p.1 p.2 k.2)
local macro_rules
|`(?vB)=>`(by simp only[yP] <;> lia)
|`(?vC)=>`(Value->Value->Sem Value)
|`(?vD)=>`(.Compare a [op] [b] pos)
|`(?vE)=>`(W.hasDictIn K C=true)
local macro_rules
|`(?vF)=>`(List K2×Addr×Value)
|`(?vG)=>`(Ju sc.names X.env.cells [])
|`(?vH)=>`(by rw[yi] at hc;lia)
|`(?vI)=>`(u σ H Q->t σ H Q)
local macro_rules
|`(?vJ)=>`(grp p.1 p.2++ve ps)
|`(?vK)=>`(0<=r.2.2/\r.2.2<=1)
|`(?vL)=>`(W.keepIn K ?Am=true)
|`(?vM)=>`(o.data=.dict es ep)
local macro_rules
|`(?vN)=>`(⟨_,_,[],?Ad,?B,?B,?_⟩)
|`(?vO)=>`(X.mg "zip" = none)
|`(?vP)=>`(List D->Om->Prop)
|`(?vQ)=>`((c.a2.extBut s1.extBut D.i2z).extBut s2.extBut D.i12.symm)
local macro_rules
|`(?vR)=>`(dep d<=n->Is X.K H d x->Is X.K H e y->kin d e=true->YX x u->YX y v->SeqAt.EqAt A.in1 s u v (qy d e))
|`(?vS)=>`(s.heap.push {cls:=.type "range", data:=.fields #[.int lo t,.int hi u,.int 1 v]})
|`(?vT)=>`(W.findIn K ?AM "__setattr__" = some (some (.builtin "object.__setattr__")))
|`(?vU)=>`(⟨F',p.fh,sl.mono p.ff,fun v2 H2 F2 p2 i2=>q v2 H2 F2 (p.trans p2) i2⟩)
local macro_rules
|`(?vV)=>`(jQ (fun m=>qb t.hs t.row t.kb x i m) (fun m=>bPm t.hs t.row t.kb ?K m j) i)
|`(?vW)=>`(⟨by rw[yX ne];exact h1,o',h2,fun F2 e=>?JE⟩)
|`(?vX)=>`(A.under (.builtin "type.__call__" ⟨.ref C::us,kw⟩))
|`(?vY)=>`((c.b2.extBut s1.extBut D.l2z).extBut s2.extBut D.l2i1)
local macro_rules
|`(?vZ)=>`(.Call (.Attribute ?GB "extend" apos) [e] [] ppos)
|`(?kA)=>`(s.heap.push {cls:=?jJ, data:=.dict #[]})
|`(?kB)=>`(swapsWith e (some (.Name x pos')) pos.line X.env=pure false)
|`(?kC)=>`((fun _ s'=>∃ σ' H',Inv X pins σ' H' s'/\Q σ' H'))
local macro_rules
|`(?kD)=>`(bPm t.hs t.row t.kb ?K (i+1+k) j (?Dk).2)
|`(?kE)=>`((∀ x c,X.env.cells.lookup x=some c->c≠b))
|`(?kF)=>`(show List.Nodup (α:=Str) ["rule", "live"] by decide +kernel)
|`(?kG)=>`((∀ b,F' b≠none->F b≠none∨H b=none))
local macro_rules
|`(?kH)=>`(if i=k' then 0 else f' i+f' k'*g' i)
|`(?kI)=>`(b∈X.ex∨X.s₀.heap.objs.size<=b)
|`(?kJ)=>`(backTo pos (starEach (e::es) X.env))
|`(?kK)=>`(fun w hw=>c1 w (by simpa using hw))
local macro_rules
|`(?kL)=>`(.Call (.Name "zip" p) [a,b] [] pos)
|`(?kM)=>`(kp b o hb.1 hb.2.1 hb.2.2.1 hb.2.2.2.1 q)
|`(?kN)=>`(.Call (.Name "range" p) [a] [] pos)
|`(?kO)=>`(h.get? b=some u->h'.get? b=some u)
local macro_rules
|`(?kP)=>`(fun b o hb e=>(sb.2 b hb).trans e)
|`(?kQ)=>`(by rw[hx];exact fun q=>nomatch q)
|`(?kR)=>`(show X.A.units+1+1<cLine by lia)
|`(?kS)=>`(wBm hs row kn r.2.1 i j acc.2)
local macro_rules
|`(?kT)=>`(.BoolOp .And (a::b::rest) pos)
|`(?kU)=>`(qb t.hs t.row t.kb x i (i+1+k))
|`(?kV)=>`((rl.2.2*bp.1.1,.tup [.int (n:Int),.tup bp.1.2]))
|`(?kW)=>`(backTo pos (starEach [] X.env))
local macro_rules
|`(?kX)=>`(⟨fun d w=>?_,fun w=>?_⟩)
|`(?kY)=>`(.BoolOp .And (b::rest) pos)
|`(?kZ)=>`(GSt->List D->GSt->D->Prop)
|`(?xA)=>`(BSt->List D->BSt->D->Prop)
local macro_rules
|`(?xB)=>`((vA e.1.1 e.1.2 o).getD 0)
|`(?xC)=>`(if p.1=k then v else p.2)
|`(?xD)=>`(kin e d=true/\dep e<=60)
|`(?xE)=>`((?vQ).extBut s3.extBut D.TOi2.symm)
local macro_rules
|`(?xF)=>`(s2.toks+([]:?wY).length)
|`(?xG)=>`((?vY).extBut s3.extBut D.l2TO)
|`(?xH)=>`(⟨fun hk=>?_,fun hk=>?_⟩)
|`(?xI)=>`(by dsimp only[L2.KOf];refine' L2.YY KX G _ ?a ?l ?c ?k ?b;(case a|l|c|k=>k_is);case b=>intro _ _ _ _ _ _ us hl;obtain⟨_,_,_,_,rfl⟩:=L3.wU hl;rfl)
local macro_rules
|`(?xJ)=>`([some (.obj C_Grammar ["first", "kept_rules", "kept_heads"] [.str st,.lst ?AP,.lst ?DC]),some (.str st),some ?CH])
|`(?xK)=>`(Yc F H->Is X.K F d x->Is X.K F d' y->(∀ v H' F',Pur F H F' H'->Is X.K F' d3 v->Q v H')->r x y H Q)
|`(?xL)=>`(s3.heap.push {cls:=.type "slice", data:=.fields #[vl,vu,.none]})
|`(?xM)=>`(fun r s'=>r=.ok (.ret ?DT)/\OldK s₁.heap s'.heap/\s'.os=s₁.os/\AllBare s'.gens)
local macro_rules
|`(?xN)=>`(.Call (.Name "len" p) [a] [] pos)
|`(?xO)=>`(p.num*(q.den / G p.den q.den)+q.num*(p.den / G p.den q.den))
|`(?xP)=>`(U9 s.1 r.1 i j (r.2.2*B.1.1,.tup [.int (n:Int),.tup B.1.2]))
|`(?xQ)=>`(⟨?AH,fh,fun _ q=>?Ck,fun _ _ _ e=>e,by simp,fun p hp=>?_,fun p hp=>?_,Sl.start il'⟩)
local macro_rules
|`(?xR)=>`(HT.sIx xs.length xs.length hi - HT.sIx xs.length 0 lo)
|`(?xS)=>`(Y5 K C_Sums "sum_of_partings" "Sums.sum_of_partings" qg ["self", "body", "i", "j"])
|`(?xT)=>`(if decide ((i:Int)=(j:Int))=true then [sh 1] else [])
|`(?xU)=>`(X.fn y=true∨X.env.scope.names.lookup y=some .local)
local macro_rules
|`(?xV)=>`((r.2.2*(?zE).1.1,.tup [.int (n:Int),.tup (?zE).1.2]))
|`(?xW)=>`(W3 X B (.Assign [.Name x pos'] e pos::rest) Γ Ω E)
|`(?xX)=>`(sIx items.size items.size hi - sIx items.size 0 lo)
|`(?xY)=>`((∃ o,g.get? e=some o/\o.cls=.type "StopIteration"))
local macro_rules
|`(?xZ)=>`(starEach [e] X.env=(?AE,?C6)::starEach [] X.env)
|`(?uA)=>`(rnd hs row rs i j (stR hs row rs i j s (n+k)))
|`(?uB)=>`(fun b o hb e=>S'.kp b o (by simpa using hb) e)
|`(?uC)=>`(if r'.1=h then r'.2.2*wv hs e ?Gm r' else 0)
local macro_rules
|`(?uD)=>`(IsL.cons (iy.mono (e1.trans (?EZ).ff)) IsL.nil)
|`(?uE)=>`((∀ i gs Ω',J i gs Ω'->gs.length<sizeLine))
|`(?uF)=>`(swapsWith e none pos.line X.env=pure false)
|`(?uG)=>`(Y5 K C_Bests "best_of_partings" "Bests.best_of_partings" Y8 ["self", "body", "i", "j"])
local macro_rules
|`(?uH)=>`((fun fin s'=>∃ v,fin=.done (.ret v)/\Q v s'))
|`(?uI)=>`(PyProof.Rows.callWith_type1 (thn ?Dl fun us s1 ⟨vs,H1,I1,r1,q1⟩=>?_) (by rw[hs,hs2]) (by rw[hs2];rfl))
|`(?uJ)=>`(show false=true from hs)
set_option bootstrap.genMatcherCode false
open Lean in
local macro_rules
|`(command|$d:declaration)=>do
 let d:=d.raw
 if (d[1].isOfKind ``Parser.Command.definition||d[1].isOfKind ``Parser.Command.abbrev)&&d[0][4].isNone then return d.setArg 0 (d[0].setArg 4 (mkNullNode #[mkNode ``Parser.Command.noncomputable #[mkAtom "noncomputable"]]))
 Macro.throwUnsupported
abbrev Yg:=@Bool.and_eq_true
abbrev jh:=@Bool.eq_false_iff
abbrev YH:=@Bool.eq_iff_iff
abbrev Y3:=@Bool.false_eq_true
abbrev yN:=@Bool.false_ne_true
abbrev YR:=@Int.eq_ofNat_of_zero_le
abbrev Ym:=@Int.fdiv_eq_ediv_of_nonneg
abbrev jc:=@Int.fmod_eq_emod_of_nonneg
abbrev yQ:=@Int.le_of_lt
abbrev jN:=@Int.mul_ediv_cancel_left
abbrev Jc:=@Int.mul_nonneg
abbrev JE:=@Int.mul_pos
abbrev Qh:=@Int.natAbs_natCast
abbrev QI:=@Int.natCast_ediv
abbrev jI:=@Int.natCast_mul
abbrev qG:=@Int.toNat_natCast
abbrev jM:=@List.all_eq_true
abbrev zc:=@List.any_cons
abbrev Yq:=@List.append_nil
abbrev qP:=@List.cons_append
abbrev jG:=@List.drop_eq_getElem_cons
abbrev Qj:=@List.ext_getElem?
abbrev qU:=@List.filter_append
abbrev YF:=@List.filter_cons_of_neg
abbrev YE:=@List.filter_cons_of_pos
abbrev y3:=@List.find?_cons
abbrev Qf:=@List.flatMap_append
abbrev yY:=@List.foldl_append
abbrev Yi:=@List.foldl_cons
abbrev qH:=@List.foldl_nil
abbrev QX:=@List.forIn_cons
abbrev jU:=@List.forIn_nil
abbrev yv:=@List.getD_eq_getElem?_getD
abbrev qZ:=@List.getElem?_append_left
abbrev qO:=@List.getElem?_append_right
abbrev yj:=@List.getElem?_eq_getElem
abbrev yG:=@List.getElem?_eq_none_iff
abbrev yk:=@List.getElem?_eq_some_iff
abbrev yC:=@List.getElem?_map
abbrev jk:=@List.getElem?_range
abbrev ja:=@List.getElem?_replicate
abbrev qQ:=@List.getElem?_set
abbrev qA:=@List.getElem?_set_ne
abbrev qw:=@List.getElem?_zip_eq_some
abbrev Qp:=@List.getElem_idxOf
abbrev Y6:=@List.idxOf_lt_length_iff
abbrev yI:=@List.length_append
abbrev yi:=@List.length_cons
abbrev Qx:=@List.length_drop
abbrev QA:=@List.length_eq_one_iff
abbrev qr:=@List.length_eq_zero_iff
abbrev YO:=@List.length_filter_le
abbrev yf:=@List.length_map
abbrev Yz:=@List.length_nil
abbrev Qc:=@List.length_pos_iff
abbrev QS:=@List.length_replicate
abbrev Yh:=@List.length_take
abbrev YZ:=@List.length_zip
abbrev YB:=@List.lookup_cons
abbrev yH:=@List.map_append
abbrev jl:=@List.map_congr_left
abbrev yD:=@List.map_cons
abbrev qd:=@List.map_map
abbrev Q6:=@List.map_nil
abbrev Yw:=@List.mem_append
abbrev Yu:=@List.mem_append_left
abbrev y6:=@List.mem_append_right
abbrev yB:=@List.mem_cons
abbrev ye:=@List.mem_cons_of_mem
abbrev yo:=@List.mem_cons_self
abbrev YA:=@List.mem_filter
abbrev Q5:=@List.mem_flatMap
abbrev yA:=@List.mem_map
abbrev jB:=@List.mem_of_find?_eq_some
abbrev yr:=@List.mem_of_getElem?
abbrev jT:=@List.mem_of_mem_take
abbrev qk:=@List.mem_range
abbrev yE:=@List.mem_singleton
abbrev Je:=@List.nil_append
abbrev Yr:=@List.nodup_append
abbrev yR:=@List.nodup_cons
abbrev Qw:=@List.nodup_nil
abbrev Yv:=@List.not_mem_nil
abbrev Qu:=@List.of_mem_zip
abbrev qI:=@List.perm_append_comm
abbrev YC:=@List.range_succ
abbrev yP:=@List.size_toArray
abbrev zf:=@List.sum_cons
abbrev Qi:=@List.take_append_drop
abbrev yM:=@List.take_length
abbrev qF:=@List.take_sublist
abbrev yU:=@List.zip_cons_cons
abbrev Qe:=@Nat.add_mul
abbrev jV:=@Nat.add_sub_cancel_left
abbrev QK:=@Nat.le_add_right
abbrev jC:=@Nat.le_max_left
abbrev ji:=@Nat.le_max_right
abbrev Qk:=@Nat.le_of_lt
abbrev yg:=@Nat.le_refl
abbrev yz:=@Nat.le_trans
abbrev Jq:=@Nat.le_zero
abbrev jj:=@Nat.lt_irrefl
abbrev jm:=@Nat.lt_of_le_of_lt
abbrev yW:=@Nat.lt_of_lt_of_le
abbrev Ql:=@Nat.lt_or_ge
abbrev jP:=@Nat.mul_comm
abbrev qh:=@Nat.mul_div_cancel_left
abbrev qa:=@Nat.mul_le_mul
abbrev qT:=@Nat.mul_le_mul_left
abbrev qq:=@Nat.mul_le_mul_right
abbrev qW:=@Nat.ne_of_gt
abbrev Yb:=@Nat.ne_of_lt
abbrev Q7:=@Nat.one_mul
abbrev YD:=@Nat.pow_le_pow_right
abbrev QW:=@Nat.pow_succ
abbrev je:=@Nat.succ_le_succ
abbrev qK:=@Nat.zero_add
abbrev Y0:=@Nat.zero_le
abbrev Jy:=@Option.isSome_iff_exists
abbrev Js:=@Option.isSome_some
abbrev Yt:=@Option.map_eq_some_iff
abbrev jr:=@Rat.divInt_add_divInt
abbrev qN:=@Rat.le_antisymm
abbrev Yx:=@Rat.le_of_lt
abbrev yJ:=@Rat.le_refl
abbrev yV:=@Rat.le_trans
abbrev Ye:=@Rat.mul_le_mul_of_nonneg_left
abbrev qL:=@Rat.mul_le_mul_of_nonneg_right
abbrev Jr:=@Rat.mul_zero
abbrev qt:=@Rat.num_divInt_den
section
open PySem PySem.Spec PyProof.Rows
abbrev yh:=@Heap.get?_push_of_some
abbrev yF:=@Heap.get?_push_size
abbrev yn:=@Heap.lt_size
abbrev YU:=@Heap.size_push
abbrev yu:=@decide_eq_false
abbrev yK:=@decide_eq_true
abbrev Y4:=@decide_eq_true_eq
abbrev yd:=@if_neg
abbrev yc:=@if_pos
abbrev ya:=@wpAny_bind
abbrev YN:=@wpAny_callSpecial?_slot
abbrev YQ:=@wpAny_call_entry
abbrev y4:=@wpAny_field
abbrev YG:=@wpAny_holding
abbrev Y7:=@wpAny_mono
abbrev qE:=@wpAny_newObj_type
abbrev qe:=@wpAny_nextOf_list_item
abbrev ym:=@wpAny_pure
abbrev Yy:=@wpAny_seqItems
abbrev Yj:=@wpAny_setField_rec
abbrev YS:=@wpAny_truthy_bool
abbrev qv:=@wpAny_updateSeq_pair
end
namespace L2
open PySem
def QC (s:Stmt)(j:Nat):Stmt:=match s with
 |.ClassDef _ _ _ body _ _ _ _ _ _ _=>body.getD j (.Pass ?HC)
 |_=>.Pass ?HC
def Jj (s:Stmt):Arguments:=match s with
 |.FunctionDef _ a _ _ _ _ _ _ _ _=>a
 |_=>{posonlyargs:=[],args:=[],vararg:=none,kwonlyargs:=[],kw_defaults:=[],kwarg:=none,defaults:=[]}
def qz (s:Stmt):?BM:=match s with
 |.FunctionDef _ _ b _ _ _ _ _ _ _=>b
 |_=>[]
def yp (s:Stmt):?BH:=match s with
 |.FunctionDef _ _ _ _ _ _ sc _ _ _=>sc
 |_=>{kind:=.function,names:=[],isGenerator:=?AE,isCoroutine:=?AE}
end L2
namespace Law
open PySem L2
def top (i:Nat):Stmt:=PySem.Challenge.pw_scoreflow_k16_whole_best_tree.main.body.getD i (.Pass ?HC)
abbrev JC:Stmt:=top 7
abbrev Q1:Stmt:=top 11
abbrev VY:Stmt:=top 12
abbrev VA:Stmt:=top 13
abbrev Zc:Stmt:=top 14
abbrev KH:Stmt:=top 15
abbrev vY:Stmt:=top 16
abbrev Qd:Stmt:=top 17
abbrev ZZ:Stmt:=top 18
abbrev QZ:Stmt:=QC (top 20) 0
abbrev JI:Stmt:=QC (top 20) 1
abbrev QF:Stmt:=QC (top 20) 2
abbrev QY:Stmt:=QC (top 20) 3
abbrev qY:Stmt:=QC (top 20) 4
abbrev Y8:Stmt:=QC (top 20) 5
abbrev QE:Stmt:=QC (top 20) 6
abbrev Vv:Stmt:=top 21
abbrev zd:Stmt:=top 22
abbrev Qr:Stmt:=QC (top 27) 0
abbrev jg:Stmt:=QC (top 27) 1
abbrev jd:Stmt:=QC (top 27) 2
abbrev jf:Stmt:=QC (top 27) 3
abbrev jK:Stmt:=QC (top 27) 4
abbrev Jb:Stmt:=top 28
abbrev JN:Stmt:=top 29
abbrev jL:Stmt:=top 30
abbrev Jw:Stmt:=top 31
abbrev za:Stmt:=top 32
abbrev Jd:Stmt:=top 33
abbrev JL:Stmt:=top 34
abbrev Za:Stmt:=top 35
abbrev zU:Stmt:=top 36
abbrev QJ:Stmt:=top 37
abbrev Q8:Stmt:=top 38
abbrev Qv:Stmt:=top 40
abbrev Qq:Stmt:=top 41
abbrev vd:Stmt:=top 42
abbrev ZY:Stmt:=top 43
abbrev Qm:Stmt:=QC ?Dc 0
abbrev j9:Stmt:=QC ?Dc 1
abbrev JK:Stmt:=QC ?Dc 2
abbrev ju:Stmt:=QC ?Dc 3
abbrev jJ:Stmt:=QC ?Dc 4
abbrev JO:Stmt:=QC ?Dc 5
abbrev qX:Stmt:=QC ?Dc 6
abbrev qg:Stmt:=QC ?Dc 7
abbrev JP:Stmt:=top 46
abbrev Vb:Stmt:=top 47
abbrev JD:Stmt:=top 48
abbrev JZ:Stmt:=top 50
abbrev vg:Stmt:=top 51
abbrev Z5:Stmt:=top 52
abbrev Zz:Stmt:=top 53
abbrev j8:Stmt:=top 54
abbrev ze:Stmt:=top 55
abbrev ZA:Stmt:=top 57
abbrev zl:Stmt:=top 58
abbrev zk:Stmt:=top 59
abbrev vc:Stmt:=top 60
abbrev Zp:Stmt:=top 62
abbrev Jx:Stmt:=top 63
abbrev Jf:Stmt:=top 64
abbrev Z1:Stmt:=top 65
abbrev Zj:Stmt:=top 66
abbrev z9:Stmt:=top 67
abbrev jq:Stmt:=top 68
abbrev eM:Stmt:=top 69
abbrev fO (n q:Str)(s:Stmt)(m:?AJ)(a:Addr):Obj:={cls:=.type "function", dict:=?Ab,data:=.func (W.fnOf n q (L2.Jj s) (L2.qz s) (L2.yp s) .none .none .none m .none ?AI .none),slots:=#[]}
abbrev cO (x y:Str)(a b c:Nat)(l i j k m:Int)(r:Addr)(t:Bool)(g:Int)(u:Addr)(v v1 v2 v3:?AJ)(h:Int)(d:Nat):Obj:={cls:=.type "code", data:=.fields #[.str x a,.str y b,.str "/claim/cut.py" c,.int l 0,.int i 0,.int j 0,.int k 0,.int m 0,.ref r,.bool t,.int g 0,.ref u,v,v1,v2,v3,.int h 0,.int l 0,.str "/claim/cut.py" d]}
abbrev dO (a:Array DictEntry)(n:Nat):Obj:={cls:=?jJ, data:=.dict a n}
abbrev uO (i:Addr):Obj:={cls:=.type "super", data:=.fields #[.ref i,.ref i,.ref i]}
abbrev ZP (s:?Ch)(v:?AJ):Obj:={cls:=.type "builtin_function_or_method", data:=.fields #[.builtin s,v]}
abbrev mO (a b c:Addr)(v:?AJ):Obj:={cls:=.type "frame", slots:=#[.some ?AI,.some ?Bf,.some (.ref c),.none,.some v,.none,.some (.ref 0)]}
abbrev nO:Obj:={cls:=?Ab,data:=.fields #[]}
abbrev tO (a:?BL):Obj:={cls:=?zQ, data:=.seq a}
abbrev cQ (x y:Str)(a:Nat)(l i:Int)(r:Addr)(v v2 v3:?AJ)(h:Int)(d:Nat):Obj:=cO x y a (a+1) (a+2) l i 0 0 3 r true 181 (r+1) .none v v2 v3 h d
abbrev cR (x:Str):=cQ x x
abbrev fN (x:Str):=fO x x
abbrev mVA:?AJ:=.str "scoreflow.grammar" 493
abbrev mVB:?AJ:=.str "law_scoreflow_k16_whole_best_tree" 796
abbrev mVC:?AJ:=.str "scoreflow.errors" 187
abbrev mVD:?AJ:=.str "scoreflow.sums" 673
abbrev mVE:?AJ:=.str "scoreflow.best" 363
abbrev mVF:?AJ:=.str "scoreflow.shares" 279
abbrev mVG:?AJ:=.str "scoreflow.solving" 645
def en (P:?Ci)(x:Str)(t:Nat)(v:?AJ):DictEntry:={hash:=PyData.keyHash P x,key:=.str x t,val:=v}
def S6 (P:?Ci)(x:Str)(t:Nat)(a:Addr):DictEntry:=en P x t ?AI
def KP:Params->W.Frag:=fun P=>
 (nat_lit 2,{cls:=.none,data:=.dict #[]})::
 (nat_lit 3,dO #[en P "__name__" 165 mVB,en P "__doc__" 166 .none,en P "__package__" 167 .none,en P "__loader__" 168 (.builtin "__main__.__loader__#opaque"),en P "__spec__" 169 .none,S6 P "__annotations__" 170 6,S6 P "__builtins__" 171 4,en P "__file__" 173 (.str "/claim/cut.py" 172),en P "__cached__" 174 .none,S6 P "ScoreError" 206 24,S6 P "NoShare" 222 37,S6 P "NoEnd" 238 49,S6 P "NoGrammar" 254 61,S6 P "NoTree" 270 73,S6 P "stretches" 278 80,S6 P "NOUGHT" 283 81,S6 P "ONE" 286 82,S6 P "common_divisor" 295 89,S6 P "share" 304 96,S6 P "added" 315 103,S6 P "lessened" 323 110,S6 P "timed" 333 117,S6 P "parted" 341 124,S6 P "sum_of_products" 354 131,S6 P "is_less" 362 138,S6 P "Bests" 470 197,S6 P "bounds" 483 208,S6 P "best_tree" 492 215,en P "MOST_RULES" 496 (.int 30 495),en P "MOST_SYMBOLS" 498 (.int 4 497),en P "MOST_LETTERS" 500 (.int 8 499),S6 P "Grammar" 561 260,S6 P "check_rules" 570 271,S6 P "check_rule" 578 278,S6 P "check_symbol" 585 285,S6 P "is_symbol" 591 290,S6 P "is_letter" 598 297,S6 P "check_start" 606 304,S6 P "check_sums" 617 311,S6 P "heads_of" 626 318,S6 P "live_of" 632 323,S6 P "has_live_body" 638 328,S6 P "is_live_body" 644 333,S6 P "solved_rows" 652 338,S6 P "without_itself" 658 343,S6 P "put_in" 664 348,S6 P "cleared" 672 355,S6 P "Sums" 775 417,S6 P "live_rules" 781 426,S6 P "is_step" 789 433,S6 P "chains_of" 795 438,S6 P "_law_cell_at" 805 445,S6 P "_law_dice" 812 452,S6 P "_law_roll" 820 459,S6 P "_law_whole" 827 466,S6 P "_law_symbols" 843 473,S6 P "_law_share" 854 480,S6 P "_law_added" 862 487,S6 P "_law_timed" 870 494,S6 P "_law_bodies" 885 501,S6 P "_law_rules" 891 506,S6 P "_law_made" 904 513,S6 P "_law_tree" 910 518,S6 P "_law_words" 919 525,S6 P "_law_share_of" 929 532,S6 P "_law_is_tree" 935 537,S6 P "_law_row" 941 542,S6 P "_law_given" 950 549,S6 P "_law_most" 956 554,S6 P "_law_none_better" 974 561,S6 P "law" 992 568] 71)::
 (nat_lit 23,dO #[en P "__module__" 196 mVC,en P "__firstlineno__" 200 (.int 2 199),S6 P "__static_attributes__" 201 22,S6 P "__weakref__" 203 25,en P "__doc__" 204 .none] 3)::
 (nat_lit 24,{cls:=.type "type", data:=.cls {name:="ScoreError", bases:=[.type "ValueError"],mro:=[.ref 24,.type "ValueError", .type "Exception", .type "BaseException", .type "object"],ns:=23,qualname:="ScoreError", subclasses:=[.ref 37,.ref 49,.ref 61,.ref 73]},slots:=#[.some (.ref 15),.none,.some (.str "ScoreError" 189),.some (.str "ScoreError" 197),.some (.builtin "ValueError.__new__"),.some (.bool Bool.true)]})::
 (nat_lit 25,{cls:=.type "getset_descriptor", data:=.fields #[.str "__weakref__" 202,.ref 24,.builtin "ExceptionGroup.__weakref__", .none]})::
 (nat_lit 36,dO #[en P "__module__" 214 mVC,en P "__firstlineno__" 218 (.int 4 217),S6 P "__static_attributes__" 219 35,en P "__doc__" 220 .none] 2)::
 (nat_lit 37,{cls:=.type "type", data:=.cls {name:="NoShare", bases:=[.ref 24],mro:=[.ref 37,.ref 24,.type "ValueError", .type "Exception", .type "BaseException", .type "object"],ns:=36,qualname:="NoShare" },slots:=#[.some (.ref 28),.none,.some (.str "NoShare" 207),.some (.str "NoShare" 215),.some (.builtin "ValueError.__new__"),.some (.bool Bool.true)]})::
 (nat_lit 48,dO #[en P "__module__" 230 mVC,en P "__firstlineno__" 234 (.int 6 233),S6 P "__static_attributes__" 235 47,en P "__doc__" 236 .none] 2)::
 (nat_lit 49,{cls:=.type "type", data:=.cls {name:="NoEnd", bases:=[.ref 24],mro:=[.ref 49,.ref 24,.type "ValueError", .type "Exception", .type "BaseException", .type "object"],ns:=48,qualname:="NoEnd" },slots:=#[.some (.ref 40),.none,.some (.str "NoEnd" 223),.some (.str "NoEnd" 231),.some (.builtin "ValueError.__new__"),.some (.bool Bool.true)]})::
 (nat_lit 60,dO #[en P "__module__" 246 mVC,en P "__firstlineno__" 250 (.int 8 249),S6 P "__static_attributes__" 251 59,en P "__doc__" 252 .none] 2)::
 (nat_lit 61,{cls:=.type "type", data:=.cls {name:="NoGrammar", bases:=[.ref 24],mro:=[.ref 61,.ref 24,.type "ValueError", .type "Exception", .type "BaseException", .type "object"],ns:=60,qualname:="NoGrammar" },slots:=#[.some (.ref 52),.none,.some (.str "NoGrammar" 239),.some (.str "NoGrammar" 247),.some (.builtin "ValueError.__new__"),.some (.bool Bool.true)]})::
 (nat_lit 72,dO #[en P "__module__" 262 mVC,en P "__firstlineno__" 266 (.int 10 265),S6 P "__static_attributes__" 267 71,en P "__doc__" 268 .none] 2)::
 (nat_lit 73,{cls:=.type "type", data:=.cls {name:="NoTree", bases:=[.ref 24],mro:=[.ref 73,.ref 24,.type "ValueError", .type "Exception", .type "BaseException", .type "object"],ns:=72,qualname:="NoTree" },slots:=#[.some (.ref 64),.none,.some (.str "NoTree" 255),.some (.str "NoTree" 263),.some (.builtin "ValueError.__new__"),.some (.bool Bool.true)]})::
 (nat_lit 79,cR "stretches" 273 13 1 76 .none .none (.ref 78) 276 277 )::
 (nat_lit 80,fN "stretches" JC (.str "scoreflow.rows" 271) 79)::
 (nat_lit 81,tO #[.int 0 281,.int 1 282])::
 (nat_lit 82,tO #[.int 1 284,.int 1 285])::
 (nat_lit 88,cR "common_divisor" 287 21 2 83 (.ref 85) (.ref 86) (.ref 87) 293 294 )::
 (nat_lit 89,fN "common_divisor" Q1 mVF 88)::
 (nat_lit 95,cR "share" 296 27 2 90 (.ref 92) (.ref 93) (.ref 94) 302 303 )::
 (nat_lit 96,fN "share" VY mVF 95)::
 (nat_lit 102,cR "added" 305 34 2 97 (.ref 99) (.ref 100) (.ref 101) 313 314 )::
 (nat_lit 103,fN "added" VA mVF 102)::
 (nat_lit 109,cR "lessened" 316 39 2 104 (.ref 106) (.ref 107) (.ref 108) 321 322 )::
 (nat_lit 110,fN "lessened" Zc mVF 109)::
 (nat_lit 116,cR "timed" 324 43 2 111 (.ref 113) (.ref 114) (.ref 115) 331 332 )::
 (nat_lit 117,fN "timed" KH mVF 116)::
 (nat_lit 123,cR "parted" 334 47 2 118 (.ref 120) (.ref 121) (.ref 122) 339 340 )::
 (nat_lit 124,fN "parted" vY mVF 123)::
 (nat_lit 130,cR "sum_of_products" 342 51 1 125 (.ref 127) (.ref 128) (.ref 129) 352 353 )::
 (nat_lit 131,fN "sum_of_products" Qd mVF 130)::
 (nat_lit 137,cR "is_less" 355 61 2 132 (.ref 134) (.ref 135) (.ref 136) 360 361 )::
 (nat_lit 138,fN "is_less" ZZ mVF 137)::
 (nat_lit 151,cQ "__init__" "Bests.__init__" 377 66 3 146 (.ref 148) (.ref 149) (.ref 150) 385 386 )::
 (nat_lit 152,fO "__init__" "Bests.__init__" QZ mVE 151)::
 (nat_lit 158,cQ "best" "Bests.best" 388 75 4 153 (.ref 155) (.ref 156) (.ref 157) 395 396 )::
 (nat_lit 159,fO "best" "Bests.best" JI mVE 158)::
 (nat_lit 165,cQ "try_rules" "Bests.try_rules" 398 78 3 160 (.ref 162) (.ref 163) (.ref 164) 406 407 )::
 (nat_lit 166,fO "try_rules" "Bests.try_rules" QF mVE 165)::
 (nat_lit 172,cQ "try_rule" "Bests.try_rule" 409 85 4 167 (.ref 169) (.ref 170) (.ref 171) 419 420 )::
 (nat_lit 173,fO "try_rule" "Bests.try_rule" QY mVE 172)::
 (nat_lit 179,cQ "best_parting" "Bests.best_parting" 422 94 4 174 (.ref 176) (.ref 177) (.ref 178) 430 431 )::
 (nat_lit 180,fO "best_parting" "Bests.best_parting" qY mVE 179)::
 (nat_lit 186,cQ "best_of_partings" "Bests.best_of_partings" 433 102 4 181 (.ref 183) (.ref 184) (.ref 185) 445 446 )::
 (nat_lit 187,fO "best_of_partings" "Bests.best_of_partings" Y8 mVE 186)::
 (nat_lit 193,cQ "best_part" "Bests.best_part" 448 112 4 188 (.ref 190) (.ref 191) (.ref 192) 455 456 )::
 (nat_lit 194,fO "best_part" "Bests.best_part" QE mVE 193)::
 (nat_lit 196,dO #[en P "__module__" 372 mVE,en P "__firstlineno__" 376 (.int 64 375),S6 P "__init__" 387 152,S6 P "best" 397 159,S6 P "try_rules" 408 166,S6 P "try_rule" 421 173,S6 P "best_parting" 432 180,S6 P "best_of_partings" 447 187,S6 P "best_part" 457 194,S6 P "__static_attributes__" 463 195,S6 P "__dict__" 465 198,S6 P "__weakref__" 467 199,en P "__doc__" 468 .none] 4)::
 (nat_lit 197,{cls:=.type "type", data:=.cls {name:="Bests", bases:=[.type "object"],mro:=[.ref 197,.type "object"],ns:=196,qualname:="Bests" },slots:=#[.none,.none,.some (.str "Bests" 365),.some (.str "Bests" 373),.some (.builtin "object.__new__"),.some (.bool Bool.true)]})::
 (nat_lit 198,{cls:=.type "getset_descriptor", data:=.fields #[.str "__dict__" 464,.ref 197,.builtin "function.__dict__", .builtin "function.__dict__#set"]})::
 (nat_lit 199,{cls:=.type "getset_descriptor", data:=.fields #[.str "__weakref__" 466,.ref 197,.builtin "ExceptionGroup.__weakref__", .none]})::
 (nat_lit 207,cR "bounds" 471 116 2 202 (.ref 204) (.ref 205) (.ref 206) 481 482 )::
 (nat_lit 208,fN "bounds" Vv mVE 207)::
 (nat_lit 214,cR "best_tree" 484 123 2 209 (.ref 211) (.ref 212) (.ref 213) 490 491 )::
 (nat_lit 215,fN "best_tree" zd mVE 214)::
 (nat_lit 228,cQ "__init__" "Grammar.__init__" 513 134 3 223 (.ref 225) (.ref 226) (.ref 227) 519 520 )::
 (nat_lit 229,fO "__init__" "Grammar.__init__" Qr mVA 228)::
 (nat_lit 235,cQ "start" "Grammar.start" 522 143 1 230 (.ref 232) (.ref 233) (.ref 234) 526 527 )::
 (nat_lit 236,fO "start" "Grammar.start" jg mVA 235)::
 (nat_lit 242,cQ "rules" "Grammar.rules" 529 146 1 237 (.ref 239) (.ref 240) (.ref 241) 533 534 )::
 (nat_lit 243,fO "rules" "Grammar.rules" jd mVA 242)::
 (nat_lit 249,cQ "heads" "Grammar.heads" 536 149 1 244 (.ref 246) (.ref 247) (.ref 248) 540 541 )::
 (nat_lit 250,fO "heads" "Grammar.heads" jf mVA 249)::
 (nat_lit 256,cQ "live" "Grammar.live" 543 152 1 251 (.ref 253) (.ref 254) (.ref 255) 547 548 )::
 (nat_lit 257,fO "live" "Grammar.live" jK mVA 256)::
 (nat_lit 259,dO #[en P "__module__" 508 mVA,en P "__firstlineno__" 512 (.int 132 511),S6 P "__init__" 521 229,S6 P "start" 528 236,S6 P "rules" 535 243,S6 P "heads" 542 250,S6 P "live" 549 257,S6 P "__static_attributes__" 554 258,S6 P "__dict__" 556 261,S6 P "__weakref__" 558 262,en P "__doc__" 559 .none] 4)::
 (nat_lit 260,{cls:=.type "type", data:=.cls {name:="Grammar", bases:=[.type "object"],mro:=[.ref 260,.type "object"],ns:=259,qualname:="Grammar" },slots:=#[.none,.none,.some (.str "Grammar" 501),.some (.str "Grammar" 509),.some (.builtin "object.__new__"),.some (.bool Bool.true)]})::
 (nat_lit 261,{cls:=.type "getset_descriptor", data:=.fields #[.str "__dict__" 555,.ref 260,.builtin "function.__dict__", .builtin "function.__dict__#set"]})::
 (nat_lit 262,{cls:=.type "getset_descriptor", data:=.fields #[.str "__weakref__" 557,.ref 260,.builtin "ExceptionGroup.__weakref__", .none]})::
 (nat_lit 270,cR "check_rules" 562 154 1 265 (.ref 267) (.ref 268) (.ref 269) 568 569 )::
 (nat_lit 271,fN "check_rules" Jb mVA 270)::
 (nat_lit 277,cR "check_rule" 571 163 1 272 (.ref 274) (.ref 275) (.ref 276) 576 577 )::
 (nat_lit 278,fN "check_rule" JN mVA 277)::
 (nat_lit 284,cR "check_symbol" 579 171 1 279 (.ref 281) (.ref 282) (.ref 283) 583 584 )::
 (nat_lit 285,fN "check_symbol" jL mVA 284)::
 (nat_lit 289,cR "is_symbol" 586 174 1 286 .none .none (.ref 288) 589 590 )::
 (nat_lit 290,fN "is_symbol" Jw mVA 289)::
 (nat_lit 296,cR "is_letter" 592 176 1 291 (.ref 293) (.ref 294) (.ref 295) 596 597 )::
 (nat_lit 297,fN "is_letter" za mVA 296)::
 (nat_lit 303,cR "check_start" 599 178 2 298 (.ref 300) (.ref 301) (.ref 302) 604 605 )::
 (nat_lit 304,fN "check_start" Jd mVA 303)::
 (nat_lit 310,cR "check_sums" 607 181 2 305 (.ref 307) (.ref 308) (.ref 309) 615 616 )::
 (nat_lit 311,fN "check_sums" JL mVA 310)::
 (nat_lit 317,cR "heads_of" 618 189 1 312 (.ref 314) (.ref 315) (.ref 316) 624 625 )::
 (nat_lit 318,fN "heads_of" Za mVA 317)::
 (nat_lit 322,cR "live_of" 627 195 2 319 .none .none (.ref 321) 630 631 )::
 (nat_lit 323,fN "live_of" zU mVA 322)::
 (nat_lit 327,cR "has_live_body" 633 203 4 324 .none .none (.ref 326) 636 637 )::
 (nat_lit 328,fN "has_live_body" QJ mVA 327)::
 (nat_lit 332,cR "is_live_body" 639 205 3 329 .none .none (.ref 331) 642 643 )::
 (nat_lit 333,fN "is_live_body" Q8 mVA 332)::
 (nat_lit 337,cR "solved_rows" 647 208 2 334 .none .none (.ref 336) 650 651 )::
 (nat_lit 338,fN "solved_rows" Qv mVG 337)::
 (nat_lit 342,cR "without_itself" 653 214 2 339 .none .none (.ref 341) 656 657 )::
 (nat_lit 343,fN "without_itself" Qq mVG 342)::
 (nat_lit 347,cR "put_in" 659 221 3 344 .none .none (.ref 346) 662 663 )::
 (nat_lit 348,fN "put_in" vd mVG 347)::
 (nat_lit 354,cR "cleared" 665 226 2 349 (.ref 351) (.ref 352) (.ref 353) 670 671 )::
 (nat_lit 355,fN "cleared" ZY mVG 354)::
 (nat_lit 366,cQ "__init__" "Sums.__init__" 687 231 3 363 .none .none (.ref 365) 690 691 )::
 (nat_lit 367,fO "__init__" "Sums.__init__" Qm mVD 366)::
 (nat_lit 373,cQ "within" "Sums.within" 693 244 4 368 (.ref 370) (.ref 371) (.ref 372) 700 701 )::
 (nat_lit 374,fO "within" "Sums.within" j9 mVD 373)::
 (nat_lit 380,cQ "whole" "Sums.whole" 703 247 1 375 (.ref 377) (.ref 378) (.ref 379) 707 708 )::
 (nat_lit 381,fO "whole" "Sums.whole" JK mVD 380)::
 (nat_lit 385,cQ "settle" "Sums.settle" 710 250 3 382 .none .none (.ref 384) 713 714 )::
 (nat_lit 386,fO "settle" "Sums.settle" ju mVD 385)::
 (nat_lit 392,cQ "ends_at" "Sums.ends_at" 716 257 3 387 (.ref 389) (.ref 390) (.ref 391) 725 726 )::
 (nat_lit 393,fO "ends_at" "Sums.ends_at" jJ mVD 392)::
 (nat_lit 399,cQ "worth" "Sums.worth" 728 265 4 394 (.ref 396) (.ref 397) (.ref 398) 735 736 )::
 (nat_lit 400,fO "worth" "Sums.worth" JO mVD 399)::
 (nat_lit 406,cQ "worth_of_body" "Sums.worth_of_body" 738 270 4 401 (.ref 403) (.ref 404) (.ref 405) 745 746 )::
 (nat_lit 407,fO "worth_of_body" "Sums.worth_of_body" qX mVD 406)::
 (nat_lit 413,cQ "sum_of_partings" "Sums.sum_of_partings" 748 277 4 408 (.ref 410) (.ref 411) (.ref 412) 758 759 )::
 (nat_lit 414,fO "sum_of_partings" "Sums.sum_of_partings" qg mVD 413)::
 (nat_lit 416,dO #[en P "__module__" 682 mVD,en P "__firstlineno__" 686 (.int 229 685),S6 P "__init__" 692 367,S6 P "within" 702 374,S6 P "whole" 709 381,S6 P "settle" 715 386,S6 P "ends_at" 727 393,S6 P "worth" 737 400,S6 P "worth_of_body" 747 407,S6 P "sum_of_partings" 760 414,S6 P "__static_attributes__" 768 415,S6 P "__dict__" 770 418,S6 P "__weakref__" 772 419,en P "__doc__" 773 .none] 4)::
 (nat_lit 417,{cls:=.type "type", data:=.cls {name:="Sums", bases:=[.type "object"],mro:=[.ref 417,.type "object"],ns:=416,qualname:="Sums" },slots:=#[.none,.none,.some (.str "Sums" 675),.some (.str "Sums" 683),.some (.builtin "object.__new__"),.some (.bool Bool.true)]})::
 (nat_lit 418,{cls:=.type "getset_descriptor", data:=.fields #[.str "__dict__" 769,.ref 417,.builtin "function.__dict__", .builtin "function.__dict__#set"]})::
 (nat_lit 419,{cls:=.type "getset_descriptor", data:=.fields #[.str "__weakref__" 771,.ref 417,.builtin "ExceptionGroup.__weakref__", .none]})::
 (nat_lit 425,cR "live_rules" 776 284 1 422 .none .none (.ref 424) 779 780 )::
 (nat_lit 426,fN "live_rules" JP mVD 425)::
 (nat_lit 432,cR "is_step" 782 288 2 427 (.ref 429) (.ref 430) (.ref 431) 787 788 )::
 (nat_lit 433,fN "is_step" Vb mVD 432)::
 (nat_lit 437,cR "chains_of" 790 290 2 434 .none .none (.ref 436) 793 794 )::
 (nat_lit 438,fN "chains_of" JD mVD 437)::
 (nat_lit 444,cR "_law_cell_at" 798 304 2 439 (.ref 441) (.ref 442) (.ref 443) 803 804 )::
 (nat_lit 445,fN "_law_cell_at" JZ mVB 444)::
 (nat_lit 451,cR "_law_dice" 806 308 1 446 (.ref 448) (.ref 449) (.ref 450) 810 811 )::
 (nat_lit 452,fN "_law_dice" vg mVB 451)::
 (nat_lit 458,cR "_law_roll" 813 310 2 453 (.ref 455) (.ref 456) (.ref 457) 818 819 )::
 (nat_lit 459,fN "_law_roll" Z5 mVB 458)::
 (nat_lit 465,cR "_law_whole" 821 313 1 460 (.ref 462) (.ref 463) (.ref 464) 825 826 )::
 (nat_lit 466,fN "_law_whole" Zz mVB 465)::
 (nat_lit 472,cR "_law_symbols" 828 315 2 467 (.ref 469) (.ref 470) (.ref 471) 841 842 )::
 (nat_lit 473,fN "_law_symbols" j8 mVB 472)::
 (nat_lit 479,cR "_law_share" 844 329 2 474 (.ref 476) (.ref 477) (.ref 478) 852 853 )::
 (nat_lit 480,fN "_law_share" ze mVB 479)::
 (nat_lit 493,cR "_law_timed" 863 339 2 488 (.ref 490) (.ref 491) (.ref 492) 868 869 )::
 (nat_lit 494,fN "_law_timed" ZA mVB 493)::
 (nat_lit 500,cR "_law_bodies" 871 341 4 495 (.ref 497) (.ref 498) (.ref 499) 883 884 )::
 (nat_lit 501,fN "_law_bodies" zl mVB 500)::
 (nat_lit 505,cR "_law_rules" 886 353 3 502 .none .none (.ref 504) 889 890 )::
 (nat_lit 506,fN "_law_rules" zk mVB 505)::
 (nat_lit 512,cR "_law_made" 892 361 3 507 (.ref 509) (.ref 510) (.ref 511) 902 903 )::
 (nat_lit 513,fN "_law_made" vc mVB 512)::
 (nat_lit 524,cR "_law_words" 911 385 1 519 (.ref 521) (.ref 522) (.ref 523) 917 918 )::
 (nat_lit 525,fN "_law_words" Zp mVB 524)::
 (nat_lit 531,cR "_law_share_of" 920 392 2 526 (.ref 528) (.ref 529) (.ref 530) 927 928 )::
 (nat_lit 532,fN "_law_share_of" Jx mVB 531)::
 (nat_lit 536,cR "_law_is_tree" 930 399 3 533 .none .none (.ref 535) 933 934 )::
 (nat_lit 537,fN "_law_is_tree" Jf mVB 536)::
 (nat_lit 541,cR "_law_row" 936 413 3 538 .none .none (.ref 540) 939 940 )::
 (nat_lit 542,fN "_law_row" Z1 mVB 541)::
 (nat_lit 548,cR "_law_given" 942 416 1 543 (.ref 545) (.ref 546) (.ref 547) 948 949 )::
 (nat_lit 549,fN "_law_given" Zj mVB 548)::
 (nat_lit 553,cR "_law_most" 951 420 4 550 .none .none (.ref 552) 954 955 )::
 (nat_lit 554,fN "_law_most" z9 mVB 553)::
 (nat_lit 560,cR "_law_none_better" 957 429 3 555 (.ref 557) (.ref 558) (.ref 559) 972 973 )::
 (nat_lit 561,fN "_law_none_better" jq mVB 560)::
 (nat_lit 567,cR "law" 975 440 1 562 (.ref 564) (.ref 565) (.ref 566) 990 991 )::
 (nat_lit 568,fN "law" eM mVB 567)::[]
def KA:List Addr:=nat_lit 2::nat_lit 3::nat_lit 23::nat_lit 24::nat_lit 25::nat_lit 36::nat_lit 37::nat_lit 48::nat_lit 49::nat_lit 60::nat_lit 61::nat_lit 72::nat_lit 73::nat_lit 79::nat_lit 80::nat_lit 81::nat_lit 82::nat_lit 88::nat_lit 89::nat_lit 95::nat_lit 96::nat_lit 102::nat_lit 103::nat_lit 109::nat_lit 110::nat_lit 116::nat_lit 117::nat_lit 123::nat_lit 124::nat_lit 130::nat_lit 131::nat_lit 137::nat_lit 138::nat_lit 151::nat_lit 152::nat_lit 158::nat_lit 159::nat_lit 165::nat_lit 166::nat_lit 172::nat_lit 173::nat_lit 179::nat_lit 180::nat_lit 186::nat_lit 187::nat_lit 193::nat_lit 194::nat_lit 196::nat_lit 197::nat_lit 198::nat_lit 199::nat_lit 207::nat_lit 208::nat_lit 214::nat_lit 215::nat_lit 228::nat_lit 229::nat_lit 235::nat_lit 236::nat_lit 242::nat_lit 243::nat_lit 249::nat_lit 250::nat_lit 256::nat_lit 257::nat_lit 259::nat_lit 260::nat_lit 261::nat_lit 262::nat_lit 270::nat_lit 271::nat_lit 277::nat_lit 278::nat_lit 284::nat_lit 285::nat_lit 289::nat_lit 290::nat_lit 296::nat_lit 297::nat_lit 303::nat_lit 304::nat_lit 310::nat_lit 311::nat_lit 317::nat_lit 318::nat_lit 322::nat_lit 323::nat_lit 327::nat_lit 328::nat_lit 332::nat_lit 333::nat_lit 337::nat_lit 338::nat_lit 342::nat_lit 343::nat_lit 347::nat_lit 348::nat_lit 354::nat_lit 355::nat_lit 366::nat_lit 367::nat_lit 373::nat_lit 374::nat_lit 380::nat_lit 381::nat_lit 385::nat_lit 386::nat_lit 392::nat_lit 393::nat_lit 399::nat_lit 400::nat_lit 406::nat_lit 407::nat_lit 413::nat_lit 414::nat_lit 416::nat_lit 417::nat_lit 418::nat_lit 419::nat_lit 425::nat_lit 426::nat_lit 432::nat_lit 433::nat_lit 437::nat_lit 438::nat_lit 444::nat_lit 445::nat_lit 451::nat_lit 452::nat_lit 458::nat_lit 459::nat_lit 465::nat_lit 466::nat_lit 472::nat_lit 473::nat_lit 479::nat_lit 480::nat_lit 493::nat_lit 494::nat_lit 500::nat_lit 501::nat_lit 505::nat_lit 506::nat_lit 512::nat_lit 513::nat_lit 524::nat_lit 525::nat_lit 531::nat_lit 532::nat_lit 536::nat_lit 537::nat_lit 541::nat_lit 542::nat_lit 548::nat_lit 549::nat_lit 553::nat_lit 554::nat_lit 560::nat_lit 561::nat_lit 567::nat_lit 568::[]
theorem KE:∀ P,KA=(KP P).map (·.1):=fun _=>by kernel_rfl
set_option maxHeartbeats 0 in
theorem Ij:PySem.Challenge.rw_scoreflow_k16_whole_best_tree.wellSaid=true:=by kernel_rfl
def iM:?AA:={PySem.Challenge.pw_scoreflow_k16_whole_best_tree with main:={PySem.Challenge.pw_scoreflow_k16_whole_best_tree.main with body:=[top 1,top 2,top 3,top 4,top 5,top 7,top 9,top 10,top 11,top 12,top 13,top 14,top 15,top 16,top 17,top 18,top 20,top 21,top 22,top 24,top 25,top 26,top 27,top 28,top 29,top 30,top 31,top 32,top 33,top 34,top 35,top 36,top 37,top 38,top 40,top 41,top 42,top 43,top 45,top 46,top 47,top 48,top 50,top 51,top 52,top 53,top 54,top 55,top 56,top 57,top 58,top 59,top 60,top 61,top 62,top 63,top 64,top 65,top 66,top 67,top 68,top 69]}}
abbrev pr:?AA:=PySem.Challenge.pw_scoreflow_k16_whole_best_tree
def tp:?BM:=W.behindTheImports pr
def ev:Env:={scope:=pr.main.scope,locals:=mainNs,globals:=mainNs,cells:=[],code:=.ref 13,frame:=some 14}
def fr0 (n q:Str)(s:Stmt):Obj:={cls:=?Ab,data:=.func {name:=n,qualname:=q,params:=L2.Jj s,body:=.stmts (L2.qz s),scope:=L2.yp s,globals:=0,closure:=[],defaults:=?Ab,kwdefaults:=?Ab}}
def hA (P:?Ci):Heap:={objs:=⟨W.boot_o_0 P::
 W.boot_o_1 P::
 W.boot_o_2 P::
 W.boot_o_3 P::
 W.boot_o_4 P::
 W.boot_o_5 P::
 W.boot_o_6 P::
 W.boot_o_7 P::
 W.boot_o_8 P::
 W.boot_o_9 P::
 W.boot_o_10 P::
 {cls:=?zQ, data:=.seq #[]}::
 {cls:=?Ab,data:=.fields #[]}::
 cO "<module>" "<module>" 182 183 184 1 0 0 0 0 11 false 181 12 .none .none .none .none 185 186  ::
 {cls:=.type "frame", slots:=#[.some (.ref 13),.some (.ref 3),.some (.ref 3),.none,.some (.str "__main__" 164),.none,.some (.ref 0)]}::[]⟩}
def kq (P:?Ci)(a:Addr):Obj:=((KP P).lookup a).getD {cls:=?Ab}
def BF (P:?Ci):List Obj:=W.boot_o_0 P::
 W.boot_o_1 P::
 W.boot_o_2 P::
 dO #[en P "__name__" 165 mVD,en P "__doc__" 166 .none,en P "__package__" 167 .none,en P "__loader__" 168 (.builtin "__main__.__loader__#opaque"),en P "__spec__" 169 .none,S6 P "__annotations__" 170 6,S6 P "__builtins__" 171 4,en P "__file__" 173 (.str "/claim/cut.py" 172),en P "__cached__" 174 .none,S6 P "ScoreError" 206 24,S6 P "NoShare" 222 37,S6 P "NoEnd" 238 49,S6 P "NoGrammar" 254 61,S6 P "NoTree" 270 73,S6 P "stretches" 278 80,S6 P "NOUGHT" 283 81,S6 P "ONE" 286 82,S6 P "common_divisor" 295 89,S6 P "share" 304 96,S6 P "added" 315 103,S6 P "lessened" 323 110,S6 P "timed" 333 117,S6 P "parted" 341 124,S6 P "sum_of_products" 354 131,S6 P "is_less" 362 138,S6 P "Bests" 470 197,S6 P "bounds" 483 208,S6 P "best_tree" 492 215,en P "MOST_RULES" 496 (.int 30 495),en P "MOST_SYMBOLS" 498 (.int 4 497),en P "MOST_LETTERS" 500 (.int 8 499),S6 P "Grammar" 561 260,S6 P "check_rules" 570 271,S6 P "check_rule" 578 278,S6 P "check_symbol" 585 285,S6 P "is_symbol" 591 290,S6 P "is_letter" 598 297,S6 P "check_start" 606 304,S6 P "check_sums" 617 311,S6 P "heads_of" 626 318,S6 P "live_of" 632 323,S6 P "has_live_body" 638 328,S6 P "is_live_body" 644 333,S6 P "solved_rows" 652 338,S6 P "without_itself" 658 343,S6 P "put_in" 664 348,S6 P "cleared" 672 355,S6 P "Sums" 775 417] 48::
 W.boot_o_4 P::
 W.boot_o_5 P::
 W.boot_o_6 P::
 W.boot_o_7 P::
 W.boot_o_8 P::
 W.boot_o_9 P::
 W.boot_o_10 P::
 tO #[]::
 {cls:=?Ab,data:=.fields #[.int 2 0,.int 0 0,.ref 20,.int 4 0,.int 0 0,.ref 33,.int 6 0,.int 0 0,.ref 45,.int 8 0,.int 0 0,.ref 57,.int 10 0,.int 0 0,.ref 69,.int 13 0,.int 0 0,.ref 79,.int 21 0,.int 0 0,.ref 88,.int 27 0,.int 0 0,.ref 95,.int 34 0,.int 0 0,.ref 102,.int 39 0,.int 0 0,.ref 109,.int 43 0,.int 0 0,.ref 116,.int 47 0,.int 0 0,.ref 123,.int 51 0,.int 0 0,.ref 130,.int 61 0,.int 0 0,.ref 137,.int 64 0,.int 0 0,.ref 144,.int 116 0,.int 0 0,.ref 207,.int 123 0,.int 0 0,.ref 214,.int 132 0,.int 0 0,.ref 221,.int 154 0,.int 0 0,.ref 270,.int 163 0,.int 0 0,.ref 277,.int 171 0,.int 0 0,.ref 284,.int 174 0,.int 0 0,.ref 289,.int 176 0,.int 0 0,.ref 296,.int 178 0,.int 0 0,.ref 303,.int 181 0,.int 0 0,.ref 310,.int 189 0,.int 0 0,.ref 317,.int 195 0,.int 0 0,.ref 322,.int 203 0,.int 0 0,.ref 327,.int 205 0,.int 0 0,.ref 332,.int 208 0,.int 0 0,.ref 337,.int 214 0,.int 0 0,.ref 342,.int 221 0,.int 0 0,.ref 347,.int 226 0,.int 0 0,.ref 354,.int 229 0,.int 0 0,.ref 361]}::
 cO "<module>" "<module>" 182 183 184 1 0 0 0 0 11 false 181 12 .none .none .none .none 185 186::
 mO 13 3 3 (.str "__main__" 164)::
 tO #[.type "ValueError"]::
 ZP "type.__prepare__" ?qN::
 dO #[en P "__module__" 196 mVC,en P "__qualname__" 198 (.str "ScoreError" 197),en P "__firstlineno__" 200 (.int 2 199),S6 P "__static_attributes__" 201 22] 4::
 tO #[]::
 nO::
 cO "ScoreError" "ScoreError" 191 192 193 2 0 0 0 0 18 false 181 19 .none .none .none .none 194 195::
 mO 20 3 17 mVC::
 tO #[]::
 kq P 23::
 kq P 24::
 kq P 25::
 uO 24::
 ZP "object.__init_subclass__" (.ref 24)::
 tO #[.ref 24]::
 ZP "type.__prepare__" ?qN::
 dO #[en P "__module__" 214 mVC,en P "__qualname__" 216 (.str "NoShare" 215),en P "__firstlineno__" 218 (.int 4 217),S6 P "__static_attributes__" 219 35] 4::
 tO #[]::
 nO::
 cO "NoShare" "NoShare" 209 210 211 4 0 0 0 0 31 false 181 32 .none .none .none .none 212 213::
 mO 33 3 30 mVC::
 tO #[]::
 kq P 36::
 kq P 37::
 uO 37::
 ZP "object.__init_subclass__" (.ref 37)::
 tO #[.ref 24]::
 ZP "type.__prepare__" ?qN::
 dO #[en P "__module__" 230 mVC,en P "__qualname__" 232 (.str "NoEnd" 231),en P "__firstlineno__" 234 (.int 6 233),S6 P "__static_attributes__" 235 47] 4::
 tO #[]::
 nO::
 cO "NoEnd" "NoEnd" 225 226 227 6 0 0 0 0 43 false 181 44 .none .none .none .none 228 229::
 mO 45 3 42 mVC::
 tO #[]::
 kq P 48::
 kq P 49::
 uO 49::
 ZP "object.__init_subclass__" (.ref 49)::
 tO #[.ref 24]::
 ZP "type.__prepare__" ?qN::
 dO #[en P "__module__" 246 mVC,en P "__qualname__" 248 (.str "NoGrammar" 247),en P "__firstlineno__" 250 (.int 8 249),S6 P "__static_attributes__" 251 59] 4::
 tO #[]::
 nO::
 cO "NoGrammar" "NoGrammar" 241 242 243 8 0 0 0 0 55 false 181 56 .none .none .none .none 244 245::
 mO 57 3 54 mVC::
 tO #[]::
 kq P 60::
 kq P 61::
 uO 61::
 ZP "object.__init_subclass__" (.ref 61)::
 tO #[.ref 24]::
 ZP "type.__prepare__" ?qN::
 dO #[en P "__module__" 262 mVC,en P "__qualname__" 264 (.str "NoTree" 263),en P "__firstlineno__" 266 (.int 10 265),S6 P "__static_attributes__" 267 71] 4::
 tO #[]::
 nO::
 cO "NoTree" "NoTree" 257 258 259 10 0 0 0 0 67 false 181 68 .none .none .none .none 260 261::
 mO 69 3 66 mVC::
 tO #[]::
 kq P 72::
 kq P 73::
 uO 73::
 ZP "object.__init_subclass__" (.ref 73)::
 tO #[]::
 nO::
 fr0 ("stretches") ("stretches") JC::
 kq P 79::
 kq P 80::
 kq P 81::
 kq P 82::
 tO #[]::
 nO::
 tO #[.str "one" 290,.str "other" 291,.str "rest" 292]::
 tO #[]::
 fr0 ("common_divisor") ("common_divisor") Q1::
 kq P 88::
 kq P 89::
 tO #[]::
 nO::
 tO #[.str "top" 299,.str "bottom" 300,.str "divisor" 301]::
 tO #[]::
 fr0 ("share") ("share") VY::
 kq P 95::
 kq P 96::
 tO #[]::
 nO::
 tO #[.str "one" 308,.str "other" 309,.str "divisor" 310,.str "top" 311,.str "left" 312]::
 tO #[]::
 fr0 ("added") ("added") VA::
 kq P 102::
 kq P 103::
 tO #[]::
 nO::
 tO #[.str "one" 319,.str "other" 320]::
 tO #[]::
 fr0 ("lessened") ("lessened") Zc::
 kq P 109::
 kq P 110::
 tO #[]::
 nO::
 tO #[.str "one" 327,.str "other" 328,.str "first" 329,.str "second" 330]::
 tO #[]::
 fr0 ("timed") ("timed") KH::
 kq P 116::
 kq P 117::
 tO #[]::
 nO::
 tO #[.str "one" 337,.str "other" 338]::
 tO #[]::
 fr0 ("parted") ("parted") vY::
 kq P 123::
 kq P 124::
 tO #[]::
 nO::
 tO #[.str "pairs" 345,.str "top" 346,.str "bottom" 347,.str "one" 348,.str "other" 349,.str "below" 350,.str "divisor" 351]::
 tO #[]::
 fr0 ("sum_of_products") ("sum_of_products") Qd::
 kq P 130::
 kq P 131::
 tO #[]::
 nO::
 tO #[.str "one" 358,.str "other" 359]::
 tO #[]::
 fr0 ("is_less") ("is_less") ZZ::
 kq P 137::
 kq P 138::
 tO #[]::
 ZP "type.__prepare__" ?qN::
 dO #[en P "__module__" 372 mVE,en P "__qualname__" 374 (.str "Bests" 373),en P "__firstlineno__" 376 (.int 64 375),S6 P "__init__" 387 152,S6 P "best" 397 159,S6 P "try_rules" 408 166,S6 P "try_rule" 421 173,S6 P "best_parting" 432 180,S6 P "best_of_partings" 447 187,S6 P "best_part" 457 194,S6 P "__static_attributes__" 463 195] 11::
 tO #[]::
 {cls:=?Ab,data:=.fields #[.int 66 0,.int 4 0,.ref 151,.int 75 0,.int 4 0,.ref 158,.int 78 0,.int 4 0,.ref 165,.int 85 0,.int 4 0,.ref 172,.int 94 0,.int 4 0,.ref 179,.int 102 0,.int 4 0,.ref 186,.int 112 0,.int 4 0,.ref 193]}::
 cO "Bests" "Bests" 367 368 369 64 0 0 0 0 142 false 181 143 .none .none .none .none 370 371::
 mO 144 3 141 mVE::
 tO #[]::
 nO::
 tO #[.str "self" 380,.str "grammar" 381,.str "row" 382,.str "i" 383,.str "j" 384]::
 tO #[]::
 fr0 ("__init__") ("Bests.__init__") QZ::
 kq P 151::
 kq P 152::
 tO #[]::
 nO::
 tO #[.str "self" 391,.str "head" 392,.str "i" 393,.str "j" 394]::
 tO #[]::
 fr0 ("best") ("Bests.best") JI::
 kq P 158::
 kq P 159::
 tO #[]::
 nO::
 tO #[.str "self" 401,.str "i" 402,.str "j" 403,.str "grown" 404,.str "number" 405]::
 tO #[]::
 fr0 ("try_rules") ("Bests.try_rules") QF::
 kq P 165::
 kq P 166::
 tO #[]::
 nO::
 tO #[.str "self" 412,.str "number" 413,.str "i" 414,.str "j" 415,.str "rule" 416,.str "parting" 417,.str "product" 418]::
 tO #[]::
 fr0 ("try_rule") ("Bests.try_rule") QY::
 kq P 172::
 kq P 173::
 tO #[]::
 nO::
 tO #[.str "self" 425,.str "body" 426,.str "i" 427,.str "j" 428,.str "only" 429]::
 tO #[]::
 fr0 ("best_parting") ("Bests.best_parting") qY::
 kq P 179::
 kq P 180::
 tO #[]::
 nO::
 tO #[.str "self" 436,.str "body" 437,.str "i" 438,.str "j" 439,.str "best" 440,.str "middle" 441,.str "first" 442,.str "rest" 443,.str "product" 444]::
 tO #[]::
 fr0 ("best_of_partings") ("Bests.best_of_partings") Y8::
 kq P 186::
 kq P 187::
 tO #[]::
 nO::
 tO #[.str "self" 451,.str "symbol" 452,.str "i" 453,.str "j" 454]::
 tO #[]::
 fr0 ("best_part") ("Bests.best_part") QE::
 kq P 193::
 kq P 194::
 tO #[.str "known_bests" 458,.str "known_heads" 459,.str "known_partings" 460,.str "known_rules" 461,.str "row" 462]::
 kq P 196::
 kq P 197::
 kq P 198::
 kq P 199::
 uO 197::
 ZP "object.__init_subclass__" (.ref 197)::
 tO #[]::
 nO::
 tO #[.str "grammar" 474,.str "row" 475,.str "bests" 476,.str "found" 477,.str "head" 478,.str "i" 479,.str "j" 480]::
 tO #[]::
 fr0 ("bounds") ("bounds") Vv::
 kq P 207::
 kq P 208::
 tO #[]::
 nO::
 tO #[.str "grammar" 487,.str "row" 488,.str "found" 489]::
 tO #[]::
 fr0 ("best_tree") ("best_tree") zd::
 kq P 214::
 kq P 215::
 tO #[]::
 ZP "type.__prepare__" ?qN::
 dO #[en P "__module__" 508 mVA,en P "__qualname__" 510 (.str "Grammar" 509),en P "__firstlineno__" 512 (.int 132 511),S6 P "__init__" 521 229,S6 P "start" 528 236,S6 P "rules" 535 243,S6 P "heads" 542 250,S6 P "live" 549 257,S6 P "__static_attributes__" 554 258] 9::
 tO #[]::
 {cls:=?Ab,data:=.fields #[.int 134 0,.int 4 0,.ref 228,.int 143 0,.int 4 0,.ref 235,.int 146 0,.int 4 0,.ref 242,.int 149 0,.int 4 0,.ref 249,.int 152 0,.int 4 0,.ref 256]}::
 cO "Grammar" "Grammar" 503 504 505 132 0 0 0 0 219 false 181 220 .none .none .none .none 506 507::
 mO 221 3 218 mVA::
 tO #[]::
 nO::
 tO #[.str "self" 516,.str "start" 517,.str "rules" 518]::
 tO #[]::
 fr0 ("__init__") ("Grammar.__init__") Qr::
 kq P 228::
 kq P 229::
 tO #[]::
 nO::
 tO #[.str "self" 525]::
 tO #[]::
 fr0 ("start") ("Grammar.start") jg::
 kq P 235::
 kq P 236::
 tO #[]::
 nO::
 tO #[.str "self" 532]::
 tO #[]::
 fr0 ("rules") ("Grammar.rules") jd::
 kq P 242::
 kq P 243::
 tO #[]::
 nO::
 tO #[.str "self" 539]::
 tO #[]::
 fr0 ("heads") ("Grammar.heads") jf::
 kq P 249::
 kq P 250::
 tO #[]::
 nO::
 tO #[.str "self" 546]::
 tO #[]::
 fr0 ("live") ("Grammar.live") jK::
 kq P 256::
 kq P 257::
 tO #[.str "first" 550,.str "kept_heads" 551,.str "kept_live" 552,.str "kept_rules" 553]::
 kq P 259::
 kq P 260::
 kq P 261::
 kq P 262::
 uO 260::
 ZP "object.__init_subclass__" (.ref 260)::
 tO #[]::
 nO::
 tO #[.str "rules" 565,.str "seen" 566,.str "rule" 567]::
 tO #[]::
 fr0 ("check_rules") ("check_rules") Jb::
 kq P 270::
 kq P 271::
 tO #[]::
 nO::
 tO #[.str "rule" 574,.str "symbol" 575]::
 tO #[]::
 fr0 ("check_rule") ("check_rule") JN::
 kq P 277::
 kq P 278::
 tO #[]::
 nO::
 tO #[.str "text" 582]::
 tO #[]::
 fr0 ("check_symbol") ("check_symbol") jL::
 kq P 284::
 kq P 285::
 tO #[]::
 nO::
 fr0 ("is_symbol") ("is_symbol") Jw::
 kq P 289::
 kq P 290::
 tO #[]::
 nO::
 tO #[.str "sign" 595]::
 tO #[]::
 fr0 ("is_letter") ("is_letter") za::
 kq P 296::
 kq P 297::
 tO #[]::
 nO::
 tO #[.str "start" 602,.str "heads" 603]::
 tO #[]::
 fr0 ("check_start") ("check_start") Jd::
 kq P 303::
 kq P 304::
 tO #[]::
 nO::
 tO #[.str "heads" 610,.str "rules" 611,.str "head" 612,.str "total" 613,.str "rule" 614]::
 tO #[]::
 fr0 ("check_sums") ("check_sums") JL::
 kq P 310::
 kq P 311::
 tO #[]::
 nO::
 tO #[.str "rules" 621,.str "heads" 622,.str "rule" 623]::
 tO #[]::
 fr0 ("heads_of") ("heads_of") Za::
 kq P 317::
 kq P 318::
 tO #[]::
 nO::
 fr0 ("live_of") ("live_of") zU::
 kq P 322::
 kq P 323::
 tO #[]::
 nO::
 fr0 ("has_live_body") ("has_live_body") QJ::
 kq P 327::
 kq P 328::
 tO #[]::
 nO::
 fr0 ("is_live_body") ("is_live_body") Q8::
 kq P 332::
 kq P 333::
 tO #[]::
 nO::
 fr0 ("solved_rows") ("solved_rows") Qv::
 kq P 337::
 kq P 338::
 tO #[]::
 nO::
 fr0 ("without_itself") ("without_itself") Qq::
 kq P 342::
 kq P 343::
 tO #[]::
 nO::
 fr0 ("put_in") ("put_in") vd::
 kq P 347::
 kq P 348::
 tO #[]::
 nO::
 tO #[.str "row" 668,.str "k" 669]::
 tO #[]::
 fr0 ("cleared") ("cleared") ZY::
 kq P 354::
 kq P 355::
 tO #[]::
 ZP "type.__prepare__" ?qN::
 dO #[en P "__module__" 682 mVD,en P "__qualname__" 684 (.str "Sums" 683),en P "__firstlineno__" 686 (.int 229 685),S6 P "__init__" 692 367,S6 P "within" 702 374,S6 P "whole" 709 381,S6 P "settle" 715 386,S6 P "ends_at" 727 393,S6 P "worth" 737 400,S6 P "worth_of_body" 747 407,S6 P "sum_of_partings" 760 414,S6 P "__static_attributes__" 768 415] 12::
 tO #[]::
 {cls:=?Ab,data:=.fields #[.int 231 0,.int 4 0,.ref 366,.int 244 0,.int 4 0,.ref 373,.int 247 0,.int 4 0,.ref 380,.int 250 0,.int 4 0,.ref 385,.int 257 0,.int 4 0,.ref 392,.int 265 0,.int 4 0,.ref 399,.int 270 0,.int 4 0,.ref 406,.int 277 0,.int 4 0,.ref 413]}::
 cO "Sums" "Sums" 677 678 679 229 0 0 0 0 359 false 181 360 .none .none .none .none 680 681::
 mO 361 3 358 mVD::
 tO #[]::
 nO::
 fr0 ("__init__") ("Sums.__init__") Qm::
 kq P 366::
 kq P 367::
 tO #[]::
 nO::
 tO #[.str "self" 696,.str "head" 697,.str "i" 698,.str "j" 699]::
 tO #[]::
 fr0 ("within") ("Sums.within") j9::
 kq P 373::
 kq P 374::
 tO #[]::
 nO::
 tO #[.str "self" 706]::
 tO #[]::
 fr0 ("whole") ("Sums.whole") JK::
 kq P 380::
 kq P 381::
 tO #[]::
 nO::
 fr0 ("settle") ("Sums.settle") ju::
 kq P 385::
 kq P 386::
 tO #[]::
 nO::
 tO #[.str "self" 719,.str "i" 720,.str "j" 721,.str "ends" 722,.str "rule" 723,.str "worth" 724]::
 tO #[]::
 fr0 ("ends_at") ("Sums.ends_at") jJ::
 kq P 392::
 kq P 393::
 tO #[]::
 nO::
 tO #[.str "self" 731,.str "symbol" 732,.str "i" 733,.str "j" 734]::
 tO #[]::
 fr0 ("worth") ("Sums.worth") JO::
 kq P 399::
 kq P 400::
 tO #[]::
 nO::
 tO #[.str "self" 741,.str "body" 742,.str "i" 743,.str "j" 744]::
 tO #[]::
 fr0 ("worth_of_body") ("Sums.worth_of_body") qX::
 kq P 406::
 kq P 407::
 tO #[]::
 nO::
 tO #[.str "self" 751,.str "body" 752,.str "i" 753,.str "j" 754,.str "pairs" 755,.str "middle" 756,.str "worth" 757]::
 tO #[]::
 fr0 ("sum_of_partings") ("Sums.sum_of_partings") qg::
 kq P 413::
 kq P 414::
 tO #[.str "branches" 761,.str "chains" 762,.str "grammar" 763,.str "known_heads" 764,.str "known_sums" 765,.str "known_worths" 766,.str "row" 767]::
 kq P 416::
 kq P 417::
 kq P 418::
 kq P 419::
 uO 417::
 ZP "object.__init_subclass__" (.ref 417)::[]
def mq (P:?Ci)(i n:Nat):List Obj:=((BF P).drop i).take n
def Ec (P:?Ci):Heap:={objs:=⟨mq P 0 3++([dO #[en P "__name__" 165 mVA,en P "__doc__" 166 .none,en P "__package__" 167 .none,en P "__loader__" 168 (.builtin "__main__.__loader__#opaque"),en P "__spec__" 169 .none,S6 P "__annotations__" 170 6,S6 P "__builtins__" 171 4,en P "__file__" 173 (.str "/claim/cut.py" 172),en P "__cached__" 174 .none,S6 P "ScoreError" 206 24,S6 P "NoShare" 222 37,S6 P "NoEnd" 238 49,S6 P "NoGrammar" 254 61,S6 P "NoTree" 270 73,S6 P "stretches" 278 80,S6 P "NOUGHT" 283 81,S6 P "ONE" 286 82,S6 P "common_divisor" 295 89,S6 P "share" 304 96,S6 P "added" 315 103,S6 P "lessened" 323 110,S6 P "timed" 333 117,S6 P "parted" 341 124,S6 P "sum_of_products" 354 131,S6 P "is_less" 362 138,S6 P "Bests" 470 197,S6 P "bounds" 483 208,S6 P "best_tree" 492 215,en P "MOST_RULES" 496 (.int 30 495),en P "MOST_SYMBOLS" 498 (.int 4 497),en P "MOST_LETTERS" 500 (.int 8 499)] 31]++(mq P 4 8++([{cls:=?Ab,data:=.fields #[.int 2 0,.int 0 0,.ref 20,.int 4 0,.int 0 0,.ref 33,.int 6 0,.int 0 0,.ref 45,.int 8 0,.int 0 0,.ref 57,.int 10 0,.int 0 0,.ref 69,.int 13 0,.int 0 0,.ref 79,.int 21 0,.int 0 0,.ref 88,.int 27 0,.int 0 0,.ref 95,.int 34 0,.int 0 0,.ref 102,.int 39 0,.int 0 0,.ref 109,.int 43 0,.int 0 0,.ref 116,.int 47 0,.int 0 0,.ref 123,.int 51 0,.int 0 0,.ref 130,.int 61 0,.int 0 0,.ref 137,.int 64 0,.int 0 0,.ref 144,.int 116 0,.int 0 0,.ref 207,.int 123 0,.int 0 0,.ref 214]}]++(mq P 13 203))))⟩}
def DX (P:?Ci):Heap:={objs:=⟨BF P⟩}
def sA (w:?A9)(os:?EG):?AN:={heap:=hA w.params,toks:=187,os:=os}
def E7 (w:?A9)(os:?EG):?AN:={heap:=Ec w.params,toks:=501,os:=os}
def tj (w:?A9)(os:?EG):?AN:={heap:=DX w.params,toks:=776,os:=os}
def s0 (w:?A9)(os:?EG):?AN:={heap:=W.boot_heap w.params,gens:=#[],drawn:=W.boot_drawn,toks:=W.boot_toks,os:=os}
def chk (w:?A9)(s:?AN):?HK:=match W.staticsOk (importedModules pr.main.body) (W.boot_heap w.params) s.heap&&W.namesBound pr s.heap&&W.gensDone s&&W.laidKept (W.boot_heap w.params) s.heap with
 |true=>some s
 |false=>none
abbrev xt (s:?AN):Bool:=W.xlAt iM [] s&&W.recOk [] s
theorem g1 (w:World)(os:OsState):W.topGo treeTable pr w 11 (some (.ref 6)) 12 (s0 w os) (W.topStub pr)=some (sA w os,{cur:=denote treeTable (.body tp ev),code:=.body tp ev,pos:=⟨0,0,0,0⟩,stack:=[W.topFrame ⟨0,0,0,0⟩]}):=by kernel_rfl
theorem g2 (w:World)(os:OsState):W.segRun treeTable pr w 11 (some (.ref 6)) 1 1 (sA w os) (W.blockOf tp ev (.body tp ev) ⟨0,0,0,0⟩ [W.topFrame ⟨0,0,0,0⟩])=some (.next,sA w os,.body tp ev,⟨0,0,0,0⟩):=by kernel_rfl
set_option maxHeartbeats 0 in
theorem g3 (w:World)(os:OsState):W.segRun treeTable pr w 11 (some (.ref 6)) 1 2100 (sA w os) (W.piecesOf (tp.take 27) ev (.body tp ev) ⟨0,0,0,0⟩ [W.topFrame ⟨0,0,0,0⟩])=some (.next,E7 w os,.body tp ev,⟨131,0,131,12⟩):=by kernel_rfl
set_option maxHeartbeats 0 in
theorem g9 (w:World)(os:OsState):W.segRun treeTable pr w 11 (some (.ref 6)) 1 1500 (E7 w os) (W.piecesOf ((tp.drop 27).take 19) ev (.body tp ev) ⟨131,0,131,12⟩ [W.topFrame ⟨0,0,0,0⟩])=some (.next,tj w os,.body tp ev,⟨229,0,283,37⟩):=by kernel_rfl
def mid (w:?A9)(os:?EG):?HK:=(W.topRun treeTable pr w 11 (some (.ref 6)) 1000 (tj w os) (W.restOf ((tp.drop 27).drop 19) ev (.body tp ev) ⟨229,0,283,37⟩ [W.topFrame ?HC])).bind (chk w)
abbrev see (s:?AN):=W.openSeen iM [] (importedModules pr.main.body) xt true s
abbrev goo:=W.openGood iM []
set_option maxHeartbeats 0 in
theorem g4 (w:World)(os:OsState):(mid w os).map (fun s=>(W.kHook KP KA KE).obs s)=some ((W.kHook KP KA KE).val w):=by kernel_rfl
set_option maxHeartbeats 0 in
theorem g5 (w:World)(os:OsState):(mid w os).map (fun s=>(see s).1)=some goo.1:=by kernel_rfl
set_option maxHeartbeats 0 in
theorem g8 (w:World)(os:OsState):(mid w os).map (fun s=>(see s).2.1)=some goo.2.1:=by kernel_rfl
set_option maxHeartbeats 0 in
theorem g7 (w:World)(os:OsState):(mid w os).map (fun s=>((see s).2.2.1,(see s).2.2.2.1))=some (goo.2.2.1,goo.2.2.2.1):=by kernel_rfl
set_option maxHeartbeats 0 in
theorem g6 (w:World)(os:OsState):(mid w os).map (fun s=>(see s).2.2.2.2)=some goo.2.2.2.2:=by kernel_rfl
theorem CW (w:?A9)(os:?EG):W.topFrom treeTable pr w ?jW (s0 w os)=(?KL).bind (chk w):=by kernel_rfl
theorem Ed {A B C D E Y:Type}{m:?HK}{f:Shared->A×B×C×D×E}{o:Shared->Y}{v:A×B×C×D×E}{y:Y}(h1:m.map (fun s=>(f s).1)=some v.1)(h2:m.map (fun s=>(f s).2.1)=some v.2.1)(h3:m.map (fun s=>((f s).2.2.1,(f s).2.2.2.1))=some (v.2.2.1,v.2.2.2.1))(h4:m.map (fun s=>(f s).2.2.2.2)=some v.2.2.2.2)(h5:m.map o=some y):m.map (fun s=>(f s,o s))=some (v,y):=by
 cases m with
 |none=>cases h5
 |some s=>
  have h3:=Option.some.inj h3;simp only[Prod.mk.injEq] at h3;exact congrArg some (Prod.ext (Prod.ext ?Fe (Prod.ext (Option.some.inj h2) (Prod.ext h3.1 (Prod.ext h3.2 (Option.some.inj h4))))) (Option.some.inj h5))
theorem Gu (w:?A9)(os:?EG):(?KL).bind (chk w)=mid w os:=by
 have q:=g4 w os;unfold mid at q ⊢;cases hr:W.topRun treeTable pr w 11 (some (.ref 6)) 1000 (tj w os) (W.restOf ((tp.drop 27).drop 19) ev (.body tp ev) ⟨229,0,283,37⟩ [W.topFrame ⟨0,0,0,0⟩]) with
 |none=>rw[hr] at q;cases q
 |some r=>
  have c:=W.piece_app (g9 w os) hr;rw[Qi] at c;have c:=W.piece_app (g3 w os) c;rw[Qi] at c;rw[W.go_top (g1 w os) (W.piece_block (g2 w os) c)]
theorem C7 {A:Type}{f:Shared->A}{x:?AN}{g:Shared->Option Shared}{m:?HK}{y:A}(h:m=some x)(k:(g x).map f=some y):(m.bind g).map f=some y:=by
 subst h;exact k
theorem DE (w:?A9):∃ os,W.fencedOpening treeTable pr w ?jW=some (s0 w os):=by
 have b:=W.boot_open (p:=pr) (N:=?jW) ?jF ?jF (fun s=>by rfl) w;obtain⟨s,h0,e0⟩:=Yt.mp b;obtain⟨hp,g,d,tk,os⟩:=s;simp only[Prod.mk.injEq] at e0;obtain⟨rfl,rfl,rfl,rfl⟩:=e0;exact⟨os,h0⟩
theorem hl:W.LeftO pr iM [] xt (W.kHook KP KA KE).obs (W.kHook KP KA KE).val ?jW:=by
 intro w;obtain⟨os,h0⟩:=DE w;unfold W.openEnds;refine C7 h0 ?_;rw[CW,Gu];exact Ed (f:=see) (v:=goo) (g5 w os) (g8 w os) (g7 w os) (g6 w os) (g4 w os)
end Law
namespace L2
open PySem PySem.Spec PyProof.Rows
abbrev Key:=Sum Int Str
def ES:Key->Value->Bool
 |.inl k,v=>Value.isInt k v
 |.inr x,v=>Value.isStrOf x v
def Li (w:?A9):Key->Int
 |.inl k=>hashInt k
 |.inr x=>hashStr w x
theorem js:∀ {k:Key} {v:Value},ES k v=true->(∃ i t,k=Sum.inl i/\v=Value.int i t)∨(∃ x t,k=Sum.inr x/\v=Value.str x t)
 |.inl i,v,h=>by
  obtain⟨t,e⟩:=Value.isInt_shape (k:=i) (v:=v) h;exact .inl ⟨i,t,rfl,e⟩
 |.inr x,v,h=>by
  obtain⟨t,e⟩:=Value.isStrOf_shape (x:=x) (v:=v) h;exact .inr ⟨x,t,rfl,e⟩
theorem Fz (a b:Int):decide ((Sum.inl a:Key)=Sum.inl b)=(a==b):=by
 by_cases e:a=b
 .subst e;simp
 .have h:¬ (Sum.inl a:Key)=Sum.inl b:=fun q=>e (Sum.inl.inj q);rw[yu h];exact(beq_eq_false_iff_ne.mpr e).symm
theorem Gg (a b:Str):decide ((Sum.inr a:Key)=Sum.inr b)=decide (a=b):=by
 by_cases e:a=b
 .subst e;simp
 .have h:¬ (Sum.inr a:Key)=Sum.inr b:=fun q=>e (Sum.inr.inj q);rw[yu h,yu e]
theorem Gj (a:Int)(b:Str):decide ((Sum.inl a:Key)=Sum.inr b)=false:=yu (fun q=>nomatch q)
theorem Hj (a:Str)(b:Int):decide ((Sum.inr a:Key)=Sum.inl b)=false:=yu (fun q=>nomatch q)
def Qn (prog:?AA)(w:?A9):PySem.KeyKind prog w Key where
 is:=ES
 hash:=Li w
 inj:=fun v a b ha hb=>by
  rcases js ha with ⟨i,t,rfl,rfl⟩|⟨x,t,rfl,rfl⟩
  .rcases js hb with ⟨j,u,rfl,e⟩|⟨y,u,rfl,e⟩
   .injection e with e1 _;rw[e1]
   .exact nomatch e
  .rcases js hb with ⟨j,u,rfl,e⟩|⟨y,u,rfl,e⟩
   .exact nomatch e
   .injection e with e1 _;rw[e1]
 byValue:=fun k v h=>by
  rcases js h with ⟨i,t,rfl,rfl⟩|⟨x,t,rfl,rfl⟩ <;> rfl
 pyHash:=fun hv h=>by
  rcases js hv with ⟨i,t,rfl,rfl⟩|⟨x,t,rfl,rfl⟩
  .exact wpAny_pyHash_int h
  .exact wpAny_pyHash_str h
 eqBool:=fun hu hv h=>by
  rcases js hu with ⟨i,t,rfl,rfl⟩|⟨x,t,rfl,rfl⟩
  .rcases js hv with ⟨j,u,rfl,rfl⟩|⟨y,u,rfl,rfl⟩
   .rw[Fz] at h;exact wpAny_eqBool_int h
   .rw[Gj] at h;exact SeqAt.EqAt.int_str i t y u _ _ _ _ h
  .rcases js hv with ⟨j,u,rfl,rfl⟩|⟨y,u,rfl,rfl⟩
   .rw[Hj] at h;exact SeqAt.EqAt.str_int x t j u _ _ _ _ h
   .rw[Gg] at h;exact wpAny_eqBool_str h
 «strs»:=fun k x t v h=>by
  rcases js h with ⟨i,u,rfl,e⟩|⟨y,u,rfl,e⟩
  .exact nomatch e
  .injection e with e1 _;subst e1;cases v <;> rfl
inductive V where
 |non|bl (b:Bool)|int (i:Int)|str (x:Str)|byt (b:Array UInt8)|flt (b:UInt64)|ref (a:Addr)|ty (n:?Ch)
 deriving DecidableEq
def YX:V->Value->Prop
 |.non,u=>u=Value.none
 |.bl b,u=>u=Value.bool b
 |.int i,u=>∃ t,u=Value.int i t
 |.str x,u=>∃ t,u=Value.str x t
 |.byt b,u=>∃ t,u=Value.bytes b t
 |.flt b,u=>∃ t,u=Value.float b t
 |.ref a,u=>u=Value.ref a
 |.ty n,u=>u=Value.type n
abbrev qj:List V->List Value->Prop:=Paired YX
theorem qj.length(r:qj xs us):xs.length=us.length:=Paired.length r
theorem qj.get:∀ {xs:List V} {us:List Value} {i:Nat} {x:V},qj xs us->xs[i]?=some x->∃ u,us[i]?=some u/\YX x u
 |_,_,_,_,.nil,e=>by simp at e
 |_,_,0,_,.cons r _,e=>by simp at e;subst e;exact⟨_,rfl,r⟩
 |_,_,i+1,x,.cons _ t,e=>by
  obtain⟨u,h1,h2⟩:=qj.get (i:=i) (x:=x) t (by simpa using e);exact⟨u,by simpa using h1,h2⟩
theorem qj.set(r:YX x u):∀ {xs:List V} {us:List Value} (i:Nat),qj xs us->qj (xs.set i x) (us.set i u)
 |_,_,_,.nil=>.nil
 |_,_,0,.cons _ t=>.cons r t
 |_,_,i+1,.cons q t=>.cons q (qj.set r i t)
theorem qj.append:∀ {xs ys:List V} {us ws:List Value},qj xs us->qj ys ws->qj (xs++ys) (us++ws)
 |_,_,_,_,.nil,s=>s
 |_,_,_,_,.cons r t,s=>.cons r (qj.append t s)
theorem qj.take:∀ {xs:List V} {us:List Value} (n:Nat),qj xs us->qj (xs.take n) (us.take n)
 |_,_,0,_=>.nil
 |_,_,_+1,.nil=>.nil
 |_,_,n+1,.cons r t=>.cons r (qj.take n t)
theorem qj.drop:∀ {xs:List V} {us:List Value} (n:Nat),qj xs us->qj (xs.drop n) (us.drop n)
 |_,_,0,r=>r
 |_,_,_+1,.nil=>.nil
 |_,_,n+1,.cons _ t=>qj.drop n t
def kE:Option V->Option Value->Prop
 |some v,some u=>YX v u
 |none,none=>True
 |_,_=>False
def KV:List (κ×V)->List (κ×Value)->Prop:=Paired fun (p:κ×V) (q:κ×Value)=>p.1=q.1/\YX p.2 q.2
def kV:Key->V
 |.inl i=>.int i
 |.inr x=>.str x
inductive HO where
 |lst (xs:?AL)
 |tup (xs:?AL)
 |dK (kvs:?qM)|dT (kvs:List (List Key×V))
 |set (S:Int->Bool) (n:Nat)
 |ins (C dx:Addr) (fs:List (Str×V))
 |own (x:Addr)
 |xd (fs:List (Str×V))
 |met (f x:Addr)
 |rng (lo hi:Int)
 |frz (o:Obj) (u:HO)
 |tbl (ps:?BL)
 |ext (φ:Heap->Prop)
abbrev Hp:=Addr->Option HO
def upd (H:Hp)(a:Addr)(o:HO):Hp:=fun b=>if b=a then some o else H b
theorem yT:upd H a o a=some o:=by unfold upd;rw[yc rfl]
theorem yX(h:b≠a):upd H a o b=H b:=by unfold upd;rw[yd h]
theorem Im {H:Hp}{a b:Addr}{o u:HO}(h:H a=some o)(h':H b=some u)(d:o≠u):a≠b:=by
 intro e;subst e;rw[h] at h';exact d (Option.some.inj h')
theorem Ys {H:Hp}{a b:Addr}{o:HO}(h:H a=some o)(h':H b=none):a≠b:=by
 intro e;subst e;rw[h] at h';cases h'
section
variable (P:?AA)(w:?A9)
def Qt (H:Hp)(h:Heap)(a:Addr):HO->Prop
 |.lst xs=>xs.length<=sizeLine/\∃ (its:List Value) (n:Nat),qj xs its/\h.get? a=some {cls:=?R, data:=?Dp}
 |.tup xs=>xs.length<=sizeLine/\∃ its:List Value,qj xs its/\IsTup h a its.toArray
 |.dK kvs=>kvs.length<=sizeLine/\?yB=false/\∃ vs,KV kvs vs/\h.DictOf ?BP a vs
 |.dT kvs=>kvs.length<=sizeLine/\?yB=false/\∃ xs:List (List Key×Addr×Value),
   Paired (fun (p:List Key×V) (q:List Key×Addr×Value)=>p.1=q.1/\H q.2.1=some (.tup (p.1.map kV))/\YX p.2 q.2.2) kvs xs/\
   ∃ o es ep,h.get? a=some o/\o.ExactDict/\o.data=.dict es ep/\es.toList=xs.map (entryOfKey ?Fc)/\(xs.map ?C).Nodup
 |.set S n=>h.SetOf (intKind P w) a S n
 |.ins C dx fs=>H dx=some (.own a)/\fs.length<=1000/\dx≠a/\h.get? a=some ?JZ/\
   ∃ mA,h.Ns1 dx mA/\(∀ f,?MA)/\PySem.Within mA (fs.map ?C)
 |.own _=>∃ o,h.get? a=some o
 |.xd fs=>∃ mA,h.Ns1 a mA/\∀ f,kE (fs.lookup f) (mA f)
 |.rng lo hi=>∃ t u v,h.get? a=some {cls:=.type "range", data:=.fields #[.int lo t,.int hi u,.int 1 v]}
 |.frz o u=>h.get? a=some o/\Qt H h a u
 |.tbl ps=>h.get? a=some {cls:=?Ab,data:=.fields ps}
 |.met f x=>h.get? a=some (W.methodObj ?Am (.ref x))
 |.ext φ=>φ h/\(∃ o,h.get? a=some o)/\∀ h1 h2:Heap,φ h1->(∀ o,h1.get? a=some o->h2.get? a=some o)->φ h2
def HOk (H:Hp)(h:Heap):Prop:=∀ a o,H a=some o->Qt P w H h a o
end
section
theorem Qt.lt (x:?Ja):a<h.objs.size:=by
 cases o with
 |lst xs=>obtain⟨_,_,_,_,e⟩:=x;exact yn e
 |tup xs=>obtain⟨_,_,_,p⟩:=x;exact p.lt
 |dK kvs=>obtain⟨_,_,_,_,o,_,_,e,_⟩:=x;exact yn e
 |dT kvs=>obtain⟨_,_,_,_,o,_,_,e,_⟩:=x;exact yn e
 |set S n=>obtain⟨o,_,_,_,e,_⟩:=x;exact yn e
 |ins C dx fs=>obtain⟨_,_,_,e,_⟩:=x;exact yn e
 |own y=>obtain⟨_,e⟩:=x;exact yn e
 |xd fs=>obtain⟨_,⟨_,_,_,e,_⟩,_⟩:=x;exact yn e
 |rng lo hi=>obtain⟨_,_,_,e⟩:=x;exact yn e
 |frz ob u=>obtain⟨e,_⟩:=x;exact yn e
 |tbl ps=>exact yn (show h.get? a=some _ from x)
 |met f y=>exact yn (show h.get? a=some _ from x)
 |ext φ=>obtain⟨_,⟨_,e⟩,_⟩:=x;exact yn e
theorem Paired.mapP {F G:α->β->Prop}:∀ {l₁:List α} {l₂:List β},Paired F l₁ l₂->(∀ a b,F a b->G a b)->Paired G l₁ l₂
 |_,_,.nil,_=>.nil
 |_,_,.cons r t,f=>.cons (f _ _ r) (Paired.mapP t f)
theorem Qt.stay (x:?Ja)(k:∀ b u,(b=a∨H b=some (.own a))->h.get? b=some u->h'.get? b=some u)
  (ho:∀ b,H b=some (.own a)->H' b=some (.own a)) (ht:∀ b xs,H b=some ?Bc->H' b=some ?Bc):Qt P w H' h' a o:=by
 induction o with
 |lst xs=>obtain⟨z,its,n,r,e⟩:=x;exact⟨z,its,n,r,?C5⟩
 |tup xs=>obtain⟨z,its,r,ob,e,c⟩:=x;exact⟨z,its,r,ob,?C5,c⟩
 |dK kvs=>obtain⟨z,y,vs,r,ob,es,ep,e,c⟩:=x;exact⟨z,y,vs,r,ob,es,ep,?C5,c⟩
 |dT kvs=>
  obtain⟨z,y,xs,r,ob,es,ep,e,c⟩:=x;exact⟨z,y,xs,Paired.mapP r fun p q z=>⟨z.1,ht _ _ z.2.1,z.2.2⟩,ob,es,ep,?C5,c⟩
 |set S n=>obtain⟨ob,es,ep,t,e,c⟩:=x;exact⟨ob,es,ep,t,?C5,c⟩
 |ins C dx fs=>
  obtain⟨d,z,ne,e,mA,⟨od,es,ep,e2,c⟩,r⟩:=x;exact⟨ho _ d,z,ne,?C5,mA,⟨od,es,ep,k _ _ (.inr d) e2,c⟩,r⟩
 |own y=>obtain⟨ob,e⟩:=x;exact⟨ob,?C5⟩
 |xd fs=>obtain⟨mA,⟨od,es,ep,e,c⟩,r⟩:=x;exact⟨mA,⟨od,es,ep,?C5,c⟩,r⟩
 |rng lo hi=>obtain⟨t,u,v,e⟩:=x;exact⟨t,u,v,?C5⟩
 |frz ob u ih=>obtain⟨e,q⟩:=x;exact⟨?C5,ih q⟩
 |tbl ps=>
  have e:h.get? a=some {cls:=?Ab,data:=.fields ps}:=x;show h'.get? a=some {cls:=?Ab,data:=.fields ps};exact k a _ ?A2 e
 |met f y=>
  have e:h.get? a=some (W.methodObj (.ref f) (.ref y)):=x;show h'.get? a=some (W.methodObj ?Am (.ref y));exact k a _ ?A2 e
 |ext φ=>obtain⟨p,⟨o,e⟩,st⟩:=x;exact⟨st _ _ p fun o q=>k _ _ ?A2 q,⟨o,?C5⟩,st⟩
theorem HOk.lt (x:?BA)(e:H a=some o):a<h.objs.size:=(x a o e).lt
theorem HOk.fresh (x:?BA)(e:h.objs.size<=a):H a=none:=by
 cases q:H a with
 |none=>rfl
 |some u=>exact absurd (yW (x.lt q) e) (jj _)
theorem HOk.kept (x:?BA)(k:∀ b u,?kO):HOk P w H h':=fun a o e=>
 (x a o e).stay (fun b u _ q=>k b u q) (fun _ q=>q) fun _ _ q=>q
theorem HOk.laid (x:?BA)(k:∀ b u,?kO)(hp:h.objs.size<=a)(new:Qt P w ?E1 h' a o):HOk P w ?E1 h':=fun b u e=>by
 have hn:=x.fresh hp;by_cases hb:b=a
 .subst hb;rw[yT] at e;cases e;exact new
 .rw[yX hb] at e;exact(x b u e).stay (fun c v _ q=>k c v q) (fun c q=>by rw[yX (Ys q hn)];exact q) fun c xs q=>by rw[yX (Ys q hn)];exact q
end
def Rd (H:Hp)(a:Addr)(u:HO):Prop:=H a=some u∨∃ o,H a=some ?D3
theorem Rd.ok(r:Rd H a u)(x:?BA):Qt P w H h a u:=by
 rcases r with r|⟨o,r⟩
 .exact x a u r
 .obtain⟨_,q⟩:=x a _ r;exact q
def Mut:Option HO->Prop
 |some (.lst _)=>True
 |some (.dK _)=>True
 |some (.dT _)=>True
 |some (.set _ _)=>True
 |some (.ins _ _ _)=>True
 |some (.ext _)=>True
 |_=>False
section
theorem HOk.write (ok:?BA)(mu:Mut (H x))(he:e=x∨H e=some (.own x))(k:∀ b u,b≠e->h.get? b=some u->h'.get? b=some u)(heo:∃ u,h'.get? e=some u)
  (new:Qt P w (upd H x o') h' x o'):HOk P w (upd H x o') h':=fun b u q=>by
 have nown:∀ c y,H c=some (.own y)->c≠x:=fun c y r z=>by subst z;rw[r] at mu;exact mu
 have ntup:∀ c xs,H c=some ?Bc->c≠x:=fun c xs r z=>by subst z;rw[r] at mu;exact mu
 by_cases hb:b=x
 .subst hb;rw[yT] at q;cases q;exact new
 .rw[yX hb] at q;by_cases hbe:b=e
  .have q':H b=some (.own x):=by
    rcases he with z|z
    .exact absurd (hbe.trans z) hb
    .rw[hbe];exact z
   rw[q] at q';cases q';obtain⟨v,hv⟩:=heo;exact⟨v,by rw[hbe];exact hv⟩
  .refine(ok b u q).stay (fun c v hc r=>k c v ?_ r) (fun c r=>by rw[yX (nown c b r)];exact r) fun c xs r=>by rw[yX (ntup c xs r)];exact r
   rcases hc with rfl|hc
   .exact hbe
   .rintro rfl;rcases he with z|z
    .exact nown c b hc z
    .rw[hc] at z;cases z;exact hb rfl
end
structure Un (fs ex:?B9)(H H':Hp)(h h':Heap):Prop where
 keep:∀ b o,h.get? b=some o->H b=none->b∉fs->b∉ex->h'.get? b=some o
 slot:∀ b o,h.get? b=some o->H b=none->b∈fs->b∉ex->∃ sl,h'.get? b=some {o with slots:=sl}
 free:∀ b o,h.get? b=some o->H b=none->b∉ex->H' b=none
 there:∀ b o,h.get? b=some o->b∉ex->∃ o',h'.get? b=some o'
 tups:∀ b xs,H b=some ?Bc->H' b=some ?Bc
 frzs:∀ b o u,H b=some ?D3->H' b=some ?D3
 tbls:∀ b ps,H b=some (.tbl ps)->∃ more,H' b=some (.tbl (ps++more))
section
variable {h h1 h2 h':Heap}
theorem Un.any (u:Un fs ex H H1 h h1)(q:h.get? b=some ob)(n:H b=none)(hx:b∉ex):∃ sl,h1.get? b=some {ob with slots:=sl}:=by
 by_cases hb:b∈fs
 .exact u.slot b ob q n hb hx
 .exact⟨ob.slots,u.keep b ob q n hb hx⟩
theorem Un.kept (k:∀ b u,?kO):Un fs ex H H h h':=
 ⟨fun b ob q _ _ _=>k b ob q,fun b ob q _ _ _=>⟨ob.slots,k b ob q⟩,fun _ _ _ n _=>n,fun b ob q _=>⟨ob,k b ob q⟩,fun _ _ q=>q,fun _ _ _ q=>q,fun _ ps q=>⟨#[],by rw[q];simp⟩⟩
theorem Un.refl:Un fs ex H H h h:=Un.kept fun _ _ q=>q
theorem Un.laid (k:∀ b u,?kO)(hp:h.objs.size<=a)(hn:H a=none):Un fs ex H ?E1 h h' where
 keep:=fun b u q _ _ _=>k b u q
 slot:=fun b u q _ _ _=>⟨u.slots,k b u q⟩
 free:=fun b u q n _=>by rw[yX (Yb (yW (yn q) hp))];exact n
 there:=fun b u q _=>⟨u,k b u q⟩
 tups:=fun b xs q=>by rw[yX (Ys q hn)];exact q
 frzs:=fun b u xs q=>by rw[yX (Ys q hn)];exact q
 tbls:=fun b ps q=>⟨#[],by rw[yX (Ys q hn),q];simp⟩
theorem Un.write (mu:Mut (H x))(he:e=x∨H e=some (.own x))(k:∀ b u,b≠e->h.get? b=some u->h'.get? b=some u)(heo:∃ u,h'.get? e=some u):Un fs ex H (upd H x o) h h':=by
 have hx:∀ b,H b=none->b≠x:=fun b n z=>by subst z;rw[n] at mu;exact mu
 have hb:∀ b,H b=none->b≠e:=fun b n z=>by
  subst z;rcases he with r|r
  .exact hx b n r
  .rw[n] at r;cases r
 have hm:∀ b u,H b=some u->¬ Mut (some u)->b≠x:=fun b u q nm z=>by subst z;rw[q] at mu;exact nm mu
 refine⟨fun b u q n _ _=>k b u (hb b n) q,fun b u q n _ _=>⟨u.slots,k b u (hb b n) q⟩,fun b u q n _=>by rw[yX (hx b n)];exact n,fun b u q _=>?_,
  fun b xs q=>by rw[yX (hm b _ q fun z=>z)];exact q,fun b u xs q=>by rw[yX (hm b _ q fun z=>z)];exact q,fun b ps q=>⟨#[],by rw[yX (hm b _ q fun z=>z),q];simp⟩⟩
 by_cases hbe:b=e
 .subst hbe;exact heo
 .exact⟨u,k b u hbe q⟩
end
def trk (h:Heap)(H:Hp):?B9:=(List.range h.objs.size).filter fun a=>(H a).isSome
def cp (h:Heap)(H:Hp):Heap:=W.hideAll h (trk h H)
theorem rb (h:Heap)(H:Hp):(cp h H).objs.size=h.objs.size:=W.hideAll_size _ _
theorem sD {h:Heap}{H:Hp}{b:Addr}{o:Obj}(e:h.get? b=some o)(n:H b=none):(cp h H).get? b=some o:=
 W.hideAll_get _ e fun hm=>by
  have q:(H b).isSome=true:=(YA.mp hm).2;rw[n] at q;simp at q
theorem CY {h:Heap}{H:Hp}{b:Addr}{o:Obj}(e:(cp h H).get? b=some o):h.get? b=some o/\H b=none:=by
 have e':h.get? b=some o:=W.of_hideAll (trk h H) e;refine⟨e',?_⟩;cases q:H b with
 |none=>rfl
 |some x=>
  have hm:b∈trk h H:=YA.mpr ⟨qk.mpr (yn e'),by simp[q]⟩;have z:(cp h H).get? b=none:=W.hideAll_none (trk h H) hm;rw[z] at e;cases e
structure Mod (K:?A0)(mg:?J)(base:Heap):Prop where
 kin:K.In base
 glob:base.Ns mainGlobals mg
 blt:∃ mb,base.Ns builtinsNs mb/\∀ x:Str,x ≠ "__name__" -> mb x=bootBuiltins x
 nolimit:base.NoLimit
 seer:base.NoSeer
structure Cx where
 prog:Program
 w:World
 K:W.Frag
 mg:Str->Option Value
 base:Heap
 A:Around
 N:List Str
 s₀:Shared
 H₀:Hp
 env:Env
 outer:List Env
 stack:List Env
 ex:List Addr
 fn:Str->Bool
 calm:Bool
 pn:List (Addr×Obj)
 xe:Value->Shared->Prop
def frs (l:?D5):?B9:=l.filterMap (·.frame)
abbrev Cx.fs (X:Cx):?B9:=frs X.outer
def Vis (sc:?BH)(x:Str):Prop:=sc.names.lookup x=some .local∨sc.names.lookup x=some .cell∨sc.names.lookup x=some .free
def Loc (sc:?BH)(x:Str):Prop:=sc.names.lookup x=some .local∨sc.names.lookup x=some .cell
def Lj (env:Env)(h:Heap)(m:?J)(x:Str)(u:?AJ):Prop:=
 (env.kindOf x=some .local/\m x=some u)∨((env.kindOf x=some .cell∨env.kindOf x=some .free)/\∃ c,env.cells.lookup x=some c/\h.IsCell c (some u))
structure Cx.Ok (X:Cx):Prop where
 mod:Mod X.K X.mg X.base
 kind:X.env.scope.kind=.function
 glob:X.env.globals=mainGlobals
 blt:X.env.builtins=builtinsNs
 above:X.s₀.heap.objs.size<=X.env.locals
 inj:∀ x y c,X.env.cells.lookup x=some c->X.env.cells.lookup y=some c->x=y
 has:∀ x,(X.env.kindOf x=some .cell∨X.env.kindOf x=some .free)->∃ c,X.env.cells.lookup x=some c
 cab:∀ x c,X.fn x=true->X.env.cells.lookup x=some c->X.s₀.heap.objs.size<=c
 hd:X.calm=true->X.A.handled=none
 frames:X.A.frames=some X.stack
 stk:X.stack=X.outer∨(X.stack=X.env::X.outer/\X.env.frame=some X.env.locals)
 exf:∀ b∈X.ex,b≠X.env.locals/\∀ x c,X.env.cells.lookup x=some c->c≠b
 bs:∀ b o,X.base.get? b=some o->X.s₀.heap.get? b=some o/\X.H₀ b=none
 bsz:X.base.objs.size<=X.s₀.heap.objs.size
 noex:∀ b o,X.base.get? b=some o->b∉X.ex
 exfs:∀ b∈X.ex,b∉X.fs
 funs:X.s₀.heap.FunFrames X.base X.outer
 frf:∀ b∈X.fs,X.H₀ b=none
structure Inv (X:Cx)(pins:?zF)(σ:List (Option V))(H:Hp)(s:?AN):Prop where
 ok:X.Ok
 os:s.os=X.s₀.os
 bare:AllBare s.gens
 base:Un X.fs X.ex X.H₀ H X.s₀.heap s.heap
 loc:∃ m,s.heap.Ns X.env.locals m/\∀ (i:Nat) (x:Str) (v:V),X.N[i]?=some x->σ[i]?=some ?Cf->Vis X.env.scope x->∃ u,YX v u/\Lj X.env s.heap m x u
 cell:∀ x c,X.env.cells.lookup x=some c->∃ v,s.heap.IsCell c v
 free:H X.env.locals=none
 freeC:∀ x c,X.env.cells.lookup x=some c->H c=none
 pin:∀ p∈X.pn++pins,s.heap.get? p.1=some p.2/\H p.1=none/\p.1≠X.env.locals/\p.1∉X.fs/\∀ v,p.2.data≠.cell v
 hok:HOk X.prog X.w H s.heap
 len:σ.length=X.N.length
section
variable {X:Cx}{pins:?zF}{σ:List (Option V)}{H H':Hp}{s:?AN}{h':Heap}
theorem Cx.Ok.nofr (ok:X.Ok)(e:X.base.get? b=some o):b∉X.fs:=fun hb=>by
 have:=(ok.funs.mem hb).1;rw[e] at this;cases this
theorem Inv.bs (I:?A6):∀ b o,X.base.get? b=some o->s.heap.get? b=some o/\H b=none:=fun b o e=>
 ⟨I.base.keep b o (?HL).1 (?HL).2 (I.ok.nofr e) (I.ok.noex b o e),I.base.free b o (?HL).1 (?HL).2 (I.ok.noex b o e)⟩
theorem Inv.bk (I:?A6):∀ b o,X.base.get? b=some o->s.heap.get? b=some o:=fun b o e=>(I.bs b o e).1
theorem Inv.mod (I:?A6):Mod X.K X.mg X.base:=I.ok.mod
theorem Inv.kIn (I:?A6):X.K.In s.heap:=I.ok.mod.kin.keeps I.bk
theorem Inv.nolimit (I:?A6):s.heap.NoLimit:=I.ok.mod.nolimit.keeps I.bk
theorem Inv.lt (I:?A6):X.env.locals<s.heap.objs.size:=let ⟨_,hn,_⟩:=I.loc;hn.lt
theorem Inv.sz (I:?A6):X.s₀.heap.objs.size<=s.heap.objs.size:=yz I.ok.above (Qk I.lt)
theorem Inv.nofs (I:?A6)(h:s.heap.objs.size<=a):a∉X.fs:=fun hb=>by
 obtain⟨_,o,ho,_⟩:=I.ok.funs.mem hb;exact absurd (yW (yn ho) (yz I.sz h)) (jj _)
theorem Inv.cne (I:?A6):∀ x c,X.env.cells.lookup x=some c->c≠X.env.locals:=fun x c e z=>by
 obtain⟨v,o,ho,hd⟩:=I.cell x c e;obtain⟨m,⟨o',es,ep,ho',hd',_⟩,_⟩:=I.loc;rw[z,ho'] at ho;cases ho;rw[hd'] at hd;cases hd
theorem Inv.funs (I:?A6):s.heap.FunFrames X.base X.outer:=by
 have all:∀ (l:List Env),(∀ b∈frs l,b∈X.fs)->X.s₀.heap.FunFrames X.base l->s.heap.FunFrames X.base l:=by
  intro l
  induction l with
  |nil=>intro _ _;trivial
  |cons env r ih=>
   intro hs hl;obtain⟨hk,⟨L,o,hf,hn,ho,hd⟩,hr⟩:=hl;have hL:L∈X.fs:=hs L (by unfold frs;rw[List.filterMap_cons,hf];exact yo);obtain⟨sl,e⟩:=I.base.slot L o ho (I.ok.frf L hL) hL fun z=>I.ok.exfs L z hL;exact⟨hk,⟨L,_,hf,hn,e,hd⟩,ih (fun b hb=>hs b (by unfold frs;rw[List.filterMap_cons,hf];exact ye _ hb)) hr⟩
 exact all X.outer (fun _ hb=>hb) I.ok.funs
theorem Inv.stack (I:?A6):s.heap.FunFrames X.base X.stack:=by
 rcases I.ok.stk with e|⟨e,hf⟩
 .rw[e];exact I.funs
 .rw[e];obtain⟨m,hn,_⟩:=I.loc;refine .cons (by rw[I.ok.kind];decide) hf hn ?_ I.funs;exact Heap.get?_none_of_le (yz I.ok.bsz I.ok.above)
theorem Inv.stkSub (I:?A6):∀ b∈frs X.stack,b∈X.env.locals::X.fs:=fun b hb=>by
 rcases I.ok.stk with e|⟨e,hf⟩
 .rw[e] at hb;exact ye _ hb
 .rw[e] at hb;unfold frs at hb;rw[List.filterMap_cons,hf] at hb;exact hb
theorem Inv.stkFree (I:?A6):∀ b∈frs X.stack,H b=none:=fun b hb=>by
 rcases yB.mp (I.stkSub b hb) with e|hb
 .rw[e];exact I.free
 .obtain⟨_,o,ho,_⟩:=I.ok.funs.mem hb;exact I.base.free b o ho (I.ok.frf b hb) fun z=>I.ok.exfs b z hb
theorem Inv.step {g':Array GenState}{t':Nat}{d':Drawn}{ch:?B9}(I:?A6)
  (hch:∀ b∈ch,?kI/\b≠X.env.locals/\?kE/\∀ p∈X.pn++pins,p.1≠b)
  (keep:∀ b o,b≠X.env.locals->b∉X.fs->b∉ch->s.heap.get? b=some o->H b=none->h'.get? b=some o)
  (slot:∀ b o,b≠X.env.locals->b∈X.fs->b∉ch->s.heap.get? b=some o->H b=none->∃ sl,h'.get? b=some {o with slots:=sl}) (free:∀ b o,b∉ch->s.heap.get? b=some o->H b=none->H' b=none)
  (there:∀ b o,b∉ch->s.heap.get? b=some o->∃ o',h'.get? b=some o')
  (tups:∀ b xs,H b=some ?Bc->H' b=some ?Bc) (frzs:∀ b o u,H b=some ?D3->H' b=some ?D3) (tbls:∀ b ps,H b=some (.tbl ps)->∃ more,H' b=some (.tbl (ps++more)))
  (ns:∀ m,s.heap.Ns X.env.locals m->h'.Ns X.env.locals m) (hok:?Iu) (hg:AllBare g') :
  Inv X pins σ H' {s with heap:=h',gens:=g',drawn:=d',toks:=t'}:=by
 have neL:∀ b o,X.s₀.heap.get? b=some o->b≠X.env.locals:=fun b o e=>Yb ?Gg;have neC:∀ b o,X.s₀.heap.get? b=some o->b∉X.ex->b∉ch:=fun b o e hx hb=>by
  rcases (hch b hb).1 with z|z
  .exact hx z
  .exact absurd (yW (yn e) z) (jj _)
 have cellK:∀ x c,X.env.cells.lookup x=some c->∀ v,s.heap.IsCell c v->h'.IsCell c v:=fun x c e v ⟨o,ho,hd⟩=>by
  have nch:c∉ch:=fun z=>(hch c z).2.2.1 x c e rfl;by_cases hc:c∈X.fs
  .obtain⟨sl,q⟩:=slot c o (I.cne x c e) hc nch ho ?Jq;exact⟨_,q,hd⟩
  .exact⟨o,keep c o (I.cne x c e) hc nch ho ?Jq,hd⟩
 refine⟨I.ok,I.os,hg,⟨fun b o e n hb hx=>?_,fun b o e n hb hx=>?_,fun b o e n hx=>?_,fun b o e hx=>?_,fun b xs e=>tups b xs (I.base.tups b xs e),fun b o xs e=>frzs b o xs (I.base.frzs b o xs e),fun b ps e=>?_⟩,?_,fun x c e=>?_,?_,fun x c e=>?_,fun p hp=>?_,hok,I.len⟩
 .exact keep b o (neL b o e) hb ?HT ?Ib ?Ih
 .obtain⟨sl,e1⟩:=I.base.slot b o e n hb hx;obtain⟨sl',e2⟩:=slot b _ (neL b o e) hb ?HT e1 ?Ih;exact⟨sl',e2⟩
 .obtain⟨o',e1⟩:=I.base.there b o e hx;exact free b o' ?HT e1 ?Ih
 .obtain⟨o',e1⟩:=I.base.there b o e hx;exact there b o' ?HT e1
 .obtain⟨m1,e1⟩:=I.base.tbls b ps e;obtain⟨m2,e2⟩:=tbls b _ e1;exact⟨m1++m2,by rw[e2,Array.append_assoc]⟩
 .obtain⟨m,hn,hl⟩:=I.loc;refine⟨m,ns m hn,fun i x v e1 e2 e3=>?_⟩;obtain⟨u,r,l⟩:=hl i x v e1 e2 e3;refine⟨u,r,?_⟩;rcases l with l|⟨k,c,e,z⟩
  .exact .inl l
  .exact .inr ⟨k,c,e,cellK x c e _ z⟩
 .obtain⟨v,z⟩:=I.cell x c e;exact⟨v,cellK x c e v z⟩
 .obtain⟨m,⟨o,_,_,ho,_⟩,_⟩:=I.loc;exact free _ o (fun z=>(hch _ z).2.1 rfl) ho I.free
 .obtain⟨v,o,ho,hd⟩:=I.cell x c e;exact free c o (fun z=>(hch c z).2.2.1 x c e rfl) ho ?Jq
 .obtain⟨e,n,ne,nf,d⟩:=I.pin p hp;have nch:p.1∉ch:=fun z=>(hch p.1 z).2.2.2 p hp rfl;exact⟨keep p.1 p.2 ne nf nch e n,free p.1 p.2 nch e n,ne,nf,d⟩
theorem Inv.un {t':Nat}(I:?A6)(u:Un X.fs [] H H' s.heap h')(hok:?Iu):Inv X pins σ H' {s with heap:=h',toks:=t'}:=by
 obtain⟨m,⟨o,es,ep,ho,r⟩,_⟩:=id I.loc;obtain⟨sl,hL⟩:=u.any ho I.free (by simp);exact I.step (g':=s.gens) (d':=s.drawn) (ch:=[]) (fun _ z=>nomatch z) (fun b o _ hb _ e n=>u.keep b o e n hb (by simp)) (fun b o _ hb _ e n=>u.slot b o e n hb (by simp)) (fun b o _ e n=>u.free b o e n (by simp)) (fun b o _ e=>u.there b o e (by simp)) u.tups u.frzs u.tbls (fun m' hm=>by
  obtain⟨o',es',ep',ho',r'⟩:=hm;rw[ho] at ho';cases ho';exact⟨_,es',ep',hL,r'⟩) hok I.bare
theorem Inv.call {g':Array GenState}{t':Nat}{d':Drawn}{ch:?B9}(I:?A6)(u:Un (frs X.stack) ch H H' s.heap h')(hok:?Iu)(hg:AllBare g')
  (hch:∀ b∈ch,?kI/\b≠X.env.locals/\?kE/\∀ p∈X.pn++pins,p.1≠b) :
  Inv X pins σ H' {s with heap:=h',gens:=g',drawn:=d',toks:=t'}:=by
 obtain⟨m,⟨o,es,ep,ho,r⟩,_⟩:=id I.loc;obtain⟨sl,hL⟩:=u.any ho I.free fun z=>(hch _ z).2.1 rfl;exact I.step (ch:=ch) hch (fun b o hL hb hc e n=>u.keep b o e n (fun z=>(yB.mp (I.stkSub b z)).elim hL hb) hc) (fun b o _ _ hc e n=>u.any e n hc) (fun b o hc e n=>u.free b o e n hc) (fun b o hc e=>u.there b o e hc) u.tups u.frzs u.tbls (fun m' hm=>by
  obtain⟨o',es',ep',ho',r'⟩:=hm;rw[ho] at ho';cases ho';exact⟨_,es',ep',hL,r'⟩) hok hg
theorem Inv.turned {t':Nat}{it:Addr}(I:?A6)(k:∀ b o,b≠it->s.heap.get? b=some o->h'.get? b=some o)(hn:H it=none)(hL:it≠X.env.locals)
  (h1:it∈X.ex∨X.s₀.heap.objs.size<=it) (h2:∀ x c,X.env.cells.lookup x=some c->c≠it) (h3:∀ p∈X.pn++pins,p.1≠it):Inv X pins σ H {s with heap:=h',toks:=t'}:=by
 have nit:∀ b u,H b=some u->b≠it:=fun b u e z=>by rw[z,hn] at e;cases e
 refine I.step (g':=s.gens) (d':=s.drawn) (ch:=[it]) ?jO (fun b o _ _ hc e _=>k b o (fun z=>hc (by simp[z])) e) (fun b o _ _ hc e _=>⟨o.slots,k b o (fun z=>hc (by simp[z])) e⟩) (fun _ _ _ _ n=>n)
  (fun b o hc e=>⟨o,k b o (fun z=>hc (by simp[z])) e⟩) (fun _ _ e=>e) (fun _ _ _ e=>e) (fun b ps e=>⟨#[],by rw[e];simp⟩) (fun m hm=>?_) (fun b u e=>?_) I.bare
 .have e:b=it:=by simpa using hb
  subst e;exact⟨h1,hL,h2,h3⟩
 .obtain⟨o,es,ep,ho,r⟩:=hm;exact⟨o,es,ep,k _ o (Ne.symm hL) ho,r⟩
 .refine(I.hok b u e).stay (fun c v hc q=>k c v ?_ q) (fun _ q=>q) fun _ _ q=>q;rcases hc with z|z
  .rw[z];exact nit b u e
  .exact nit c _ z
theorem Inv.tok (I:?A6)(t:Nat):Inv X pins σ H {s with toks:=t}:=I.un (h':=s.heap) (t':=t) Un.refl I.hok
theorem Inv.kept(I:?A6)(k:∀ b u,s.heap.get? b=some u->h'.get? b=some u):Inv X pins σ H {s with heap:=h',toks:=t'}:=I.un (Un.kept k) (I.hok.kept k)
theorem Inv.laid(I:?A6)(k:∀ b u,s.heap.get? b=some u->h'.get? b=some u)(hp:s.heap.objs.size<=a)(new:Qt X.prog X.w ?E1 h' a o) :
  Inv X pins σ ?E1 {s with heap:=h',toks:=t'}:=I.un (Un.laid k hp (I.hok.fresh hp)) (I.hok.laid k hp new)
theorem Inv.write(I:?A6)(mu:Mut (H x))(he:e=x∨H e=some (.own x))(k:∀ b u,b≠e->s.heap.get? b=some u->h'.get? b=some u)(heo:∃ u,h'.get? e=some u)
  (new:Qt X.prog X.w (upd H x o) h' x o):Inv X pins σ (upd H x o) {s with heap:=h',toks:=t'}:=I.un (Un.write mu he k heo) (I.hok.write mu he k heo new)
theorem Inv.pins_of(I:?A6)(h:∀ p∈pins',s.heap.get? p.1=some p.2/\H p.1=none/\p.1≠X.env.locals/\p.1∉X.fs/\∀ v,p.2.data≠.cell v):Inv X pins' σ H s:=
 ⟨I.ok,I.os,?Dg,I.base,I.loc,I.cell,I.free,I.freeC,fun p hp=>(Yw.mp hp).elim (fun z=>I.pin p (Yu _ z)) (h p),I.hok,I.len⟩
theorem fw {N:?A1}(hN:N.Nodup){i j:Nat}{x:Str}(a:N[i]?=some x)(b:N[j]?=some x):i=j:=by
 obtain⟨h1,e1⟩:=yk.mp a;obtain⟨h2,e2⟩:=yk.mp b;exact(List.getElem_inj hN).mp (e1.trans e2.symm)
theorem aj {M:Model}{A:?BD}{E:?zA}{i:Nat}{x:Str}{v:V}{u:?AJ}{Q:Unit->Shared->Prop}(I:?A6)(hN:?CC)(hi:?zN)(hx:?DI)(r:?DA)
  (h:∀ s',Inv X pins ?Gw H s'->(∃ a,Heap.SameBut a s.heap s'.heap/\(a=X.env.locals∨X.env.cells.lookup x=some a))->Q () s') (hf:?yX:=by first|exact .inl rfl|exact .inr rfl|assumption):?L2:=by
 obtain⟨m,hn,hl⟩:=id I.loc;have hcls:(X.env.scope.kind==.class||(X.env.scope.kind==.module&&X.env.locals != X.env.globals))=false:=by rw[I.ok.kind];rfl
 have hiσ:i<σ.length:=by rw[I.len];exact(?GN).1
 have cne:=I.cne;have tracked:∀ {a:Addr} {h':Heap},(∃ o,s.heap.get? a=some o/\H a=none)->Heap.SameBut a s.heap h'->HOk X.prog X.w H h':=fun {a h'} ha hs b ob e=>by
  obtain⟨_,_,hfree⟩:=ha;refine(I.hok b ob e).stay (fun c w' hc q=>(hs.2 c ?_).trans q) (fun _ q=>q) fun _ _ q=>q;rintro rfl;rcases hc with rfl|hc
  .rw[hfree] at e;cases e
  .rw[hfree] at hc;cases hc
 rcases hx with hk|hk
 .refine wpAny_storeName_local hk hn (fun h' hn' hs=>?_) hcls;obtain⟨oL,_,_,hoL,_⟩:=id hn;refine h _ ⟨I.ok,I.os,?Dg,⟨fun b o e n hb hx=>?_,fun b o e n hb hx=>?_,I.base.free,fun b o e hx=>?_,I.base.tups,I.base.frzs,I.base.tbls⟩,⟨_,hn',fun j y v' e1 e2 e3=>?_⟩,fun y c e=>?_,I.free,I.freeC,fun p hp=>?_,tracked ⟨oL,hoL,I.free⟩ hs,by simpa using I.len⟩ ⟨_,hs,?A2⟩
  .exact(hs.2 b (Yb ?Gg)).trans ?Ib
  .obtain⟨sl,e1⟩:=I.base.slot b o e n hb hx;exact⟨sl,(hs.2 b (Yb ?Gg)).trans e1⟩
  .obtain⟨o',e1⟩:=I.base.there b o e hx;exact⟨o',(hs.2 b (Yb ?Gg)).trans e1⟩
  .by_cases hj:j=i
   .subst hj;rw[hi] at e1;cases e1;rw[List.getElem?_set_self hiσ] at e2;cases e2;exact⟨u,r,.inl ⟨hk,by simp⟩⟩
   .rw[qA (Ne.symm hj)] at e2;obtain⟨u',r',q⟩:=hl j y v' e1 e2 e3;refine⟨u',r',?_⟩;rcases q with ⟨k,e⟩|⟨k,c,e,z⟩
    .refine .inl ⟨k,?_⟩;have:y≠x:=fun e=>hj (fw hN e1 (e▸hi));simp[this,e]
    .exact .inr ⟨k,c,e,?M1⟩
  .obtain⟨w',z⟩:=I.cell y c e;exact⟨w',?M1⟩
  .obtain⟨e,n,ne,nf,d⟩:=I.pin p hp;exact⟨(hs.2 p.1 ne).trans e,n,ne,nf,d⟩
 .have hfn:X.fn x=true:=by
   rcases hf with z|z
   .exact z
   .rw[z] at hk;cases hk
  obtain⟨c,hc⟩:=I.ok.has x (.inl hk);obtain⟨w',z⟩:=I.cell x c hc;refine wpAny_storeName_cell I.ok.kind hk hc z (fun h' hc' hs=>?_);obtain⟨oc,hoc,hocd⟩:=id z;refine h {s with heap:=h'} ⟨I.ok,I.os,?Dg,⟨fun b o e n hb hx=>?_,fun b o e n hb hx=>?_,I.base.free,fun b o e hx=>?_,I.base.tups,I.base.frzs,I.base.tbls⟩,⟨m,hn.sameBut hs (Ne.symm (cne x c hc)),fun j y v' e1 e2 e3=>?_⟩,fun y c' e=>?_,I.free,I.freeC,fun p hp=>?_,tracked ⟨oc,hoc,I.freeC x c hc⟩ hs,by simpa using I.len⟩ ⟨c,hs,.inr hc⟩
  .exact(hs.2 b ?I2).trans ?Ib
  .obtain⟨sl,e1⟩:=I.base.slot b o e n hb hx;exact⟨sl,(hs.2 b ?I2).trans e1⟩
  .obtain⟨o',e1⟩:=I.base.there b o e hx;exact⟨o',(hs.2 b ?I2).trans e1⟩
  .by_cases hj:j=i
   .subst hj;rw[hi] at e1;cases e1;rw[List.getElem?_set_self hiσ] at e2;cases e2;exact⟨u,r,.inr ⟨.inl hk,c,hc,hc'⟩⟩
   .rw[qA (Ne.symm hj)] at e2;obtain⟨u',r',q⟩:=hl j y v' e1 e2 e3;refine⟨u',r',?_⟩;rcases q with q|⟨k,c',e,z'⟩
    .exact ?Ck
    .refine .inr ⟨k,c',e,z'.sameBut hs ?_⟩;rintro rfl;exact hj (fw hN e1 (I.ok.inj _ _ _ e hc▸hi))
  .by_cases hcc:c'=c
   .subst hcc;exact⟨_,hc'⟩
   .obtain⟨w2,z2⟩:=I.cell y c' e;exact⟨w2,z2.sameBut hs hcc⟩
  .obtain⟨e,n,ne,nf,d⟩:=I.pin p hp;refine⟨(hs.2 p.1 ?_).trans e,n,ne,nf,d⟩;intro q;rw[q,hoc] at e;have q':oc=p.2:=Option.some.inj e;exact d w' (by rw[←q'];exact hocd)
theorem eO(I:?A6)(hN:?CC)(hi:?zN)(hx:?DI)(r:?DA)
  (h:∀ s',Inv X pins ?Gw H s'->Q () s') (hf:?yX:=by first|exact .inl rfl|exact .inr rfl|assumption):?L2:=
 aj I hN hi hx r (fun s' I' _=>h s' I') hf
theorem Inv.call'(I:?A6)(ho:s'.os=s.os)(u:Un (frs X.stack) ch H H' s.heap s'.heap)(hok:HOk X.prog X.w H' s'.heap)(hg:AllBare s'.gens)
  (hch:∀ b∈ch,?kI/\b≠X.env.locals/\?kE/\∀ p∈X.pn++pins,p.1≠b):?Gu:=by
 obtain⟨h',g',d',t',o'⟩:=s';have e:o'=s.os:=ho;subst e;exact I.call (g':=g') (t':=t') (d':=d') u hok hg hch
end
abbrev XK:=Value->Option Addr->Hp->Prop
abbrev St:=List (Option V)
abbrev VK:=V->Hp->Prop
abbrev TE:=St->Hp->VK->Prop
abbrev TT:=St->Hp->(Bool->Hp->Prop)->Prop
abbrev TA:=St->Hp->(List V->Hp->Prop)->Prop
structure Ends where
 nx:St->Hp->Prop
 rt:VK
 bk:St->Hp->Prop:=fun _ _=>False
 ct:St->Hp->Prop:=fun _ _=>False
abbrev TS:=Ends->St->Hp->Prop
inductive EP (X:Cx)(pins:?zF)(σ:St)(Q:VK)(u:?AJ)(s':?AN):Prop
 |mk (v:V) (H':Hp) (i:?Gu) (r:?DA) (q:Q v H')
inductive TP (X:Cx)(pins:?zF)(σ:St)(Q:Bool->Hp->Prop)(b:Bool)(s':?AN):Prop
 |mk (H':Hp) (i:?Gu) (q:Q b H')
inductive AP (X:Cx)(pins:?zF)(σ:St)(Q:List V->Hp->Prop)(us:?AY)(s':?AN):Prop
 |mk (vs:?AL) (H':Hp) (i:?Gu) (r:qj vs us) (q:Q vs H')
def SP (X:Cx)(pins:?zF)(D:Ends)(f:Flow)(s':?AN):Prop:=
 match f with
 |.next=>∃ σ' H',Inv X pins σ' H' s'/\D.nx σ' H'
 |.brk=>∃ σ' H',Inv X pins σ' H' s'/\D.bk σ' H'
 |.cont=>∃ σ' H',Inv X pins σ' H' s'/\D.ct σ' H'
 |.ret u=>∃ v σ' H',Inv X pins σ' H' s'/\YX v u/\D.rt v H'
def PE (X:Cx)(e:Expr)(t:TE):Prop:=
 ∀ (pins:List (Addr×Obj)) (s:Shared) (σ:St) (H:Hp) (Q:VK),Inv X pins σ H s->t σ H Q->wpAny ?AF X.A ?C6 ?Bj X.xe s
def PT (X:Cx)(e:Expr)(t:TT):Prop:=
 ∀ (pins:List (Addr×Obj)) (s:Shared) (σ:St) (H:Hp) (Q:Bool->Hp->Prop),Inv X pins σ H s->t σ H Q->wpAny ?AF X.A (isTrue e X.env ?C6) ?Fn X.xe s
def PW (X:Cx)(e:Expr)(t:TT):Prop:=
 ∀ (whole:Sem Value) (pins:List (Addr×Obj)) (s:Shared) (σ:St) (H:Hp) (Q:Bool->Hp->Prop),Inv X pins σ H s->t σ H Q->wpAny ?AF X.A (isTrue e X.env whole) ?Fn X.xe s
theorem PW.pt(h:PW X e t):PT X e t:=h _
def PA (X:Cx)(es:?Ai)(t:TA):Prop:=
 ∀ (pos:Pos) (pins:List (Addr×Obj)) (s:Shared) (σ:St) (H:Hp) (Q:List V->Hp->Prop),Inv X pins σ H s->t σ H Q->wpAny ?AF X.A (spliced ?JY) (AP X pins σ Q) X.xe s
def PS (X:Cx)(st:Stmt)(t:TS):Prop:=
 ∀ (pins:List (Addr×Obj)) (s:Shared) (σ:St) (H:Hp) (D:Ends),Inv X pins σ H s->t D σ H->wpAny ?AF X.A (exec st X.env) (SP X pins D) X.xe s
def PSs (X:Cx)(st:?BM)(t:TS):Prop:=
 ∀ (pins:List (Addr×Obj)) (s:Shared) (σ:St) (H:Hp) (D:Ends),Inv X pins σ H s->t D σ H->wpAny ?AF X.A (execs st X.env) (SP X pins D) X.xe s
theorem thn(h:wpAny M A t Q E s)(hQ:∀ a s,Q a s->Q' a s):wpAny M A t Q' E s:=Y7 h hQ fun _ _ x=>x
section
def HD (i:Nat):TE:=fun σ H Q=>∃ v,σ[i]?=some ?Cf/\Q v H
def tC (v:V):TE:=fun _ H Q=>Q v H
theorem xY(hN:?zN)(hv:?Ed)(hd:?L:=by decide)(hcd:?wA:=by decide):PE X ?Co (HD i):=by
 intro pins s σ H Q I h;obtain⟨v,e,h⟩:=h;obtain⟨m,hn,hl⟩:=I.loc;obtain⟨u,r,l⟩:=hl i x v hN e hv;have fin:EP X pins σ Q u s:=?JM
 rcases l with ⟨hk,hm⟩|⟨hk,c,hc,hcell⟩
 .exact wpAny_Name (wpAny_loadName_local I.ok.kind hk hn hm fin) hd
 .rcases hk with hk|hk
  .exact wpAny_Name (wpAny_loadName_cell I.ok.kind hk hc hcell fin) hd
  .exact wpAny_Name (wpAny_loadName_free I.ok.kind hk hc hcell fin hcd) hd
theorem VO:PE X (.Constant (.int i) j pos) (tC (.int i)):=fun _ _ _ H _ I h=>wpAny_Constant_int ⟨.int i,H,?B3,⟨_,rfl⟩,h⟩
theorem Ih:PE X (.Constant (.bool b) j pos) (tC (.bl b)):=fun _ _ _ H _ I h=>Constant_bool ⟨.bl b,H,I,rfl,h⟩
theorem GE:PE X (.Constant .none j pos) (tC .non):=fun _ _ _ H _ I h=>Constant_none ⟨.non,H,I,rfl,h⟩
theorem Gi:PE X (.Constant (.str x) j pos) (tC (.str x)):=fun _ _ _ H _ I h=>Calls.Constant_str ⟨.str x,H,?B3,⟨_,rfl⟩,h⟩
def Gl (X:Cx)(x:Str):Prop:=X.env.kindOf x=some .globalImplicit
theorem bE(I:?A6)(hg:?Af)(hm:X.mg x=some u)(h:Q u s)
  (hd:?L:=by decide):?Kz:=
 Calls.Name_function_global I.ok.kind hg (Calls.loadGlobal_global (by rw[I.ok.glob];exact ?Gf) hm h) hd
theorem vM(I:?A6)(hg:?Af)(hm:?jN)(hv:bootBuiltins x=some u)(h:Q u s)
  (hn:?jA :=by decide) (hd:?L:=by decide):?Kz:=by
 obtain⟨mb,h1,h2⟩:=I.mod.blt;exact Calls.Name_function_global I.ok.kind hg (Calls.loadGlobal_builtin (by rw[I.ok.glob];exact ?Gf) hm (by rw[I.ok.blt];exact h1.keeps I.bk) ((h2 x hn).trans hv) h) hd
theorem CV(hg:?Af)(hm:X.mg x=some u)(r:?DA)(hd:?L:=by decide):PE X ?Co (tC v):=
 fun _ _ _ H _ I h=>bE I hg hm ?JM hd
theorem Da(hg:?Af)(hm:?jN)(hv:bootBuiltins x=some u)(r:?DA)(hn:?jA :=by decide)(hd:?L:=by decide):PE X ?Co (tC v):=
 fun _ _ _ H _ I h=>vM I hg hm hv ?JM hn hd
variable {ta tb:TE}
def tB (t:TE):TT:=fun σ H Q=>t σ H fun x H1=>∃ c,x=.bl c/\Q c H1
theorem FW(h:PE X e t)(he:∀ whole,isTrue e X.env whole=(do let v ←whole;standAt e.pos;holding [v] (truthy v)):=by intro _;rfl):PT X e (tB t):=by
 intro pins s σ H Q I hw;refine isTrue_plain (thn (h pins s σ H _ I hw) fun v s1 ⟨x,H1,I1,r1,q1⟩=>?_) (he _);obtain⟨d,rfl,q⟩:=q1;cases r1;exact YS ⟨H1,I1,q⟩
def Ly (t u:TT):TT:=fun σ H Q=>t σ H fun c H1=>if c=true then u σ H1 Q else Q false H1
def tOr (t u:TT):TT:=fun σ H Q=>t σ H fun c H1=>if c=true then Q true H1 else u σ H1 Q
def Lo (t:TT):TT:=fun σ H Q=>t σ H fun c H1=>Q (!c) H1
theorem DD (ha:?GF):PW X (.BoolOp .And [a] pos) tA:=by
 intro wh pins s σ H Q I h;refine isTrue_and (thn (ha pins s σ H Q I h) fun c s1 e=>?_);cases c with
 |true=>exact isTrue_and_nil e
 |false=>exact e
theorem FV (ha:?GF):PW X (.BoolOp .Or [a] pos) tA:=by
 intro wh pins s σ H Q I h;refine isTrue_or (thn (ha pins s σ H Q I h) fun c s1 e=>?_);cases c with
 |false=>exact isTrue_or_nil e
 |true=>exact e
theorem BC (ha:?GF)(hb:PW X ?kY tB'):PW X ?kT (Ly tA tB'):=by
 intro wh pins s σ H Q I h;refine isTrue_and (thn ?CM fun c s1 ⟨H1,I1,q1⟩=>?_);cases c with
 |true=>exact ?LV
 |false=>exact⟨H1,I1,q1⟩
theorem EY (ha:?GF)(hb:PW X (.BoolOp .Or (b::rest) pos) tB'):PW X (.BoolOp .Or (a::b::rest) pos) (tOr tA tB'):=by
 intro wh pins s σ H Q I h;refine isTrue_or (thn ?CM fun c s1 ⟨H1,I1,q1⟩=>?_);cases c with
 |true=>exact⟨H1,I1,q1⟩
 |false=>exact ?LV
theorem FU (ha:?GF):PT X ?Gl (Lo tA):=by
 intro pins s σ H Q I h;exact isTrue_not (thn (ha pins s σ H (fun c H1=>Q (!c) H1) I h) fun _ _ ⟨H1,I1,q⟩=>⟨H1,I1,q⟩)
def Ii (ta tb:TE):TE:=fun σ H Q=>ta σ H fun x H1=>∃ c,x=.bl c/\if c=true then tb σ H1 Q else Q ?EL H1
def Lg (ta tb:TE):TE:=fun σ H Q=>ta σ H fun x H1=>∃ c,x=.bl c/\if c=true then Q ?Cl H1 else tb σ H1 Q
def HX (ta:TE):TE:=fun σ H Q=>ta σ H fun x H1=>∃ c,x=.bl c/\Q (.bl (!c)) H1
theorem AI(h:PE X a t):PE X (.BoolOp op [a] pos) t:=fun pins s σ H Q I hw=>BoolOp_one (h pins s σ H Q I hw)
theorem sT (ha:?CA)(hb:PE X ?kY tb):PE X ?kT (Ii ta tb):=by
 intro pins s σ H Q I h;refine BoolOp_and (thn ?CM fun v s1 ⟨x,H1,I1,r1,q1⟩=>?_);obtain⟨c,rfl,q1⟩:=q1;cases r1;refine YS ?_;cases c with
 |true=>exact ?IL
 |false=>exact⟨?EL,H1,I1,rfl,q1⟩
theorem sM (ha:?CA)(hb:PE X (.BoolOp .Or (b::rest) pos) tb):PE X (.BoolOp .Or (a::b::rest) pos) (Lg ta tb):=by
 intro pins s σ H Q I h;refine BoolOp_or (thn ?CM fun v s1 ⟨x,H1,I1,r1,q1⟩=>?_);obtain⟨c,rfl,q1⟩:=q1;cases r1;refine YS ?_;cases c with
 |false=>exact ?IL
 |true=>exact⟨.bl true,H1,I1,rfl,q1⟩
theorem Fv (ha:?CA):PE X ?Gl (HX ta):=by
 intro pins s σ H Q I h;refine UnaryOp_ (thn ?CM fun v s1 ⟨x,H1,I1,r1,q1⟩=>?_);obtain⟨c,rfl,q1⟩:=q1;cases r1;exact not_of (YS ⟨.bl (!c),H1,I1,rfl,q1⟩)
def tIf (t:TT)(ta tb:TE):TE:=fun σ H Q=>t σ H fun c H1=>if c=true then ta σ H1 Q else tb σ H1 Q
theorem f6(hc:PT X c tA)(ha:?CA)(hb:?DQ):PE X (.IfExp c a b pos) (tIf tA ta tb):=by
 intro pins s σ H Q I h;refine wpAny_IfExp (thn (hc pins s σ H _ I h) fun d s1 ⟨H1,I1,q1⟩=>?_);cases d with
 |true=>exact ha pins s1 σ H1 Q I1 q1
 |false=>exact ?IL
end
def SqL (K:?A0)(H:Hp)(a:Addr)(xs:?AL):Prop:=
 Rd H a ?Aa ∨
  ∃ (o:Obj) (its:Array Value) (n:Nat),K.lookup a=some o/\o.cls=.type "list" /\ o.dict=none/\o.data=.seq its n/\its.size<=sizeLine/\qj xs its.toList
def SqT (K:?A0)(H:Hp)(a:Addr)(xs:?AL):Prop:=
 Rd H a ?Bc ∨
  ∃ (o:Obj) (its:Array Value) (n:Nat),K.lookup a=some o/\o.cls=.type "tuple" /\ o.data=.seq its n/\its.size<=sizeLine/\qj xs its.toList
def LM:Value->Option V
 |.none=>some .non
 |.bool b=>some (.bl b)
 |.int i _=>some ?Bs
 |.str x _=>some ?CL
 |.bytes b _=>some (.byt b)
 |.float b _=>some (.flt b)
 |.ref a=>some ?AI
 |.type n=>some (.ty n)
 |_=>none
theorem YX.abs(r:YX x u):LM u=some x:=by
 cases x with
 |non=>cases r;rfl
 |bl _=>cases r;rfl
 |int _=>obtain⟨t,rfl⟩:=r;rfl
 |str _=>obtain⟨t,rfl⟩:=r;rfl
 |byt _=>obtain⟨t,rfl⟩:=r;rfl
 |flt _=>obtain⟨t,rfl⟩:=r;rfl
 |ref _=>cases r;rfl
 |ty _=>cases r;rfl
theorem YX.inj(r:YX x u)(q:?D9):x=y:=Option.some.inj (r.abs.symm.trans q.abs)
theorem qj.inj:∀ {xs ys:List V} {us:List Value},qj xs us->qj ys us->xs=ys
 |_,_,_,.nil,.nil=>rfl
 |_,_,_,.cons r t,.cons r' t'=>by rw[r.inj r',qj.inj t t']
section
theorem SqL.of {K:?A0}(h:H a=some ?Aa):SqL K H a xs:=.inl (.inl h)
theorem Inv.list (I:?A6)(h:?HG):∃ its:List Value,qj xs its/\PlainL s.heap a its.toArray/\xs.length<=sizeLine:=by
 rcases h with h|⟨o,its,n,hk,hc,hd,hs,hz,r⟩
 .obtain⟨z,its,n,r,e⟩:=h.ok I.hok;exact⟨its,r,⟨_,n,e,rfl,rfl,rfl⟩,z⟩
 .refine⟨its.toList,r,⟨o,n,I.kIn a o hk,hc,hd,by simpa using hs⟩,?_⟩;have e:=r.length;simp only[Array.length_toList] at e;lia
theorem Inv.tuple (I:?A6)(h:?HF):∃ its:List Value,qj xs its/\IsTup s.heap a its.toArray/\xs.length<=sizeLine:=by
 rcases h with h|⟨o,its,n,hk,hc,hs,hz,r⟩
 .obtain⟨z,its,r,p⟩:=h.ok I.hok;exact⟨its,r,p,z⟩
 .refine⟨its.toList,r,⟨o,I.kIn a o hk,hc,n,by simpa using hs⟩,?_⟩;have e:=r.length;simp only[Array.length_toList] at e;lia
theorem Inv.list_inj (I:?A6)(h:?HG)(h':SqL X.K H a ys):xs=ys:=by
 obtain⟨its,r,⟨o,n,e,_,_,d⟩,_⟩:=I.list h;obtain⟨its',r',⟨o',n',e',_,_,d'⟩,_⟩:=I.list h';rw[e] at e';cases e';rw[d] at d';injection d' with d1 _;have:its=its':=by simpa using congrArg Array.toList d1
 subst this;exact r.inj r'
theorem Inv.tuple_inj (I:?A6)(h:?HF)(h':SqT X.K H a ys):xs=ys:=by
 obtain⟨its,r,⟨o,e,_,n,d⟩,_⟩:=I.tuple h;obtain⟨its',r',⟨o',e',_,n',d'⟩,_⟩:=I.tuple h';rw[e] at e';cases e';rw[d] at d';injection d' with d1 _;have:its=its':=by simpa using congrArg Array.toList d1
 subst this;exact r.inj r'
end
abbrev Cx.wish (X:Cx)(E:?zA):Cx:={X with xe:=E}
abbrev Cx.nox (X:Cx):Cx:=X.wish fun _ _=>False
theorem Cx.Ok.wish {X:Cx}(ok:X.Ok)(E:?zA):(X.wish E).Ok:=
 ?KE
theorem Cx.Ok.unwish {X:Cx}{E:?zA}(ok:(X.wish E).Ok):X.Ok:=
 ?KE
section
theorem Inv.wish (I:?A6)(E:?zA):?Lc:=⟨I.ok.wish E,I.os,?Dg,I.base,I.loc,I.cell,I.free,I.freeC,I.pin,I.hok,I.len⟩
theorem Inv.unwish (I:?Lc):?A6:=⟨I.ok.unwish,I.os,?Dg,I.base,I.loc,I.cell,I.free,I.freeC,I.pin,I.hok,I.len⟩
theorem SP.unwish {D:Ends}(h:SP (X.wish E) pins D f s'):SP X pins D f s':=by
 cases f with
 |next=>obtain⟨σ',H',I,q⟩:=h;exact ?IO
 |brk=>obtain⟨σ',H',I,q⟩:=h;exact ?IO
 |cont=>obtain⟨σ',H',I,q⟩:=h;exact ?IO
 |ret u=>obtain⟨v,σ',H',I,r,q⟩:=h;exact⟨v,σ',H',I.unwish,r,q⟩
theorem PSs.nox {st:?BM}{t:TS}(h:PSs X.nox st t):PSs X st t:=fun pins s σ H D I hw=>
 Y7 (h pins s σ H D (I.wish _) hw) (fun _ _ q=>q.unwish) fun _ _ z=>False.elim z
end
section
variable {X:Cx}{st:Stmt}{rest:?BM}{t u:TS}{e:Expr}{te:TE}{pos:Pos}
def HC:TS:=fun D σ H=>D.nx σ H
def LB (t u:TS):TS:=fun D σ H=>t {D with nx:=u D} σ H
theorem Et:PSs X [] HC:=fun _ _ σ H _ I h=>wpAny_execs_nil ⟨σ,H,I,h⟩
theorem qm (h1:PS X st t)(h2:PSs X rest u):PSs X (st::rest) (LB t u):=by
 intro pins s σ H D I h;refine wpAny_execs_cons (thn (h1 pins s σ H {D with nx:=u D} I h) fun f s1 q=>?_);cases f with
 |next=>
  obtain⟨σ',H',I',q⟩:=q;exact h2 pins s1 σ' H' D I' q
 |ret v=>exact q
 |brk=>exact q
 |cont=>exact q
theorem oi (h1:PS X st t):PSs X [st] t:=by
 intro pins s σ H D I h;refine wpAny_execs_cons (thn (h1 pins s σ H D I h) fun f s1 q=>?_);cases f with
 |next=>exact wpAny_execs_nil q
 |ret v=>exact q
 |brk=>exact q
 |cont=>exact q
theorem Inv.quiet(I:?A6):interactive X.env=false:=by simp[interactive,I.ok.kind]
def nB (te:TE):TS:=fun D σ H=>te σ H fun _ H1=>D.nx σ H1
theorem uJ (he:?E3)(hs:?uF:=by rfl):PS X (.Expr e pos) (nB te):=by
 intro pins s σ H D I h;exact wpAny_Expr_any (thn ?DG fun v s1 ⟨x,H1,I1,r1,q1⟩=>⟨σ,H1,I1,q1⟩) I.quiet hs
def LF (te:TE):TS:=fun D σ H=>te σ H D.rt
theorem cH (he:?E3):PS X (.Return ?D8 pos) (LF te):=by
 intro pins s σ H D I h;exact wpAny_Return_some (thn ?DG fun v s1 ⟨x,H1,I1,r1,q1⟩=>⟨x,σ,H1,I1,r1,q1⟩)
def Ln (c:TT)(t u:TS):TS:=fun D σ H=>c σ H fun b H1=>if b=true then t D σ H1 else u D σ H1
theorem sP(hc:PT X c tc)(ha:PSs X a t)(hb:PSs X b u):PS X (.If c a b pos) (Ln tc t u):=by
 intro pins s σ H D I h;refine wpAny_If (thn (hc pins s σ H _ I h) fun d s1 ⟨H1,I1,q1⟩=>?_);cases d with
 |true=>exact ha pins s1 σ H1 D I1 q1
 |false=>exact hb pins s1 σ H1 D I1 q1
def FP:TS:=fun _ _ _=>False
theorem KL:PSs X sts FP:=fun _ _ _ _ _ _ h=>h.elim
end
abbrev TG:=V->St->Hp->(St->Hp->Prop)->Prop
abbrev TGs:=List V->St->Hp->(St->Hp->Prop)->Prop
def PG (X:Cx)(target:Expr)(t:TG):Prop:=
 ∀ (pins:List (Addr×Obj)) (s:Shared) (σ:St) (H:Hp) (v:V) (u:Value) (Q:St->Hp->Prop),Inv X pins σ H s->YX v u->t v σ H Q->
  wpAny ?AF X.A (assign target X.env u) ?kC X.xe s
def PGs (X:Cx)(ts:?Ai)(t:TGs):Prop:=
 ∀ (pins:List (Addr×Obj)) (s:Shared) (σ:St) (H:Hp) (vs:List V) (us:List Value) (Q:St->Hp->Prop),Inv X pins σ H s->qj vs us->t vs σ H Q->
  wpAny ?AF X.A (assignInOrder ((assignEach ts X.env).map ?zC) us) ?kC X.xe s
abbrev CM:=V->V->V->Hp->(Hp->Prop)->Prop
def G1 (X:Cx)(t:CM):Prop:=
 ∀ (pins:List (Addr×Obj)) (s:Shared) (σ:St) (H:Hp) (o i v:V) (ov iv u:Value) (Q:Hp->Prop),Inv X pins σ H s->YX o ov->YX i iv->YX v u->t o i v H Q->
  wpAny ?AF X.A (setItem ov iv u) (fun _ s'=>∃ H',Inv X pins σ H' s'/\Q H') X.xe s
section
def X7 (i:Nat):TG:=fun v σ H Q=>Q ?Gw H
theorem C1(hN:?CC)(hi:?zN)(hx:?DI)(hf:?yX:=by first|exact .inl rfl|exact .inr rfl|assumption):PG X ?Co (X7 i):=by
 intro pins s σ H v u Q I r h;exact wpAny_assign_Name (eO I hN hi hx r (fun s' I'=>⟨_,H,I',h⟩) hf)
def LE:TGs:=fun vs σ H Q=>vs=[]/\Q σ H
def EV (t:TG)(u:TGs):TGs:=fun vs σ H Q=>∃ v r,vs=v::r/\t v σ H fun σ' H'=>u r σ' H' Q
theorem D2:PGs X [] LE:=by
 intro pins s σ H vs us Q I r h;obtain⟨e,h⟩:=h;subst e;cases r;exact assignInOrder_nil ⟨σ,H,I,h⟩
theorem tT(h1:PG X e t)(h2:PGs X es u)
  (hs:(assignEach (e::es) X.env).map ?zC=assign e X.env::(?Ij).map ?zC:=by rfl):PGs X (e::es) (EV t u):=by
 intro pins s σ H vs us Q I r h;obtain⟨v,vr,e1,h⟩:=h;subst e1;cases r with
 |cons r rr=>
  rw[hs];refine assignInOrder_cons (thn (h1 pins s σ H _ _ _ I r h) fun _ s1 ⟨σ1,H1,I1,q1⟩=>?_);exact h2 pins s1 σ1 H1 _ _ Q I1 rr q1
def Lp (K:?A0)(n:Nat)(t:TGs):TG:=fun v σ H Q=>∃ a xs,v=.ref a/\SqT K H a xs/\xs.length=n/\t xs σ H Q
theorem G5(hc:?zB)(h:PGs X es t)
  (hn:(?Ij).length=n:=by rfl) (hst:(?Ij).findIdx? ?C=none:=by rfl):PG X (.Tuple es k pos) (Lp X.K n t):=by
 intro pins s σ H v u Q I r hw;obtain⟨a,xs,e1,hq,hl,hw⟩:=hw;subst e1;cases r;obtain⟨its,rv,ht,hz⟩:=I.tuple hq;refine assign_Tuple_tuple ?CB ht (by simp[hn,←hl,rv.length]) hst fun h' hx=>?_;have I1:Inv X pins σ H {s with heap:=h'}:=I.kept (t':=?Ag) fun b o e=>hx b o (Yb (yn e)) e;exact h pins _ σ H xs _ Q I1 (by simpa using rv) hw
def Lw (to ti:TE)(t:CM):TG:=fun v σ H Q=>to σ H fun o H1=>ti σ H1 fun i H2=>t o i v H2 fun H3=>Q σ H3
theorem Cp(ho:PE X o to)(hi:PE X i ti)(hs:G1 X t)
  (ha:∀ v,assign ?Ff X.env v=(do
   let ov ←holding [v] (eval o X.env)
   let iv ←holding [v,ov] (eval i X.env)
   standAt pos
   holding [v,ov,iv] (setItem ov iv v)
   release [v,ov,iv] []):=by intro _;rfl):PG X ?Ff (Lw to ti t):=by
 intro pins s σ H v u Q I r h;rw[ha];refine ya (YG (thn ?Gh fun ov s1 ⟨x,H1,I1,r1,q1⟩=>?_));refine ya (YG (thn ?Lq fun iv s2 ⟨y,H2,I2,r2,q2⟩=>?_));refine ya (wpAny_standAt (ya (YG (thn (hs pins s2 σ H2 x y v ov iv u _ I2 r1 r2 r q2) fun _ s3 ⟨H3,I3,q3⟩=>?_))));exact wpAny_release ⟨σ,H3,I3,q3⟩
def FS (te:TE)(g:TG):TS:=fun D σ H=>te σ H fun x H1=>g x σ H1 D.nx
theorem gO(he:?E3)(hg:PG X tg g)(hs:swapsWithSole [tg] e pos.line X.env=pure false:=by rfl)(hw:swappedStores [tg] e X.env=pure none:=by rfl)
  (h1:(assignEach [tg] X.env).map ?zC=[assign tg X.env]:=by rfl):PS X (.Assign [tg] e pos) (FS te g):=by
 intro pins s σ H D I h;refine wpAny_Assign_stores (thn ?DG fun v s1 ⟨x,H1,I1,r1,q1⟩=>?_) hs hw;rw[h1];exact thn (hg pins s1 σ H1 x v _ I1 r1 q1) fun _ s2 q=>q
theorem lg(hN:?CC)(hi:?zN)(hx:?DI)(he:?E3)(hs:?kB:=by rfl)(hf:?yX:=by first|exact .inl rfl|exact .inr rfl|assumption) :
  PS X (.Assign [.Name x pos'] e pos) (FS te (X7 i)):=by
 intro pins s σ H D I h;refine wpAny_Assign_Name (thn ?DG fun v s1 ⟨y,H1,I1,r1,q1⟩=>?_) hs;exact eO I1 hN hi hx r1 (fun s2 I2=>⟨_,H1,I2,q1⟩) hf
end
section
def Gw (c:TT)(tb:TS):TS:=fun D σ H=>∃ W:Nat->St->Hp->Prop,(∃ m,W m σ H)/\∀ m σ H,W m σ H->
 c σ H fun b H1=>if b=true then ∃ N:St->Hp->Prop,(∀ σ' H',N σ' H'->∃ m',m'<m/\W m' σ' H')/\tb {D with nx:=N,ct:=N,bk:=D.nx} σ H1 else D.nx σ H1
theorem fF {tb:TS}(hp:?ET)(hc:PT X c tc)(hb:PSs X body tb):PS X (.While c body [] pos) (Gw tc tb):=by
 intro pins s σ H D I h;obtain⟨W,⟨m0,w0⟩,turn⟩:=h;refine wpAny_While (codeAny_whileLoop (fun n s'=>∃ σ' H',Inv X pins σ' H' s'/\W n σ' H') ?_ m0 ⟨σ,H,I,w0⟩);rintro n s1 ⟨σ1,H1,I1,w1⟩;refine wpAny_passesOwn hp (thn (hc pins s1 σ1 H1 _ I1 (turn n σ1 H1 w1)) fun b s2 ⟨H2,I2,q2⟩=>?_);cases b with
 |true=>
  obtain⟨N,hN,q2⟩:=q2;rw[yc rfl];refine wpAny_passesOwn hp (thn (hb pins s2 σ1 H2 _ I2 q2) fun f s3 q3=>?_);cases f with
  |next=>
   obtain⟨σ3,H3,I3,n3⟩:=q3;obtain⟨m',hm,w3⟩:=hN σ3 H3 n3;exact ?Lf
  |cont=>
   obtain⟨σ3,H3,I3,n3⟩:=q3;obtain⟨m',hm,w3⟩:=hN σ3 H3 n3;exact ?Lf
  |brk=>exact q3
  |ret v=>exact q3
 |false=>
  rw[yd yN];exact wpAny_execs_nil ⟨σ1,H2,I2,q2⟩
end
structure It where
 go:Nat->Hp->Prop
 yld:Nat->Hp->V->Hp->Prop
 stop:Nat->Hp->Prop
def UM (X:Cx)(pins:?zF)(H:Hp)(b:Addr):Prop:=
 H b=none/\b≠X.env.locals/\b∉X.fs/\?kI/\?kE/\∀ p∈X.pn++pins,p.1≠b
theorem Inv.fpOk(I:?A6)(hb:s.heap.objs.size<=b)(hn:H' b=none):UM X pins H' b:=by
 refine⟨hn,qW (yW I.lt hb),I.nofs hb,.inr (yz I.sz hb),fun x c e z=>?_,fun p hp z=>?_⟩
 .obtain⟨v,q⟩:=I.cell x c e;exact absurd (yW q.lt (by rw[z];exact hb)) (jj _)
 .exact absurd (yW (yn (I.pin p hp).1) (by rw[z];exact hb)) (jj _)
structure Turn (P:?AA)(w:?A9)(K:?A0)(tg:Expr)(J:It)(fp:?B9)(it:Addr)(tn:Nat->Heap->Prop):Prop where
 mem:it∈fp
 obj:∀ i h,tn i h->∀ b∈fp,∃ o,h.get? b=some o/\∀ v,o.data≠.cell v
 keep:∀ i h h',tn i h->(∀ b∈fp,∀ o,h.get? b=some o->h'.get? b=some o)->tn i h'
 item:∀ (X:Cx),X.prog=P->X.w=w->X.K=K->X.calm=true->∀ (i:Nat) (pins:List (Addr×Obj)) (s:Shared) (σ:St) (H:Hp) (E:Value->Shared->Prop),Inv X pins σ H s->(∀ b∈fp,?Eu)->tn i s.heap->J.go i H->
  wpAny ?BV X.A (pyNext ?CE) (fun r s1=>∃ u,r=some u/\
   wpAny ?BV X.A ?Ln (fun _ s2=>∃ x H',Inv X pins σ H' s2/\YX x u/\J.yld i H x H'/\tn (i+1) s2.heap/\∀ b∈fp,H' b=none) E s1) E s
 done:∀ (X:Cx),X.prog=P->X.w=w->X.K=K->X.calm=true->∀ (i:Nat) (pins:List (Addr×Obj)) (s:Shared) (σ:St) (H:Hp) (E:Value->Shared->Prop),Inv X pins σ H s->(∀ b∈fp,?Eu)->tn i s.heap->J.stop i H->
  wpAny ?BV X.A (pyNext ?CE) (fun r s1=>r=none/\Inv X pins σ H s1) E s
 self:∀ (A:Around) (i:Nat) (s:Shared) (Q:Value->Shared->Prop) (E:Value->Shared->Prop),tn i s.heap->Q ?CE s->wpAny ?BV A (pyIter ?CE) Q E s
abbrev TI:=St->Hp->(It->Hp->Prop)->Prop
inductive PIE (X:Cx)(pins:?zF)(σ:St)(tg:Expr)(R:It->Hp->Prop)(itv:?AJ)(s2:?AN):Prop
 |mk (it:Addr) (fp:?B9) (tn:Nat->Heap->Prop) (J:It) (H':Hp) (e:itv=.ref it) (i:Inv X pins σ H' s2) (t:?LW) (t0:tn 0 s2.heap) (f:∀ b∈fp,UM X pins H' b) (r:R J H')
def PI (X:Cx)(tg iter:Expr)(wi:TI):Prop:=
 ∀ (pins:List (Addr×Obj)) (s:Shared) (σ:St) (H:Hp) (R:It->Hp->Prop),Inv X pins σ H s->wi σ H R->
  wpAny ?AF X.A (eval iter X.env) (fun v s1=>?KY) X.xe s
theorem lU(ho:s.heap.get? it=some o)(hc:o.cls=.type n)(hd:o.data=.fields vs)
    (hn:["enumerate", "zip", "dict_itemiterator", "dict_reverseitemiterator", "odict_iterator", "itertools.zip_longest", "itertools.pairwise"].contains n=false) (hQ:Q () s):wpAny M A ?Ln Q E s:=by
  unfold letOwnedTupleGo;cases tg <;> first
    |exact ym hQ
    | (cases u <;> first
        |exact ym hQ
        | (refine ya (wpAny_load ho ?_)
           rw[hc,hd];show wpAny M A (if (["enumerate", "zip", "dict_itemiterator", "dict_reverseitemiterator", "odict_iterator", "itertools.zip_longest", "itertools.pairwise"].contains n&&vs[0]?==some (rawInt _))=true then _ else _) Q E s;rw[yd (by intro h;rw[hn,Bool.false_and] at h;cases h)];exact ym hQ))
def Itl (K:?A0)(a:Addr):It:=
 ⟨fun i H=>∃ xs x,SqL K H a xs/\xs[i]?=some x,fun i H x H'=>H'=H/\∀ xs,SqL K H a xs->xs[i]?=some x,fun i H=>∃ xs,SqL K H a xs/\xs.length<=i⟩
def Itt (K:?A0)(a:Addr):It:=
 ⟨fun i H=>∃ xs x,SqT K H a xs/\xs[i]?=some x,fun i H x H'=>H'=H/\∀ xs,SqT K H a xs->xs[i]?=some x,fun i H=>∃ xs,SqT K H a xs/\xs.length<=i⟩
def Itr (lo:Int)(n:Nat):It:=⟨fun i _=>i<n,fun i H x H'=>H'=H/\x=.int (lo+i),fun i _=>n<=i⟩
theorem pR {P:?AA}{w:?A9}{K:?A0}{tg:Expr}(a it:Addr):Turn P w K tg (Itl K a) [it] it (fun i h=>h.IsListIter it a i) where
 mem:=by simp
 obj:=fun i h st b hb=>by
  have e:b=it:=by simpa using hb
  subst e;obtain⟨o,e,c,d⟩:=st;exact⟨o,e,fun v z=>by rw[d] at z;cases z⟩
 keep:=fun i h h' st k=>st.at fun o e=>k it (by simp) o e
 item:=by
  intro X hP hw hK hc i pins s σ H E I hf st hg;subst hP hw hK;obtain⟨xs,x,hq,hx⟩:=hg;obtain⟨its,rv,p,hz⟩:=I.list hq;obtain⟨u,hu,ru⟩:=rv.get hx;obtain⟨f0,f1,f2,f3,f4,f5⟩:=hf it (by simp);refine wpAny_pyNext_list_item st p.isList (x:=u) (by simpa using hu) fun h' st' sb=>?_;have I1:Inv X pins σ H {s with heap:=h'}:=I.turned (t':=?Ag) ?kP f0 f1 f3 f4 f5;obtain⟨o,e,c,d⟩:=id st';exact⟨u,rfl,lU (s:={s with heap:=h'}) e c d ?B ⟨x,H,I1,ru,⟨rfl,fun ys hy=>by rw[I.list_inj hy hq];exact hx⟩,st',fun b hb=>?qP⟩⟩
 done:=by
  intro X hP hw hK hc i pins s σ H E I hf st hg;subst hP hw hK;obtain⟨xs,hq,hx⟩:=hg;obtain⟨its,rv,p,hz⟩:=I.list hq;obtain⟨f0,f1,f2,f3,f4,f5⟩:=hf it (by simp);have hl:=rv.length;exact wpAny_pyNext_list_end ?CB st p.isList ?yR fun h' eb=>?wT
 self:=fun _ _ _ _ _ st h=>wpAny_pyIter_listiter st h
theorem gP {P:?AA}{w:?A9}{K:?A0}{tg:Expr}(a it:Addr):Turn P w K tg (Itt K a) [it] it (fun i h=>h.IsTupleIter it a i) where
 mem:=by simp
 obj:=fun i h st b hb=>by
  have e:b=it:=by simpa using hb
  subst e;obtain⟨o,e,c,d⟩:=st;exact⟨o,e,fun v z=>by rw[d] at z;cases z⟩
 keep:=fun i h h' st k=>st.at fun o e=>k it (by simp) o e
 item:=by
  intro X hP hw hK hc i pins s σ H E I hf st hg;subst hP hw hK;obtain⟨xs,x,hq,hx⟩:=hg;obtain⟨its,rv,p,hz⟩:=I.tuple hq;obtain⟨u,hu,ru⟩:=rv.get hx;obtain⟨f0,f1,f2,f3,f4,f5⟩:=hf it (by simp);refine wpAny_pyNext_tuple_item st (show s.heap.IsTuple a its.toArray from p) (x:=u) (by simpa using hu) fun h' st' sb=>?_;have I1:Inv X pins σ H {s with heap:=h'}:=I.turned (t':=?Ag) ?kP f0 f1 f3 f4 f5;obtain⟨o,e,c,d⟩:=id st';exact⟨u,rfl,lU (s:={s with heap:=h'}) e c d ?B ⟨x,H,I1,ru,⟨rfl,fun ys hy=>by rw[I.tuple_inj hy hq];exact hx⟩,st',fun b hb=>?qP⟩⟩
 done:=by
  intro X hP hw hK hc i pins s σ H E I hf st hg;subst hP hw hK;obtain⟨xs,hq,hx⟩:=hg;obtain⟨its,rv,p,hz⟩:=I.tuple hq;obtain⟨f0,f1,f2,f3,f4,f5⟩:=hf it (by simp);have hl:=rv.length;exact wpAny_pyNext_tuple_end ?CB st (show s.heap.IsTuple a its.toArray from p) ?yR fun h' eb=>?wT
 self:=fun _ _ _ _ _ st h=>wpAny_pyIter_tupleiter st h
theorem h9 {P:?AA}{w:?A9}{K:?A0}{tg:Expr}(it:Addr)(lo:Int)(n:Nat):Turn P w K tg (Itr lo n) [it] it (fun i h=>IsRangeIter h it (lo+(i:Nat)*1) ((n:Int) - (i:Nat)) 1) where
 mem:=by simp
 obj:=fun i h st b hb=>by
  have e:b=it:=by simpa using hb
  subst e;exact⟨_,st,fun v z=>by
   have z':Data.fields _=Data.cell v:=z;cases z'⟩
 keep:=fun i h h' st k=>k it (by simp) _ st
 item:=by
  intro X hP hw hK hc i pins s σ H E I hf st hg;subst hP hw hK;obtain⟨f0,f1,f2,f3,f4,f5⟩:=hf it (by simp);have W:=Walks.range (prog:=X.prog) (w:=X.w) ?CB it lo 1 n;refine W.item i s _ _ hg st fun v h' tk hv st' kk=>?_;obtain⟨t,rfl⟩:=hv;have I1:Inv X pins σ H {s with heap:=h',toks:=tk}:=I.turned (fun b o hb e=>kk b o (by simpa using hb) e) f0 f1 f3 f4 f5;refine⟨_,rfl,lU (s:={s with heap:=h',toks:=tk}) (n:="range_iterator") st' rfl rfl ?B ⟨.int (lo+i),H,I1,⟨t,?_⟩,?CV,st',fun b hb=>?qP⟩⟩;rw[Int.mul_one]
 done:=by
  intro X hP hw hK hc i pins s σ H E I hf st hg;subst hP hw hK;obtain⟨f0,f1,f2,f3,f4,f5⟩:=hf it (by simp);exact wpAny_pyNext_range_end ?CB st (by have:n<=i:=hg;lia) fun h' eb=>?wT
 self:=fun _ _ _ _ _ st h=>wpAny_pyIter_rangeiter st h
section
def Iw (K:?A0)(tl:TE):TI:=fun σ H R=>tl σ H fun x H1=>∃ a,x=.ref a/\(∃ xs,SqL K H1 a xs)/\R (Itl K a) H1
def Lf (K:?A0)(tl:TE):TI:=fun σ H R=>tl σ H fun x H1=>∃ a,x=.ref a/\(∃ xs,SqT K H1 a xs)/\R (Itt K a) H1
theorem l7 {tl:TE}(hl:PE X l tl):PI X tg l (Iw X.K tl):=by
 intro pins s σ H R I h;refine thn ?Gi fun v s1 ⟨x,H1,I1,r1,q1⟩=>?_;obtain⟨a,e,⟨xs,hq⟩,q⟩:=q1;subst e;cases r1;obtain⟨its,rv,p,hz⟩:=I1.list hq;refine wpAny_pyIter_list p.isList ?_;refine⟨?Gx,[s1.heap.objs.size],_,_,H1,rfl,I1.kept (t':=?EH) fun b o e=>?At,pR a _,?ER,fun b hb=>?_,q⟩;have e:b=s1.heap.objs.size:=by simpa using hb
 subst e;exact ?FS
theorem G4 {tl:TE}(hl:PE X l tl):PI X tg l (Lf X.K tl):=by
 intro pins s σ H R I h;refine thn ?Gi fun v s1 ⟨x,H1,I1,r1,q1⟩=>?_;obtain⟨a,e,⟨xs,hq⟩,q⟩:=q1;subst e;cases r1;obtain⟨its,rv,p,hz⟩:=I1.tuple hq;refine wpAny_pyIter_tuple (show s1.heap.IsTuple a its.toArray from p) ?_;refine⟨?Gx,[s1.heap.objs.size],_,_,H1,rfl,I1.kept (t':=?EH) fun b o e=>?At,gP a _,?ER,fun b hb=>?_,q⟩;have e:b=s1.heap.objs.size:=by simpa using hb
 subst e;exact ?FS
theorem f7 {pins:?zF}{σ:St}{H:Hp}{s:?AN}{R:It->Hp->Prop}{E:?zA}{lo hi:Int}{t u v:Tok}{tk:Nat}(I:?A6)(h1:-(2 ^ 62)<=lo)(h2:lo<2 ^ 62)(h3:-(2 ^ 62)<=hi)(h4:hi<2 ^ 62)
  (q:R (Itr lo (hi - lo).toNat) H):wpAny ?AF X.A (pyIter ?Eo) (PIE X pins σ tg R) E {s with heap:=?vS,toks:=tk}:=by
 refine wpAny_pyIter_range (IsRange.new ..) (small_one h1 h2 h3 h4) ?_;have I1:Inv X pins σ H {s with heap:=?vS,toks:=tk}:=I.kept fun b o e=>yh _ e;refine⟨(?vS).objs.size,[(?vS).objs.size],_,_,H,rfl,
  I1.kept (t':=tk) fun b o e=>?At,h9 _ lo (hi - lo).toNat,?_,fun b hb=>?_,q⟩
 .have e1:lo+((0:Nat):Int)*1=lo:=by simp
  have e2:(((hi - lo).toNat:Nat):Int) - ((0:Nat):Int)=Builtin.Range.rangeSize lo hi 1:=by rw[rangeSize_one];split <;> lia
  show IsRangeIter _ _ (lo+((0:Nat):Int)*1) ((((hi - lo).toNat:Nat):Int) - ((0:Nat):Int)) 1;rw[e1,e2];exact ?Be
 .have e:b=(s.heap.push {cls:=.type "range", data:=.fields #[.int lo t,.int hi u,.int 1 v]}).objs.size:=by simpa using hb
  subst e;exact ?FS
def HU (ta:TA):TI:=fun σ H R=>ta σ H fun vs H1=>∃ j:Int,vs=[.int j]/\-(2 ^ 62)<=j/\j<2 ^ 62/\R (Itr 0 j.toNat) H1
def Ig (ta:TA):TI:=fun σ H R=>ta σ H fun vs H1=>∃ i j:Int,vs=[.int i,.int j]/\(-(2 ^ 62)<=i/\i<2 ^ 62/\-(2 ^ 62)<=j/\j<2 ^ 62)/\R (Itr i (?I).toNat) H1
theorem aS {ta:TA}(hg:?jI)(hm:?qY)(ha:PA X [a] ta)(hs:?jV:=by rfl):PI X tg ?kN (HU ta):=by
 intro pins s σ H R I h;refine Call_ (vM I hg hm boot_range (PyProof.Rows.callWith_type1 (thn ?Dl fun us s1 ⟨vs,H1,I1,r1,q1⟩=>?_) hs rfl));obtain⟨j,e,q1,q2,q⟩:=q1;subst e;cases r1 with
 |cons r rr=>
  cases rr;obtain⟨t,rfl⟩:=r;exact call_range_1 (f7 I1 ?A ?A q1 q2 (by simpa using q))
theorem rB(hg:?jI)(hm:?qY)(ha:PA X [a,b] ta)(hs:?yY:=by rfl)(hs2:?qA:=by rfl) :
  PI X tg (.Call (.Name "range" p) [a,b] [] pos) (Ig ta):=by
 intro pins s σ H R I h;refine Call_ (vM I hg hm boot_range ?uI);obtain⟨i,j,e,⟨q1,q2,q3,q4⟩,q⟩:=q1;subst e;cases r1 with
 |cons r rr=>
  cases rr with
  |cons r' rr=>
   cases rr;obtain⟨t,rfl⟩:=r;obtain⟨t',rfl⟩:=r';exact call_range_2 (f7 I1 q1 q2 q3 q4 q)
def Ll (wi:TI)(g:TG)(tb:TS):TS:=fun D σ H=>wi σ H fun J H1=>∃ W:Nat->Nat->St->Hp->Prop,(∃ m,W 0 m σ H1)/\∀ i m σ H,W i m σ H->
 (J.stop i H/\D.nx σ H)∨(J.go i H/\∃ N:St->Hp->Prop,(∀ σ' H',N σ' H'->∃ m',m'<m/\W (i+1) m' σ' H')/\∀ x H',J.yld i H x H'->g x σ H' fun σ2 H2=>tb {D with nx:=N,ct:=N,bk:=D.nx} σ2 H2)
def WU (fp:?B9)(h:Heap):?zF:=fp.filterMap fun b=>(h.get? b).map fun o=>(b,o)
theorem VJ(hb:b∈fp)(e:h.get? b=some o):(b,o)∈WU fp h:=List.mem_filterMap.mpr ⟨b,hb,by rw[e];rfl⟩
theorem o9(hp:p∈WU fp h):p.1∈fp/\h.get? p.1=some p.2:=by
 obtain⟨b,hb,e⟩:=List.mem_filterMap.mp hp;cases q:h.get? b with
 |none=>rw[q] at e;cases e
 |some o=>
  rw[q] at e;have e':(b,o)=p:=Option.some.inj e;subst e';exact⟨hb,q⟩
theorem Inv.pinned(I:?A6)(hf:∀ b∈fp,?Eu)(ho:∀ b∈fp,∃ o,s.heap.get? b=some o/\∀ v,o.data≠.cell v):Inv X (pins++WU fp s.heap) σ H s:=
 I.pins_of fun p hp=>(Yw.mp hp).elim (fun z=>I.pin p (y6 _ z)) fun z=>by
  obtain⟨hb,e⟩:=o9 z;obtain⟨f0,f1,f2,_⟩:=hf p.1 hb;obtain⟨o,e',d⟩:=ho p.1 hb;rw[e] at e';cases e';exact⟨e,f0,f1,f2,d⟩
theorem Inv.unpinned(I:Inv X (pins++pl) σ H s):?A6:=I.pins_of fun p hp=>I.pin p (y6 _ (Yu _ hp))
theorem Cn {tb:TS}(hp:?ET)(hc:?zB)(hi:?JQ)(hg:PG X tg g)(hb:PSs X body tb)
  (hs:∀ x,foldedSetIterable iter X.env x=pure x:=by intro _;rfl):PS X (.For tg iter body [] pos) (Ll wi g tb):=by
 intro pins s σ H D I h;refine wpAny_For (thn ?Ii fun v s1 h1=>thn h1 fun itv s2 h2=>?_) hs;obtain⟨it,fp,tn,J,H2,e,I2,T,st2,f2,W,⟨m0,w0⟩,turn⟩:=h2;subst e
 -- what stays true of the iterator's objects through the loop
 have stat:∀ {H':Hp},?wI->∀ b∈fp,UM X pins H' b:=fun hn b hb=>⟨hn b hb,(f2 b hb).2⟩
 refine codeAny_forLoop_any (fun n s'=>∃ i σ' H',Inv X pins σ' H' s'/\tn i s'.heap/\?wI/\W i n σ' H') ?_ m0 ⟨0,σ,H2,I2,st2,fun b hb=>(f2 b hb).1,w0⟩;rintro n s3 ⟨i,σ3,H3,I3,st3,fr3,w3⟩;rcases turn i n σ3 H3 w3 with ⟨stop,qn⟩|⟨go,N,hN,step⟩
 .refine wpAny_passesOwn hp (thn (T.done X rfl rfl rfl hc i pins s3 σ3 H3 X.xe I3 (stat fr3) st3 stop) fun r s4 ⟨hr,I4⟩=>?_);subst hr;exact wpAny_execs_nil ⟨σ3,H3,I4,qn⟩
 .refine wpAny_passesOwn hp (thn (T.item X rfl rfl rfl hc i pins s3 σ3 H3 X.xe I3 (stat fr3) st3 go) fun r s4 ⟨u,hr,h4⟩=>?_);subst hr;refine wpAny_passesOwn hp (thn h4 fun _ s5 ⟨x,H5,I5,r5,y5,st5,fr5⟩=>?_);have I5':=I5.pinned (stat fr5) (T.obj _ _ st5);refine wpAny_passesOwn hp (thn (hg _ s5 σ3 H5 x u _ I5' r5 (step x H5 y5)) fun _ s6 ⟨σ6,H6,I6,q6⟩=>?_);refine wpAny_passesOwn hp (thn (hb _ s6 σ6 H6 _ I6 q6) fun f s7 q7=>?_);have again:∀ {σ7:St} {H7:Hp},Inv X (pins++WU fp s5.heap) σ7 H7 s7->N σ7 H7->∃ m,m<n/\∃ i σ' H',Inv X pins σ' H' s7/\tn i s7.heap/\?wI/\W i m σ' H':=fun {σ7 H7} I7 n7=>by
   obtain⟨m',hm,w7⟩:=hN σ7 H7 n7;refine⟨m',hm,i+1,σ7,H7,I7.unpinned,T.keep _ _ _ st5 fun b hb o e=>(I7.pin (b,o) ?H4).1,fun b hb=>?_,w7⟩;obtain⟨o,e,d⟩:=T.obj _ _ st5 b hb;exact(I7.pin (b,o) ?H4).2.1
  cases f with
  |next=>obtain⟨σ7,H7,I7,n7⟩:=q7;exact again I7 n7
  |cont=>obtain⟨σ7,H7,I7,n7⟩:=q7;exact again I7 n7
  |brk=>obtain⟨σ7,H7,I7,q7⟩:=q7;exact⟨σ7,H7,I7.unpinned,q7⟩
  |ret v=>obtain⟨x7,σ7,H7,I7,r7,q7⟩:=q7;exact⟨x7,σ7,H7,I7.unpinned,r7,q7⟩
end
abbrev R2:=V->V->Hp->VK->Prop
def OpR (X:Cx)(f:?vC)(r:R2):Prop:=
 ∀ (pins:List (Addr×Obj)) (s:Shared) (σ:St) (H:Hp) (x y:V) (v u:Value) (Q:VK),Inv X pins σ H s->YX x v->YX y u->r x y H Q->
  wpAny ?AF X.A (f v u) ?Bj X.xe s
def Ve (X:Cx)(f:?AJ)(r:List V->Hp->VK->Prop):Prop:=
 ∀ (pins:List (Addr×Obj)) (s:Shared) (σ:St) (H:Hp) (xs:List V) (us:List Value) (Q:VK),Inv X pins σ H s->qj xs us->r xs H Q->
  wpAny ?AF X.A (call f us) ?Bj X.xe s
def tOp (r:R2)(ta tb:TE):TE:=fun σ H Q=>ta σ H fun x H1=>tb σ H1 fun y H2=>r x y H2 Q
def rI (C:Int->Int->Prop)(g:Int->Int->V):R2:=fun x y H Q=>∃ i j,x=.int i/\y=.int j/\C i j/\Q ?Bu H
def rI0 (g:Int->Int->V):R2:=fun x y H Q=>∃ i j,x=.int i/\y=.int j/\Q ?Bu H
section
variable {ta tb tc:TE}
theorem GA (ha:?CA)(hb:?DQ){R:V->V->Hp->Prop}(I:?A6)
  (h:ta σ H fun x H1=>tb σ H1 fun y H2=>R x y H2) {Q:?zA} {f:?vC}
  (hf:∀ v u s2 x y H2,Inv X pins σ H2 s2->YX x v->YX y u->R x y H2->wpAny ?AF X.A (f v u) Q X.xe s2) :
  wpAny ?AF X.A (eval a X.env) (fun v s₁=>wpAny ?AF X.A ?Em (fun u s₂=>wpAny ?AF X.A (f v u) Q X.xe s₂) X.xe s₁) X.xe s:=by
 refine thn ?CM fun v s1 ⟨x,H1,I1,r1,q1⟩=>?_;refine thn ?GZ fun u s2 ⟨y,H2,I2,r2,q2⟩=>?_;exact hf v u s2 x y H2 I2 r1 r2 q2
theorem uU {op:Operator}{r:R2}(ho:?IX)(ha:?CA)(hb:?DQ):PE X ?J9 ?Hc:=by
 intro pins s σ H Q I h;exact wpAny_BinOp (GA ha hb I h fun v u s2 x y H2 I2 rx ry q=>?Kw)
theorem opI {f:?vC}{C:Int->Int->Prop}{g:Int->Int->Int}
  (rule:∀ (i j:Int) (t u:Tok) (s:Shared) (Q:Value->Shared->Prop) (E:Value->Shared->Prop),C i j->Q (.int ?Bu s.toks) {s with toks:=?yC}->wpAny ?AF X.A ?IQ Q E s) :
  OpR X f (rI C fun i j=>.int ?Bu):=by
 intro pins s σ H x y v u Q I rx ry h;obtain⟨i,j,rfl,rfl,hc,q⟩:=h;obtain⟨t,rfl⟩:=rx;obtain⟨t',rfl⟩:=ry;exact rule i j t t' s _ _ hc ?Kq
theorem IV {f:?vC}{g:Int->Int->Int}
  (rule:∀ (i j:Int) (t u:Tok) (s:Shared) (Q:Value->Shared->Prop) (E:Value->Shared->Prop),Q (.int ?Bu s.toks) {s with toks:=?yC}->wpAny ?AF X.A ?IQ Q E s) :
  OpR X f (rI0 fun i j=>.int ?Bu):=by
 intro pins s σ H x y v u Q I rx ry h;obtain⟨i,j,rfl,rfl,q⟩:=h;obtain⟨t,rfl⟩:=rx;obtain⟨t',rfl⟩:=ry;exact rule i j t t' s _ _ ?Kq
theorem GD {f:?vC}{g:Int->Int->Bool}
  (rule:∀ (i j:Int) (t u:Tok) (s:Shared) (Q:Value->Shared->Prop) (E:Value->Shared->Prop),Q (.bool ?Bu) s->wpAny ?AF X.A ?IQ Q E s) :
  OpR X f (rI0 fun i j=>?G7):=by
 intro pins s σ H x y v u Q I rx ry h;obtain⟨i,j,rfl,rfl,q⟩:=h;obtain⟨t,rfl⟩:=rx;obtain⟨t',rfl⟩:=ry;exact rule i j t t' s _ _ ⟨?G7,H,I,rfl,q⟩
def Lx (i j:Int):Prop:=0<j/\j<1073741824
theorem hZ:OpR X ?HQ (rI0 fun i j=>.int (i+j)):=IV fun _ _ _ _ _ _ _ q=>add_int q
theorem F9:OpR X (binaryOp .Sub) (rI0 fun i j=>.int (i - j)):=IV fun _ _ _ _ _ _ _ q=>sub_int q
theorem CQ:OpR X (binaryOp .FloorDiv) (rI Lx fun i j=>.int (i / j)):=opI fun i j _ _ _ _ _ hc q=>by
 have h1:(0:Int)<j:=hc.1;have h2:j<1073741824:=hc.2;exact floordiv_int ?A (by rw[Ym i (by lia)];exact q) (.inl (PyProof.noPylong_small ?A))
theorem cr:OpR X (binaryOp .Mod) (rI (fun _ j=>0<j) fun i j=>.int (i % j)):=opI fun i j _ _ _ _ _ hc q=>by
 have h1:(0:Int)<j:=hc;exact mod_int' ?A (by rw[jc i (by lia)];exact q)
end
def DQ:V->V->Bool
 |.non,.non=>true|.non,.int _=>true|.int _,.non=>true|.non,.bl _=>true|.bl _,.non=>true|.non,.str _=>true|.str _,.non=>true
 |.int _,.int _=>true|.bl _,.bl _=>true|.str _,.str _=>true|.byt _,.byt _=>true
 |.int _,.str _=>true|.str _,.int _=>true|.bl _,.str _=>true|.str _,.bl _=>true
 |_,_=>false
def rEq:R2:=fun x y H Q=>DQ x y=true/\Q (.bl (decide (x=y))) H
def rNe:R2:=fun x y H Q=>DQ x y=true/\Q (.bl (!decide (x=y))) H
theorem na {i j:Int}:decide (V.int i=V.int j)=(i==j):=by
 rw[YH];simp
theorem AO:decide (V.bl i=V.bl j)=(i==j):=by
 rw[YH];simp
theorem mi:decide (V.str i=V.str j)=(i==j):=by
 rw[YH];simp
theorem mK:decide (V.byt i=V.byt j)=(i.toList==j.toList):=by
 rw[YH];cases i;cases j;simp
section
variable {ta tb tc:TE}
theorem qS(I:?A6)(q:Q ?CK H)(e:k=k'):EP X pins σ Q (.bool k') s:=by
 subst e;exact⟨?CK,H,I,rfl,q⟩
theorem Bo:OpR X (compareOp .Eq) rEq:=by
 intro pins s σ H x y v u Q I rx ry h;obtain⟨hs,q⟩:=h;cases x with
 |non=>
  cases rx;cases y with
  |non=>cases ry;exact PySem.EqNone.eq_none_none ?T
  |bl j=>cases ry;exact PySem.EqNone.eq_none_bool ?T
  |int j=>obtain⟨t',rfl⟩:=ry;exact PySem.EqNone.eq_none_int ?T
  |str j=>obtain⟨t',rfl⟩:=ry;exact PySem.EqNone.eq_none_str ?T
  |_=>exact ?Bk
 |bl i=>
  cases rx;cases y with
  |non=>cases ry;exact PySem.EqNone.eq_bool_none ?T
  |bl j=>cases ry;exact eq_bool (qS I q AO)
  |str j=>obtain⟨t',rfl⟩:=ry;exact PySem.EqMixed.eq_bool_str ?T
  |_=>exact ?Bk
 |int i=>
  obtain⟨t,rfl⟩:=rx;cases y with
  |non=>cases ry;exact PySem.EqNone.eq_int_none ?T
  |int j=>obtain⟨t',rfl⟩:=ry;exact eq_int (qS I q na)
  |str j=>obtain⟨t',rfl⟩:=ry;exact PySem.EqMixed.eq_int_str ?T
  |_=>exact ?Bk
 |str i=>
  obtain⟨t,rfl⟩:=rx;cases y with
  |non=>cases ry;exact PySem.EqNone.eq_str_none ?T
  |bl j=>cases ry;exact PySem.EqMixed.eq_str_bool ?T
  |int j=>obtain⟨t',rfl⟩:=ry;exact PySem.EqMixed.eq_str_int ?T
  |str j=>obtain⟨t',rfl⟩:=ry;exact eq_str (qS I q mi)
  |_=>exact ?Bk
 |byt i=>
  obtain⟨t,rfl⟩:=rx;cases y with
  |byt j=>obtain⟨t',rfl⟩:=ry;exact W.eq_bytes (qS I q mK)
  |_=>exact ?Bk
 |_=>cases y <;> exact ?Bk
theorem AC:OpR X (compareOp .NotEq) rNe:=by
 intro pins s σ H x y v u Q I rx ry h;obtain⟨hs,q⟩:=h;cases x with
 |non=>
  cases rx;cases y with
  |non=>cases ry;exact PySem.EqNone.ne_none_none ?T
  |bl j=>cases ry;exact PySem.EqNone.ne_none_bool ?T
  |int j=>obtain⟨t',rfl⟩:=ry;exact PySem.EqNone.ne_none_int ?T
  |str j=>obtain⟨t',rfl⟩:=ry;exact PySem.EqNone.ne_none_str ?T
  |_=>exact ?Bk
 |bl i=>
  cases rx;cases y with
  |non=>cases ry;exact PySem.EqNone.ne_bool_none ?T
  |bl j=>cases ry;exact ne_bool (qS I q (congrArg not AO))
  |str j=>obtain⟨t',rfl⟩:=ry;exact PySem.EqMixed.ne_bool_str ?T
  |_=>exact ?Bk
 |int i=>
  obtain⟨t,rfl⟩:=rx;cases y with
  |non=>cases ry;exact PySem.EqNone.ne_int_none ?T
  |int j=>obtain⟨t',rfl⟩:=ry;exact ne_int (qS I q (congrArg not na))
  |str j=>obtain⟨t',rfl⟩:=ry;exact PySem.EqMixed.ne_int_str ?T
  |_=>exact ?Bk
 |str i=>
  obtain⟨t,rfl⟩:=rx;cases y with
  |non=>cases ry;exact PySem.EqNone.ne_str_none ?T
  |bl j=>cases ry;exact PySem.EqMixed.ne_str_bool ?T
  |int j=>obtain⟨t',rfl⟩:=ry;exact PySem.EqMixed.ne_str_int ?T
  |str j=>obtain⟨t',rfl⟩:=ry;exact ne_str (qS I q (congrArg not mi))
  |_=>exact ?Bk
 |byt i=>
  obtain⟨t,rfl⟩:=rx;cases y with
  |byt j=>obtain⟨t',rfl⟩:=ry;exact W.ne_bytes (qS I q (congrArg not mK))
  |_=>exact ?Bk
 |_=>cases y <;> exact ?Bk
theorem Fb:OpR X (compareOp .Lt) (rI0 fun i j=>.bl (decide (i<j))):=GD fun _ _ _ _ _ _ _ q=>lt_int q
theorem sQ:OpR X (compareOp .LtE) (rI0 fun i j=>.bl (decide (i<=j))):=GD fun _ _ _ _ _ _ _ q=>le_int q
theorem EN:OpR X (compareOp .Gt) (rI0 fun i j=>.bl (decide (j<i))):=GD fun _ _ _ _ _ _ _ q=>gt_int q
theorem xb (b:Expr)(h:op≠.In:=by decide)(h2:op≠.NotIn:=by decide):?wE:=by
 have e1:(op==CmpOp.In)=false:=by cases op <;> first|rfl|exact absurd rfl h
 have e2:(op==CmpOp.NotIn)=false:=by cases op <;> first|rfl|exact absurd rfl h2
 cases b <;> simp[behindInMarks,e1,e2]
theorem ol {op:CmpOp}{r:R2}(ho:?EQ)(ha:?CA)(hb:?DQ)(hm:?wE):PE X ?vD ?Hc:=by
 intro pins s σ H Q I h;exact wpAny_Compare1 (GA ha hb I h fun v u s2 x y H2 I2 rx ry q=>?Kw) hm
def Fd (t:TE):TT:=fun σ H Q=>t σ H fun x H'=>∃ k,x=.bl k/\Q k H'
theorem b9(ho:?EQ)(ha:?CA)(hb:?DQ)(hm:?wE):PT X ?vD (Fd ?Hc):=by
 intro pins s σ H Q I h;refine wpAny_isTrue_Compare1 (thn ?CM fun v s1 ⟨x,H1,I1,r1,q1⟩=>thn ?GZ fun u s2 ⟨y,H2,I2,r2,q2⟩=>
  thn ?I0 fun c s3 ⟨z,H3,I3,r3,k,e,q3⟩=>?_) hm
 subst e;cases r3;exact YS ⟨H3,I3,q3⟩
def sC (r r':R2)(ta tb tc:TE):TE:=fun σ H Q=>ta σ H fun x H1=>tb σ H1 fun y H2=>r x y H2 fun z H3=>∃ k,z=.bl k/\
 (if k=true then tc σ H3 fun w' H4=>r' y w' H4 Q else Q ?EL H3)
theorem dJ(ho:?EQ)(ho':?M4)(ha:?CA)(hb:?DQ)(hc:PE X c tc)
  (hm:lastMarks [op,op'] [b,c]=false:=by with_unfolding_all rfl):PE X (.Compare a [op,op'] [b,c] pos) (sC r r' ta tb tc):=by
 intro pins s σ H Q I h;refine Compare_chain (thn ?CM fun v s1 ⟨x,H1,I1,r1,q1⟩=>chain_link (thn ?GZ fun u s2 ⟨y,H2,I2,r2,q2⟩=>
  thn ?I0 fun d s3 ⟨z,H3,I3,r3,k,e,q3⟩=>?_)) hm
 subst e;cases r3;refine YS ?_;cases k with
 |false=>exact ite_ff ⟨?EL,H3,I3,rfl,q3⟩
 |true=>exact ite_tt (chain_last (thn ?Lr fun w' s4 ⟨z',H4,I4,r4,q4⟩=>ho' pins s4 σ H4 y z' u w' Q I4 r2 r4 q4))
theorem CI(ho:?EQ)(ho':?M4)(ha:?CA)(hb:?DQ)(hc:PE X c tc)
  (hm:lastMarks [op,op'] [b,c]=false:=by with_unfolding_all rfl):PT X (.Compare a [op,op'] [b,c] pos) (Fd (sC r r' ta tb tc)):=by
 intro pins s σ H Q I h;refine isTrue_chain (thn ?CM fun v s1 ⟨x,H1,I1,r1,q1⟩=>test_link (thn ?GZ fun u s2 ⟨y,H2,I2,r2,q2⟩=>
  thn ?I0 fun d s3 ⟨z,H3,I3,r3,k,e,q3⟩=>?_)) hm
 subst e;cases r3;refine YS ?_;cases k with
 |false=>
  obtain⟨k',e',q'⟩:=q3;cases e';exact ite_ff ⟨H3,I3,q'⟩
 |true=>
  refine ite_tt (test_last (thn ?Lr fun w' s4 ⟨z',H4,I4,r4,q4⟩=>thn (ho' pins s4 σ H4 y z' u w' _ I4 r2 r4 q4) fun d' s5 ⟨z2,H5,I5,r5,k2,e2,q5⟩=>?_));subst e2;cases r5;exact YS ⟨H5,I5,q5⟩
theorem UK:(sizeLine:Nat)<2 ^ 63:=by rw[sizeLine_eq];decide
theorem iQ:OpR X ?HQ (fun x y H Q=>∃ i j,x=.str i/\y=.str j/\i.length+j.length<=sizeLine/\Q (.str (i++j)) H):=by
 intro pins s σ H x y v u Q I rx ry h;obtain⟨i,j,rfl,rfl,hz,q⟩:=h;obtain⟨t,rfl⟩:=rx;obtain⟨t',rfl⟩:=ry;exact add_str (fun t' tk=>⟨.str (i++j),H,?B3,?Bt,q⟩) hz
theorem uK(r:qj [x] us):∃ u,us=[u]/\YX x u:=by
 cases r with
 |cons r1 r2=>cases r2;exact⟨_,rfl,r1⟩
theorem HH(r:qj [x,y] us):∃ u w',us=[u,w']/\YX x u/\YX y w':=by
 cases r with
 |cons r1 r2=>
  cases r2 with
  |cons r3 r4=>cases r4;exact⟨_,_,rfl,r1,r3⟩
theorem p6:Ve X (.type "int") (fun xs H Q=>(∃ i,xs=[.int i]/\Q ?Bs H)∨∃ k,xs=[.bl k]/\Q (.int (if k then 1 else 0)) H):=by
 intro pins s σ H xs us Q I r h;rcases h with ⟨i,rfl,q⟩|⟨k,rfl,q⟩
 .obtain⟨u,rfl,t,rfl⟩:=uK r;exact call_int_int ⟨?Bs,H,I,?Bt,q⟩
 .obtain⟨u,rfl,r1⟩:=uK r;cases r1;exact call_int_bool ⟨.int (if k then 1 else 0),H,?B3,?Bt,q⟩
end
structure ObjM (h:Heap)(x dx C:Addr)(mA:?J):Prop where
 obj:h.get? x=some ?JZ
 ns:h.Ns1 dx mA
 ne:dx≠x
theorem pJ {h:Heap}{dx:Addr}{mA:?J}(n:h.Ns1 dx mA):∃ od,h.get? dx=some od/\∀ name,W.lookIn name od=some (mA name):=by
 obtain⟨o,es,ep,ho,hd,hk,_,hm⟩:=n;refine⟨o,ho,fun name=>?_⟩;have e:=hm name;unfold nsFind findBy at e;rw[←Array.find?_toList] at e;unfold W.lookIn;rw[hd];dsimp only;split
 .rename_i y q;rw[q] at e;exact congrArg some e
 .rename_i q;rw[q] at e;have a:es.toList.any (·.refKey)=false:=by
   rw[List.any_eq_false];intro y hy;obtain⟨z,t,hkey⟩:=hk y (Array.mem_toList_iff.mp hy);simp[DictEntry.refKey,hkey]
  have a':¬ es.toList.any (·.refKey)=true:=by rw[a];exact yN
  rw[yd a'];exact congrArg some e
theorem ObjM.look(I:ObjM h x dx C mA):∃ od,W.InstAt h x ?JZ C (some od)/\∀ name,W.lookIn name od=some (mA name):=
 let ⟨od,ho,hl⟩:=pJ I.ns
 ⟨od,⟨I.obj,rfl,rfl,ho⟩,hl⟩
section
variable {prog:?AA}{w:?A9}{A:?BD}{E:?zA}{s:?AN}{K:?A0}{x dx C f:Addr}{mA:?J}{name:Str}{v:?AJ}
theorem Eo(X:?Hh)(I:?IY)(hg:W.plainGet K C name=true)(hh:?vE)
  (ha:W.findIn K ?AM name=some none) (hv:mA name=some v) (hv':W.handedIn v=true) (h:Q v {s with toks:=?yC}) :
  wpAny ?AG A (getAttr (.ref x) name expr) Q E s:=by
 obtain⟨od,J,hl⟩:=I.look;exact W.get_value X J (?JG).1 (W.findObj_own hh ha rfl (by rw[hl,hv])) hv' h
theorem rP(X:?Hh)(I:?IY)(hg:W.plainGet K C name=true)
  (hf:W.findIn K ?AM name=some ?DU) (ht:W.isFn K ?Am=true) (hv:mA name=none) (h:Q (?Am,[.ref x]) s) :
  wpAny ?AG A (getMethod (.ref x) name pl) Q E s:=by
 obtain⟨od,J,hl⟩:=I.look;exact W.method_fn X J (?JG).1 (?JG).2 hf (beq_iff_eq.mp ht) (by show(W.lookIn name od).map (·.isSome)=some false;rw[hl,hv];rfl) h
theorem Di(X:?Hh)(I:?IY)
  (hs:?vT) (hp:W.plainOver K C=true) (ht:W.takerIn K C name=some none) (hh:?vE)
  (hw:PySem.Within mA ns) (hsz:ns.length<=sizeLine)
  (h:∀ h',ObjM h' x dx C (fun y=>if y=name then some v else mA y)->Heap.SameBut dx s.heap h'->Q () {s with heap:=h',toks:=s.toks+2}) :
  wpAny ?AG A (setAttr (.ref x) name v) Q E s:=by
 obtain⟨od,J,hl⟩:=I.look;refine W.set_plain X J hs (W.osa_open (s:={s with toks:=?yC}) (r:=none) X J hp ht fun b=>?_);obtain⟨cd,hc,hd'⟩:=W.any_some hh;have hx:s.heap.get? x=some ⟨.ref C,some dx,.plain,#[]⟩:=I.obj;refine ya (ym (ya (ya (wpAny_loadPart hx (ya (W.Looks.here (s:={s with toks:=?yC}) (W.looks_clsIn X hc) ?_))))));rw[hd'];refine ym (a:=some dx) (ya (ym (ya ?_)));refine wpAny_nsSet1 (s:={s with toks:=?yC}) I.ns fun h' hn2 hs2=>?_;obtain⟨oD,esD,epD,hoD,hdD,hcD⟩:=hn2.count (PySem.Within.cons name v hw);refine ya (wpAny_lookBehind hoD (by rw[hdD];exact pastItsLine_dict (yz hcD ?qJ)) ?_);exact ym (h _ ⟨(hs2.2 _ (Ne.symm I.ne)).trans I.obj,hn2,I.ne⟩ hs2)
theorem sY(X:?Hh)(hm:W.makesIn K C=true)
  (hi:W.findIn K ?AM "__init__" = some ?DU) (hf:W.typeIn K ?Am=some (.type "function"))
  (h:codeAny ?AG (A.under (.builtin "type.__call__" ⟨.ref C::vs,kw⟩)) (.call ?Am ⟨.ref ?zK::vs,kw⟩) (W.InitBack ?zK R)
   {s with heap:=(?Ga).push ?IF}) :
  codeAny ?AG A (.call ?AM ⟨vs,kw⟩) R s:=by
 obtain⟨hh,g,d,t,os⟩:=s;exact W.make_core (W.makes_of X hm) (W.looks_findIn X hi) (fun self=>W.bind_fn X self hf) ?A2 h
end
def kC (f:Str)(v:V):List (Str×V)->List (Str×V)
 |[]=>[(f,v)]
 | (g,x)::r=>if g=f then (g,v)::r else (g,x)::kC f v r
theorem wI (f g:Str)(v:V):∀ fs:List (Str×V),(kC f v fs).lookup g=if g=f then some v else fs.lookup g
 |[]=>by
  show List.lookup g [(f,v)]=_;by_cases h:g=f
  .have hb:(g==f)=true:=beq_iff_eq.mpr h;simp only[List.lookup,hb,yc h]
  .have hb:(g==f)=false:=beq_eq_false_iff_ne.mpr h;simp only[List.lookup,hb,yd h]
 | (k,x)::r=>by
  have ih:=wI f g v r;rw[show kC f v ((k,x)::r)=(if k=f then (k,v)::r else (k,x)::kC f v r) from rfl];by_cases hk:k=f
  .rw[yc hk];by_cases h:g=k
   .have hb:(g==k)=true:=beq_iff_eq.mpr h;simp only[List.lookup,hb,yc (h.trans hk)]
   .have hb:(g==k)=false:=beq_eq_false_iff_ne.mpr h;simp only[List.lookup,hb,yd (fun e:g=f=>h (e.trans hk.symm))]
  .rw[yd hk];by_cases h:g=k
   .have hb:(g==k)=true:=beq_iff_eq.mpr h;simp only[List.lookup,hb,yd (fun e:g=f=>hk (h.symm.trans e))]
   .have hb:(g==k)=false:=beq_eq_false_iff_ne.mpr h;simp only[List.lookup,hb];exact ih
theorem wd (f:Str)(v:V):∀ fs:List (Str×V),f∈(kC f v fs).map ?C/\∀ g,g∈fs.map ?C->g∈(kC f v fs).map ?C
 |[]=>⟨by simp[kC],fun g h=>by simp at h⟩
 | (k,x)::r=>by
  obtain⟨i1,i2⟩:=wd f v r;rw[show kC f v ((k,x)::r)=(if k=f then (k,v)::r else (k,x)::kC f v r) from rfl];by_cases hk:k=f
  .rw[yc hk];subst hk;exact⟨by simp,fun g h=>by simpa using h⟩
  .rw[yd hk];refine⟨?_,fun g h=>?_⟩
   .rw[yD];exact ye _ i1
   .rw[yD] at h ⊢;rcases yB.mp h with e|e
    .exact yB.mpr (.inl e)
    .exact ye _ (i2 g e)
theorem wJ (f:Str)(v:V):∀ fs:List (Str×V),(kC f v fs).length<=fs.length+1
 |[]=>by simp[kC]
 | (k,x)::r=>by
  have ih:=wJ f v r;rw[show kC f v ((k,x)::r)=(if k=f then (k,v)::r else (k,x)::kC f v r) from rfl];by_cases hk:k=f
  .rw[yc hk,yi,yi];lia
  .rw[yd hk,yi,yi];lia
theorem kE.some_of(r:kE ?Cf o):∃ u,o=some u/\YX v u:=by
 cases o with
 |none=>exact(show False from r).elim
 |some u=>exact⟨u,rfl,r⟩
theorem kE.none_of(r:kE none o):o=none:=by
 cases o with
 |none=>rfl
 |some u=>exact(show False from r).elim
theorem rE(r:?DA):W.handedIn u=true:=by
 cases v with
 |non=>cases (show u=Value.none from r);rfl
 |bl b=>cases (show u=Value.bool b from r);rfl
 |int i=>obtain⟨t,e⟩:=(show ∃ t,u=Value.int i t from r);cases e;rfl
 |str x=>obtain⟨t,e⟩:=(show ∃ t,u=Value.str x t from r);cases e;rfl
 |byt b=>obtain⟨t,e⟩:=(show ∃ t,u=Value.bytes b t from r);cases e;rfl
 |flt b=>obtain⟨t,e⟩:=(show ∃ t,u=Value.float b t from r);cases e;rfl
 |ref a=>cases (show u=Value.ref a from r);rfl
 |ty n=>cases (show u=Value.type n from r);rfl
section
theorem Wl (hok:?BA)(e:H a=some ?Cu):∃ mA,ObjM h a dx C mA/\(∀ f,?MA)/\PySem.Within mA (fs.map ?C)/\fs.length<=1000/\H dx=some (.own a):=by
 obtain⟨d,z,ne,ob,mA,n,r,q⟩:=(show Qt P w H h a ?Cu from hok a _ e)
 exact⟨mA,⟨ob,n,ne⟩,r,q,z,d⟩
end
structure Cls (K:?A0)(C:Addr):Prop where
 pg:W.plainGet K C Str.empty=true
 hd:W.hasDictIn K C=true
 po:W.plainOver K C=true
 sa:W.findIn K ?AM "__setattr__" = some (some (.builtin "object.__setattr__"))
theorem Cls.get {K:?A0}{C:Addr}(c:Cls K C)(f:Str):W.plainGet K C f=true:=c.pg
def QH (K:?A0)(C:Addr)(f:Str):Prop:=W.findIn K ?AM f=some none
theorem QH.taker {K:?A0}{C:Addr}{f:Str}(n:QH K C f):W.takerIn K C f=some none:=by
 unfold W.takerIn;rw[show W.findIn K (.ref C) f=some none from n];rfl
structure Meth (K:?A0)(C:Addr)(m:Str)(f:Addr):Prop where
 at_:W.findIn K ?AM m=some ?DU
 fn:W.isFn K ?Am=true
 kp:W.keepIn K ?Am=true
section
theorem iO(I:?A6)(e:H a=some ?Cu)(c:?DR)(n:?G9)(l:fs.lookup f=some v)
  (h:∀ u s',Inv X pins σ H s'->YX v u->Q u s'):wpAny ?AF A (getAttr ?AI f b) Q E s:=by
 obtain⟨mA,O,r,_,_,_⟩:=Wl I.hok e;obtain⟨u,hu,ru⟩:=kE.some_of (v:=v) (o:=mA f) (by rw[←l];exact r f);exact Eo I.kIn O (c.get f) c.hd n hu (rE ru) (h u _ ?B3 ru)
theorem Wx(I:?A6)(e:H a=some ?Cu)(c:?DR)(k:Meth X.K C m g)(l:fs.lookup m=none)
  (h:Q (.ref g,[.ref a]) s):wpAny ?AF A (getMethod ?AI m pl) Q E s:=by
 obtain⟨mA,O,r,_,_,_⟩:=Wl I.hok e;have hn:mA m=none:=kE.none_of (by rw[←l];exact r m);exact rP I.kIn O (c.get m) k.at_ k.fn hn h
theorem ia(I:?A6)(e:H a=some ?Cu)(c:?DR)(n:?G9)(hl:fs.length<1000)(ry:?D9)
  (h:∀ s',Inv X pins σ (upd H a (.ins C dx (kC f y fs))) s'->Q () s'):wpAny ?AF A (setAttr ?AI f u) Q E s:=by
 obtain⟨mA,O,r,wi,_,ho⟩:=Wl I.hok e;have hz:(fs.map ?C).length<=sizeLine:=by rw[yf,sizeLine_eq];lia
 refine Di I.kIn O c.sa c.po n.taker c.hd wi hz fun h' O' sb=>h _ ?_;have hd:∃ o,h'.get? dx=some o:=let ⟨o,_,_,e',_⟩:=O'.ns;⟨o,e'⟩
 refine I.write (x:=a) (e:=dx) (by rw[e];exact ?Cz) (.inr ho) (fun b q hb z=>(sb.2 b hb).trans z) hd ?_;refine⟨by rw[yX O.ne];exact ho,?_,O.ne,O'.obj,_,O'.ns,fun g=>?_,fun g hg=>?_⟩
 .have:=wJ f y fs;lia
 .show kE ((kC f y fs).lookup g) (if g=f then some u else mA g);rw[wI];by_cases q:g=f
  .rw[yc q,yc q];exact ry
  .rw[yd q,yd q];exact r g
 .by_cases q:g=f
  .rw[q];exact(wd f y fs).1
  .refine(wd f y fs).2 g (wi g fun z=>hg ?_);show(if g=f then some u else mA g)=none;rw[yd q];exact z
theorem Inv.made (I:?A6):Inv X pins σ (upd (upd H s.heap.objs.size (.own ?zK)) ?zK (.ins C s.heap.objs.size []))
  {s with heap:=(?Ga).push ?IF}:=by
 have e1:(s.heap.push W.emptyDict).get? s.heap.objs.size=some W.emptyDict:=yF s.heap rfl;have e2:((s.heap.push W.emptyDict).push (W.instObj C s.heap.objs.size)).get? (s.heap.objs.size+1)=some (W.instObj C s.heap.objs.size):=by
  have:=yF ?Ga (o:=?IF) rfl
  rwa [YU] at this
 have e3:(s.heap.push W.emptyDict).Ns s.heap.objs.size (fun _=>none):=⟨W.emptyDict,#[],_,e1,rfl,(fun e he=>absurd he (by simp)),fun _=>rfl⟩
 have I1:=I.laid (a:=?C8) (o:=.own ?zK) (h':=?Ga) (t':=?Ag) (fun b u q=>?CI) ?AC ⟨_,e1⟩;refine I1.laid (a:=?zK) (o:=.ins C s.heap.objs.size []) (t':=?Ag) (fun b u q=>?CI) (Nat.le_of_eq (YU _ _)) ?_;have ne:s.heap.objs.size≠s.heap.objs.size+1:=Yb ?Ji;refine⟨by rw[yX ne,yT],Y0 _,ne,e2,fun _=>none,(Heap.Ns1.of_empty e3).at fun o q=>?CI,fun _=>?Cz,fun y hy=>absurd rfl hy⟩
theorem DC {f:Str}{s:?AN}(hb:attributeBase e f env (eval e env)=eval e env)
  (h:wpAny ?AG A (eval e env) (fun o s₁=>wpAny ?AG A (getAttr o f true) Q E s₁) E s):wpAny ?AG A (eval ?Gv env) Q E s:=
 Attribute_any_ h (by rw[arm_eval_Attribute,hb])
end
def LK (K:?A0)(ta:TE)(f:Str):TE:=fun σ H Q=>ta σ H fun x H1=>∃ a C dx fs v,x=.ref a/\H1 a=some ?Cu/\Cls K C/\QH K C f/\fs.lookup f=some v/\Q v H1
def Lr (K:?A0)(ta tv:TE)(f:Str):TS:=fun D σ H=>tv σ H fun y H1=>ta σ H1 fun x H2=>∃ a C dx fs,x=.ref a/\H2 a=some ?Cu/\Cls K C/\QH K C f/\fs.length<1000/\
 D.nx σ (upd H2 a (.ins C dx (kC f y fs)))
section
theorem rQ (he:PE X e ta)(hb:attributeBase e f X.env ?C6=eval e X.env):PE X ?Gv (LK X.K ta f):=by
 intro pins s σ H Q I h;refine DC hb (thn ?DG fun u s1 ⟨x,H1,I1,rx,a,C,dx,fs,v,ex,ea,c,n,l,q⟩=>?_);subst ex;obtain rfl:u=Value.ref a:=rx;exact iO I1 ea c n l fun u' s2 I2 ru=>⟨v,H1,I2,ru,q⟩
theorem GW (ha:PE X o ta)(hv:PE X value tv)(hs:swapsWith value ?M0 pos.line X.env=pure false):PS X (.Assign [.Attribute o f pos'] value pos) (Lr X.K ta tv f):=by
 intro pins s σ H D I h;refine plainObj_wpAny_Assign_Attribute (thn (hv pins s σ H _ I h) fun u s1 ⟨y,H1,I1,ry,q⟩=>thn (ha pins s1 σ H1 _ I1 q) fun ov s2 ⟨x,H2,I2,rx,a,C,dx,fs,ex,ea,c,n,l,q2⟩=>?_) hs;subst ex;obtain rfl:ov=Value.ref a:=rx;exact ia I2 ea c n l ry fun s3 I3=>⟨σ,_,I3,q2⟩
end
section
inductive TyOf (K:?A0)(H:Hp):V->Value->Prop where
 |non:TyOf K H .non (.type "NoneType")
 |bl (x:Bool):TyOf K H (.bl x) (.type "bool")
 |int (i:Int):TyOf K H ?Bs (.type "int")
 |str (x:Str):TyOf K H ?CL (.type "str")
 |flt (x:UInt64):TyOf K H (.flt x) (.type "float")
 |lst {a:Addr} {xs:?AL} (e:H a=some ?Aa):TyOf K H ?AI ?R
 |frz {a:Addr} {o:Obj} {xs:?AL} (e:H a=some (.frz o ?Aa)):TyOf K H ?AI ?R
 |tup {a:Addr} {xs:?AL} (e:H a=some ?Bc):TyOf K H ?AI ?zQ
 |dK {a:Addr} {kvs:?qM} (e:H a=some ?Bp):TyOf K H ?AI ?jJ
 |dT {a:Addr} {kvs:List (List Key×V)} (e:H a=some ?Cc):TyOf K H ?AI ?jJ
 |ins {a C dx:Addr} {fs:List (Str×V)} (e:H a=some ?Cu) (cl:Cls K C) (ha:W.findIn K ?AM "__class__" = some (some (.builtin "object.__class__")))
   (hn:W.specialIn K (.builtin "object.__class__") "__get__" = some (some (.builtin "getset_descriptor.__get__"))) (htk:W.takesIn K (.builtin "object.__class__")=some true)
   (hm:W.mroIn K C (.type "object")=some true):TyOf K H ?AI ?AM
theorem KD(I:?A6)(rx:YX x u)(ty:TyOf X.K H x t)(e:W.kitOne X.K t c=some b)(h:∀ tk,Q (.bool b) {s with toks:=tk}) :
  wpAny ?AF A (call (.builtin "isinstance") [u,c]) Q E s:=by
 cases ty with
 |non=>cases (show u=Value.none from rx);exact W.kia_one W.kitx_none I.kIn True.intro e ?M h
 |bl y=>cases (show u=Value.bool y from rx);exact W.kia_one W.kitx_bool I.kIn True.intro e ?M h
 |int i=>obtain⟨t,q⟩:=(show ∃ t,u=Value.int i t from rx);cases q;exact W.kia_one W.kitx_int I.kIn True.intro e ?M h
 |str y=>obtain⟨t,q⟩:=(show ∃ t,u=Value.str y t from rx);cases q;exact W.kia_one W.kitx_str I.kIn True.intro e ?M h
 |flt y=>obtain⟨t,q⟩:=(show ∃ t,u=Value.float y t from rx);cases q;exact W.kia_one W.kitx_float I.kIn True.intro e ?M h
 |@lst a xs ea=>
  cases ?jZ;obtain⟨_,_,n,_,h1⟩:=(show Qt X.prog X.w H s.heap a ?Aa from I.hok a _ ea)
  exact ?Kc
 |@frz a ob xs ea=>
  cases ?jZ;obtain⟨_,_,_,n,_,h1⟩:=(show Qt X.prog X.w H s.heap a (.frz ob ?Aa) from I.hok a _ ea)
  exact ?Kc
 |@tup a xs ea=>
  cases ?jZ;obtain⟨_,_,_,p⟩:=(show Qt X.prog X.w H s.heap a ?Bc from I.hok a _ ea)
  obtain⟨o,h1,h2,_⟩:=p;exact W.kia_one W.kitx_tuple I.kIn ⟨o,h1,h2⟩ e ?M h
 |@dK a kvs ea=>
  cases ?jZ;obtain⟨_,_,vs,_,p⟩:=(show Qt X.prog X.w H s.heap a ?Bp from I.hok a _ ea)
  obtain⟨o,es,ep,h1,h2,_⟩:=p;exact W.kia_one W.kitx_dict I.kIn ⟨o,h1,h2.1⟩ e ?M h
 |@dT a kvs ea=>
  cases ?jZ;obtain⟨_,_,xs,_,o,es,ep,h1,h2,_⟩:=(show Qt X.prog X.w H s.heap a ?Cc from I.hok a _ ea)
  exact W.kia_one W.kitx_dict I.kIn ⟨o,h1,h2.1⟩ e ?M h
 |@ins a C dx fs ea cl ha hn htk hm=>
  cases ?jZ;obtain⟨mA,O,_⟩:=Wl I.hok ea;obtain⟨od,J,_⟩:=O.look;exact W.kia_one (W.kitx_own (cl.get _) cl.hd ha hn htk hm) I.kIn J e ?M h
end
structure Room (k:Nat)(A:?BD):Prop where
 hd:A.handled=none
 dp:A.depth+3*k+5<recursionLimit
 un:A.units+16*k+200<cLine
theorem Room.mono(r:Room k A)(h:j<=k):Room j A:=⟨r.hd,by have:=r.dp;lia,by have:=r.un;lia⟩
theorem Room.deeper(r:Room (k+1) A)(env:Env):Room k (A.deeper env):=
 ⟨r.hd,by have:=r.dp;show A.depth+1+3*k+5<_;lia,by have:=r.un;show A.units+3+16*k+200<_;lia⟩
theorem im {A:?BD}{us:?AY}{kw:?wY}:(?vX).depth=A.depth+1:=by
 first|rfl|simp[Around.under,Code.weight,Code.isCreation,Code.isGuard,Code.isCaller,Code.frames,Code.isFrame,guardIds]
theorem ly {A:?BD}{us:?AY}{kw:?wY}:(?vX).units=A.units+1:=by
 first|rfl|simp[Around.under,Code.cUnits,Code.frames,Code.isFrame]
theorem Room.make(r:Room (k+1) A)(C:Addr)(us:?AY)(kw:?wY):Room k ?vX:=
 ⟨r.hd,by have:=r.dp;rw[im];lia,by have:=r.un;rw[ly];lia⟩
theorem Room.depth(r:Room k A):A.depth<recursionLimit:=by have:=r.dp;lia
theorem Room.units(r:Room k A):A.units+64<cLine:=by have:=r.un;lia
def H0:TA:=fun _ H Q=>Q [] H
def Il (ta:TE)(tr:TA):TA:=fun σ H Q=>ta σ H fun x H1=>tr σ H1 fun xs H2=>Q (x::xs) H2
section
theorem UA:PA X [] H0:=fun _ _ _ _ H Q I h=>Calls.spliced_nil ⟨[],H,I,.nil,h⟩
theorem vx (ha:?E3)(hr:PA X es t)(hs:?W:=by rfl):PA X (e::es) (Il te t):=by
 intro pos pins s σ H Q I h;rw[hs];show wpAny _ _ (spliced ((?AE,?C6)::backTo pos ?GU)) _ _ s;refine Calls.spliced_cons (thn ?CM fun u s1 ⟨x,H1,I1,r1,q1⟩=>?_);exact thn (hr pos pins s1 σ H1 _ I1 q1) fun us s2 ⟨xs,H2,I2,r2,q2⟩=>⟨x::xs,H2,I2,.cons r1 r2,q2⟩
def LH (t:TA):TE:=fun σ H Q=>t σ H fun xs H1=>xs.length<=sizeLine/\∀ p,H1 p=none->Q ?Bd (upd H1 p ?Bc)
def LD (t:TA):TE:=fun σ H Q=>t σ H fun xs H1=>xs.length<=sizeLine/\∀ p,H1 p=none->Q ?Bd (upd H1 p ?Aa)
theorem W9(h:PA X es t):PE X ?JJ (LH t):=by
 intro pins s σ H Q I hq;refine wpAny_Tuple_spliced (thn ?Ls fun us s1 ⟨xs,H1,I1,r,z,q⟩=>⟨by rw[←r.length];exact z,?_⟩);have hf:H1 s1.heap.objs.size=none:=I1.hok.fresh ?AC;refine⟨.ref s1.heap.objs.size,upd H1 s1.heap.objs.size ?Bc,I1.laid (t':=?EH) (fun b u e=>?At) ?AC ?_,rfl,q _ hf⟩;exact⟨z,us,r,⟨_,?Be,rfl,_,rfl⟩⟩
theorem tX (h:PA X es t):PE X (.List es pos) (LD t):=by
 intro pins s σ H Q I hq;refine wpAny_List_spliced (thn ?Ls fun us s1 ⟨xs,H1,I1,r,z,q⟩=>⟨by rw[←r.length];exact z,?_⟩);have hf:H1 s1.heap.objs.size=none:=I1.hok.fresh ?AC;refine⟨.ref s1.heap.objs.size,upd H1 s1.heap.objs.size ?Aa,I1.laid (t':=?EH) (fun b u e=>?At) ?AC ?_,rfl,q _ hf⟩;exact⟨z,us,0,r,?Be⟩
end
abbrev Sp:=List V->Hp->VK->XK->Prop
abbrev CXT:=List Env->Hp->Shared->XK->Value->Shared->Prop
structure Env0 (P:?AA)(w:?A9)(K:?A0)(mg:?J)(base:Heap)(A:?BD)(outer:?D5)(s:?AN)(H:Hp):Prop where
 frames:A.frames=some outer
 mod:Mod K mg base
 bs:∀ b o,base.get? b=some o->s.heap.get? b=some o/\H b=none
 bsz:base.objs.size<=s.heap.objs.size
 funs:s.heap.FunFrames base outer
 frf:∀ b∈frs outer,H b=none
 hok:HOk P w H s.heap
 bare:AllBare s.gens
def CE (outer:?D5)(P:?AA)(w:?A9)(H:Hp)(s:?AN)(Q:VK)(u:?AJ)(s':?AN):Prop:=
 ∃ v H',s'.os=s.os/\AllBare s'.gens/\Un (frs outer) [] H H' s.heap s'.heap/\HOk P w H' s'.heap/\YX v u/\Q v H'
def CR (CX:CXT)(outer:?D5)(P:?AA)(w:?A9)(H:Hp)(s:?AN)(Q:VK)(E:XK)(r:Result)(s':?AN):Prop:=
 match r with
 |.ok (.ret u)=>CE outer P w H s Q u s'
 |.ok _=>False
 |.error e=>CX outer H s E e s'
structure FnOk (P:?AA)(w:?A9)(K:?A0)(mg:?J)(base:Heap)(CX:CXT)(k:Nat)(f:Addr)(fd:?DW)(ps:?A1)(sp:Sp):Prop where
 len:∀ vs H Q E,sp vs H Q E->vs.length=ps.length
 run:∀ (A:Around) (outer:List Env) (s:Shared) (H:Hp) (args:Args) (us:List Value) (vs:List V) (Q:VK) (E:XK),Room k A->Env0 P w K mg base A outer s H->BindsTo s fd args ?DX->qj vs us->sp vs H Q E->
  codeAny ?BV A (.call ?Am args) (CR CX outer P w H s Q E) s
theorem Env0.make {P:?AA}{w:?A9}{K:?A0}{mg:?J}{base:Heap}{A:?BD}{outer:?D5}{s:?AN}{H:Hp}(e:?LX)(C:Addr)(us:?AY)(kw:?wY) :
  Env0 P w K mg base ?vX outer s H:=⟨by first|exact e.frames|(simpa [Around.under,Code.envs,Code.isFrame,pushEnvs] using e.frames),e.mod,e.bs,e.bsz,e.funs,e.frf,e.hok,e.bare⟩
section
theorem Inv.env0 (I:?A6):Env0 X.prog X.w X.K X.mg X.base X.A X.stack s H:=
 ⟨I.ok.frames,I.ok.mod,I.bs,yz I.ok.bsz I.sz,I.stack,I.stkFree,I.hok,?Dg⟩
theorem Inv.after(I:?A6)(h:CE X.stack X.prog X.w H s Q u s'):EP X pins σ Q u s':=by
 obtain⟨v,H',os,bare,un,hok,r,q⟩:=h;obtain⟨hh,g,d,t,os'⟩:=s';obtain rfl:os'=s.os:=os;exact⟨v,H',I.call (h':=hh) (g':=g) (d':=d) (t':=t) (ch:=[]) un hok bare (fun b z=>absurd z (by simp)),r,q⟩
end
def Fk (sp:Sp)(dvs:?AL)(E:XK)(t:TA):TE:=fun σ H Q=>t σ H fun vs H1=>sp (vs++dvs) H1 Q E
def EF (C:Addr)(m:Str)(sp:Sp)(dvs:?AL)(E:XK)(ta:TE)(t:TA):TE:=fun σ H Q=>ta σ H fun x H1=>∃ a dx fs,x=.ref a/\H1 a=some ?Cu/\fs.lookup m=none/\
 t σ H1 fun vs H2=>sp (x::(vs++dvs)) H2 Q E
def Iq (C:Addr)(sp:Sp)(dvs:?AL)(E:XK)(t:TA):TE:=fun σ H Q=>t σ H fun vs H1=>∀ x dx,H1 x=none->H1 dx=none->dx≠x->
 sp (.ref x::(vs++dvs)) (upd (upd H1 dx (.own x)) x (.ins C dx [])) (fun v H2=>v=.non/\Q (.ref x) H2) E
def vf (K:?A0)(fd:?DW)(ps:?A1)(ds:?AY):Prop:=
 ∀ (s:Shared) (us:List Value),K.In s.heap->(us++ds).length=ps.length->BindsTo s fd ?jP (ps.zip (us++ds))
theorem vf.all {K:?A0}{fd:?DW}{ps:?A1}(h:∀ us:List Value,us.length=ps.length->bindArgs fd ?jP=pure ?DX):vf K fd ps []:=fun s us _ hl=>by
 rw[Yq] at hl ⊢;exact .of_eq (h us hl)
def ub (CX:CXT)(X:Cx)(E:XK):Prop:=∀ (pins:List (Addr×Obj)) (σ:St) (H:Hp) (s:Shared) (e:Value) (s':Shared),Inv X pins σ H s->CX X.stack H s E e s'->X.xe e s'
section
theorem iG(F:?EN)(hr:?Aw)(hb:?Ei)(hd:?FB)(hx:?F5)
  (I:?A6) (r:qj vs us) (h:sp (vs++dvs) H Q E):wpAny ?AF X.A (call ?Am us) ?Bj X.xe s:=by
 have r2:qj (vs++dvs) (us++ds):=r.append hd;have hl:(us++ds).length=ps.length:=by rw[←r2.length];exact F.len _ _ _ _ h
 refine wpAny_call (codeAny_mono (F.run X.A X.stack s H ?jP (us++ds) (vs++dvs) Q E hr I.env0 (hb s us I.kIn hl) r2 h) fun r s' hq=>?_);cases r with
 |error e=>exact hx pins σ H s e s' I hq
 |ok fl=>
  cases fl with
  |ret u=>exact I.after hq
  |next=>exact ?Jx
  |brk=>exact ?Jx
  |cont=>exact ?Jx
theorem Ds (F:?EN)(hr:?Aw)(hg:?Af)(hm:X.mg x=some ?Am)(hk:W.keepIn X.K ?Am=true)(hb:?Ei)(hd:?FB)(hx:?F5)
  (ha:?jE) (hdb:?L:=by decide) (he:?W:=by rfl) (hpl:?zD:=by rfl) :
  PE X ?yZ (Fk sp dvs E t):=by
 intro pins s σ H Q I h;refine ?Kr;refine W.callWith_K (h₀:=X.base) I.ok.mod.kin hk (thn ?Dl fun us s1 ⟨vs,H1,I1,r,q⟩=>⟨I1.kIn,?_⟩) he hpl;exact iG F hr hb hd hx I1 r q
theorem bH(he:PE X o ta)(c:?DR)(hm:Meth X.K C m f)(F:?EN)(hr:?Aw)(hb:?Ei)(hd:?FB)(hx:?F5)(ha:?jE)
  (hst:?W:=by rfl) (hpl:?zD:=by rfl)
  (ht:eval ?qE X.env=(do
   let ov ←eval o X.env
   standAt apos.atName
   let (f,first) ←holding [ov] (getMethod ov m pl)
   callWith pos f first ?kJ ?qD):=by rfl) :
  PE X ?qE (EF C m sp dvs E ta t):=by
 intro pins s σ H Q I h;refine W.methodCall_KW (pl:=pl) (thn ?DG fun u s1 ⟨x,H1,I1,rx,a,dx,fs,ex,ea,l,q⟩=>?_) ht;subst ex;obtain rfl:u=Value.ref a:=rx;refine Wx I1 ea c hm l ?_;refine W.callWith_K (first:=[.ref a]) (h₀:=X.base) I.ok.mod.kin hm.kp (thn (ha pos pins s1 σ H1 _ I1 q) fun us s2 ⟨vs,H2,I2,r,q2⟩=>⟨I2.kIn,?_⟩) hst hpl;exact iG (us:=.ref a::us) (vs:=.ref a::vs) F hr hb hd hx I2 (.cons rfl r) q2
theorem Xd(he:PE X o ta)(c:?DR)(hm:Meth X.K C m f)(F:?EN)(hr:?Aw)(hb:?Ei)(hd:?FB)(hx:?F5)
  (ht:eval ?qG X.env=(do
   let ov ←eval o X.env
   standAt apos.atName
   let (f,first) ←holding [ov] (getMethod ov m pl)
   callWith pos f first ?kW ?qD):=by rfl) :
  PE X ?qG (EF C m sp dvs E ta H0):=by
 intro pins s σ H Q I h;refine W.methodCall_KW (pl:=pl) (thn ?DG fun u s1 ⟨x,H1,I1,rx,a,dx,fs,ex,ea,l,q⟩=>?_) ht;subst ex;obtain rfl:u=Value.ref a:=rx;refine Wx I1 ea c hm l ?_;exact W.callWith_K0 (first:=[.ref a]) I1.kIn hm.kp (iG (us:=[.ref a]) (vs:=[.ref a]) F hr hb hd hx I1 (.cons rfl .nil) q)
structure Mk (K:?A0)(C f:Addr):Prop where
 makes:W.makesIn K C=true
 init:W.findIn K ?AM "__init__" = some ?DU
 fn:W.isFn K ?Am=true
 kp:W.keepIn K ?AM=true
theorem se(M:Mk X.K C f)(F:?EN)(hr:Room (k+1) X.A)(hb:?Ei)(hd:?FB)
  (hx:?F5) (I:?A6) (r:qj vs us)
  (h:∀ x dx,H x=none->H dx=none->dx≠x->sp (.ref x::(vs++dvs)) (upd (upd H dx (.own x)) x (.ins C dx [])) (fun v H2=>v=.non/\Q (.ref x) H2) E) :
  wpAny ?AF X.A (call ?AM us) ?Bj X.xe s:=by
 have hq:=h ?zK s.heap.objs.size (I.hok.fresh (Nat.le_succ _)) ?Bm (Yb ?Ji);have I2:=Inv.made (C:=C) I;have r2:qj (V.ref (s.heap.objs.size+1)::(vs++dvs)) (Value.ref (s.heap.objs.size+1)::(us++ds)):=.cons rfl (r.append hd);have hl:(Value.ref (s.heap.objs.size+1)::us++ds).length=ps.length:=by
  have e:=r2.length;rw[F.len _ _ _ _ hq] at e;exact e.symm
 refine wpAny_call (sY (f:=f) I.kIn M.makes M.init (beq_iff_eq.mp M.fn) (codeAny_mono (F.run _ X.stack _ _ ⟨Value.ref ?zK::us,[]⟩ (Value.ref ?zK::(us++ds)) _ _ E (hr.make C us [])
  (I2.env0.make C us []) (hb _ (Value.ref ?zK::us) I2.kIn hl) r2 hq) fun r s' hq'=>?_))
 cases r with
 |error e=>exact hx pins σ _ _ e s' I2 hq'
 |ok fl=>
  cases fl with
  |ret u=>
   obtain⟨v,H',I3,rv,ev,q3⟩:=I2.after hq';subst ev;exact⟨rv,⟨V.ref ?zK,H',I3,rfl,q3⟩⟩
  |next=>exact ?Jd
  |brk=>exact ?Jd
  |cont=>exact ?Jd
theorem lS (M:Mk X.K C f)(F:?EN)(hr:Room (k+1) X.A)(hg:?Af)(hm:X.mg x=some ?AM)(hb:?Ei)(hd:?FB)(hx:?F5)
  (ha:?jE) (hdb:?L:=by decide) (he:?W:=by rfl) (hpl:?zD:=by rfl) :
  PE X ?yZ (Iq C sp dvs E t):=by
 intro pins s σ H Q I h;refine ?Kr;refine W.callWith_K (h₀:=X.base) I.ok.mod.kin M.kp (thn ?Dl fun us s1 ⟨vs,H1,I1,r,q⟩=>⟨I1.kIn,?_⟩) he hpl;exact se M F hr hb hd hx I1 r q
end
section
end
structure FnScope (N P:?A1)(sc:?BH):Prop where
 kind:sc.kind=.function
 co:sc.isCoroutine=false
 gen:sc.isGenerator=false
 nd:N.Nodup
 pre:N.take P.length=P
 par:∀ x∈P,sc.names.lookup x=some .local∨sc.names.lookup x=some .cell
 nofree:∀ y∈sc.names,y.2≠.free
theorem qJ(kind:sc.kind=.function:=by rfl)(co:sc.isCoroutine=false:=by rfl)(gen:sc.isGenerator=false:=by rfl)(nd:N.Nodup:=by decide +kernel)(pre:N.take P.length=P:=by rfl)(par:∀ x∈P,sc.names.lookup x=some .local∨sc.names.lookup x=some .cell:=by decide +kernel)(nofree:∀ y∈sc.names,y.2≠.free:=by decide +kernel):FnScope N P sc:=⟨kind,co,gen,nd,pre,par,nofree⟩
theorem aa {kindOf:Str->Option NameKind}:∀ {binds:List (Str×Value)} {m:Str->Option Value},(∀ v,(x,v)∉binds)->bindL kindOf binds m x=m x
 |[],_,_=>rfl
 | (n,v)::r,m,h=>by
  unfold bindL;rw[aa fun w hw=>h w (ye _ hw)];split
  .have:x≠n:=by rintro rfl;exact h v yo
   simp[this]
  .rfl
theorem X5 {kindOf:Str->Option NameKind}:∀ {binds:List (Str×Value)} {m:Str->Option Value},(∀ v,(x,v)∉binds)->bindC kindOf binds m x=m x
 |[],_,_=>rfl
 | (n,v)::r,m,h=>by
  unfold bindC;rw[X5 fun w hw=>h w (ye _ hw)];split
  .rfl
  .have:x≠n:=by rintro rfl;exact h v yo
   simp[this]
theorem aq {kindOf:Str->Option NameKind}:∀ {P:List Str} {vs:List Value} {i:Nat} {m:Str->Option Value},P.Nodup->P[i]?=some x->vs[i]?=some v->kindOf x=some .local->
  bindL kindOf (P.zip vs) m x=some v
 |[],_,_,_,_,h,_,_=>by simp at h
 |_::_,[],_,_,_,_,h,_=>by simp at h
 |p::P,w::vs,0,m,nd,h1,h2,hk=>by
  simp at h1 h2;subst h1;subst h2;show bindL kindOf ((p,w)::P.zip vs) m p=_;unfold bindL;rw[aa fun v hv=>(?FC).1 (Qu hv).1,yc hk];simp
 |p::P,w::vs,i+1,m,nd,h1,h2,hk=>by
  show bindL kindOf ((p,w)::P.zip vs) m x=_;unfold bindL;exact aq (i:=i) (?FC).2 (by simpa using h1) (by simpa using h2) hk
theorem X6 {kindOf:Str->Option NameKind}:∀ {P:List Str} {vs:List Value} {i:Nat} {m:Str->Option Value},P.Nodup->P[i]?=some x->vs[i]?=some v->kindOf x≠some .local->
  bindC kindOf (P.zip vs) m x=some v
 |[],_,_,_,_,h,_,_=>by simp at h
 |_::_,[],_,_,_,_,h,_=>by simp at h
 |p::P,w::vs,0,m,nd,h1,h2,hk=>by
  simp at h1 h2;subst h1;subst h2;show bindC kindOf ((p,w)::P.zip vs) m p=_;unfold bindC;rw[X5 fun v hv=>(?FC).1 (Qu hv).1,yd hk];simp
 |p::P,w::vs,i+1,m,nd,h1,h2,hk=>by
  show bindC kindOf ((p,w)::P.zip vs) m x=_;unfold bindC;exact X6 (i:=i) (?FC).2 (by simpa using h1) (by simpa using h2) hk
def start (N:?A1)(vs:?AL):St:=vs.map some++List.replicate (N.length - vs.length) none
def WM (CX:CXT)(P:?AA)(w:?A9)(K:?A0)(mg:?J)(base:Heap)(N:?A1)(qual:Str)(scope:?BH)(f:Addr)(cd:?AJ)(A:?BD)(outer:?D5)(s:?AN)(H:Hp)(E:XK):Cx where
 prog:=P
 w:=w
 K:=K
 mg:=mg
 base:=base
 A:=A.deeper ?EO
 N:=N
 s₀:=s
 H₀:=H
 env:=envOfC qual scope s.heap.objs.size f cd
 outer:=outer
 stack:=envOfC qual scope s.heap.objs.size f cd::outer
 ex:=[]
 calm:=true
 fn:=fun _=>true
 pn:=[]
 xe:=fun e s'=>wpAny ?BV (A.deeper ?EO) (leaving ?EO e) (fun _ s''=>CX outer H s E e s'') (fun e' s''=>CX outer H s E e' s'') s'
theorem fW {sc:?BH}{n:Nat}{x:Str}(h:sc.names.lookup x=some .cell):∃ c,(cellsFrom n sc.names []).lookup x=some c:=by
 have q:=W.cellsFrom_some sc.names n [] (.inl h);exact Jy.mp q
theorem re {CX:CXT}{P:?AA}{w:?A9}{K:?A0}{mg:?J}{base:Heap}{N ps:?A1}{qual:Str}{scope:?BH}{f:Addr}{cd:?AJ}{A:?BD}{outer:?D5}{s s1:?AN}{H:Hp}{E:XK}{us:?AY}{vs:?AL}
  (S:FnScope N ps scope) (hd:?yJ) (e0:?LX) (hl:vs.length=ps.length) (r:qj vs us)
  (x:InCallC s s.heap.objs.size (bindL (?EO).kindOf ?DX fun _=>none) (cellsFrom ?zK scope.names []) (bindC (?EO).kindOf ?DX fun _=>none) s1) :
  Inv ?I1 [] ?E7 H s1:=by
 have hpl:ps.length<=N.length:=by have:=congrArg List.length S.pre;rw[Yh] at this;lia
 obtain⟨h1,tk,rfl,hk⟩:=x.done;have noA:∀ b:Addr,b∉(?I1).ex:=fun b z=>absurd (show b∈([]:?B9) from z) (by simp);refine⟨⟨e0.mod,S.kind,rfl,rfl,yg _,fun y z c h1 h2=>?_,fun y hy=>?_,fun y c _ h=>?_,fun _=>hd,Around.frames_deeper e0.frames,.inr ?CV,fun b z=>absurd z (noA b),e0.bs,e0.bsz,fun b _ _=>noA b,fun b z=>absurd z (noA b),e0.funs,e0.frf⟩,
  rfl,e0.bare,Un.kept hk,⟨_,x.toInCall.ns,fun i y v h1 h2 h3=>?_⟩,fun y c h=>⟨_,x.cell y c h⟩,e0.hok.fresh ?AC,fun y c h=>?_,fun p hp=>absurd (show p∈([]:?zF) from hp) (by simp),e0.hok.kept hk,?_⟩
 .exact name_of_addr x.apart (PySem.mem_of_lookup h1) (PySem.mem_of_lookup h2)
 .have hy:scope.names.lookup y=some .cell∨scope.names.lookup y=some .free:=hy;rcases hy with hy|hy
  .exact fW hy
  .exact absurd rfl (S.nofree _ (PySem.mem_of_lookup hy))
 .exact ?LD
 .have hi:i<vs.length:=by
   unfold start at h2;by_cases hi:i<vs.length
   .exact hi
   .rw[qO (by simpa using hi)] at h2;rw[ja] at h2;split at h2 <;> cases h2
  have ha:vs[i]?=some v:=by
   unfold start at h2;rw[qZ (by simpa using hi),yC] at h2;cases e:vs[i]? with
   |none=>rw[e] at h2;cases h2
   |some a=>rw[e] at h2;cases h2;rfl
  obtain⟨u,hu,rv⟩:=r.get ha;have hp:ps[i]?=some y:=by
   rw[←S.pre,List.getElem?_take_of_lt ?A];exact h1
  have ndP:ps.Nodup:=by rw[←S.pre];exact S.nd.sublist (qF _ _)
  refine⟨u,rv,?_⟩;rcases S.par y (yr hp) with k|k
  .exact .inl ⟨k,aq ndP hp hu k⟩
  .obtain⟨c,e⟩:=fW (n:=?zK) k;refine .inr ⟨.inl k,c,e,?_⟩;have q:=x.cell y c e;rw[X6 ndP hp hu (by show scope.names.lookup y≠_;rw[k];decide)] at q;exact q
 .exact e0.hok.fresh ?LD
 .unfold start;show _=N.length;rw[yI,yf,QS];lia
theorem Hw {CX:CXT}{P:?AA}{w:?A9}{K:?A0}{mg:?J}{base:Heap}{k:Nat}{f:Addr}{name qual:Str}{params:Arguments}{body:?BM}{scope:?BH}{dV kV doc pm cdv ct oc:?AJ}{an od:?Es}
  {osl:?EY} {N ps:?A1} {sp:Sp} (lk:K.lookup f=some ⟨oc,od,.func ?KU,osl⟩) (hcd:W.codeIn K cdv qual=true) (S:FnScope N ps scope)
  (len:∀ vs H Q E,?wV)
  (hbody:∀ (A:Around) (outer:List Env) (s:Shared) (H:Hp) (vs:List V) (Q:VK) (E:XK),Room k (A.deeper (envOfC qual scope s.heap.objs.size f cdv))->sp vs H Q E->
   ∃ t,PSs ?Kb body t/\t {nx:=fun _ H'=>?Ay,rt:=Q} ?E7 H) :
  FnOk P w K mg base CX (k+1) f ?KU ps sp:=by
 refine⟨len,fun A outer s H args us vs Q E hr e0 hb r hsp=>?_⟩;have hl:=len _ _ _ _ hsp;have KX:K.In s.heap:=e0.mod.kin.keeps fun b o e=>(e0.bs b o e).1;have lim:s.heap.NoLimit:=e0.mod.nolimit.keeps fun b o e=>(e0.bs b o e).1;have hkind:∀ y∈ps.zip us,scope.names.lookup y.1=some .local∨(scope.names.lookup y.1=some .cell/\((cellsFrom ?zK scope.names []).lookup y.1).isSome=true):=fun⟨n,v⟩ hy=>by
  rcases S.par n (Qu hy).1 with q|q
  .exact ?Ck
  .exact .inr ⟨q,W.cellsFrom_some _ _ _ ?Ck⟩
 refine codeAny_call_function hr.depth (KX _ _ lk) rfl S.co S.gen rfl (W.codeRec_of KX hcd) (hb _ _ _ _ ?_);refine wpAny_newFunctionEnv_cells S.kind hkind fun env he s1 x=>?_;subst he;refine⟨lim.keeps x.toInCall.keep,codeAny_func ?_⟩;obtain⟨t,ht,hq⟩:=hbody A outer s H vs Q E (hr.deeper _) hsp;have I:Inv (WM CX P w K mg base N qual scope f cdv A outer s H E) [] (start N vs) H s1:=re S hr.hd e0 hl r x;refine Y7 (ht [] s1 ?E7 H _ I hq) (fun fl s' hs=>?_) fun e s' hs=>hs;have fin:∀ {σ':St} {H':Hp} {v:V} {u:Value},Inv ?Kb [] σ' H' s'->YX v u->Q v H'->CE outer P w H s Q u s':=
  fun {σ' H' v u} J rv q=>⟨v,H',J.os,J.bare,J.base,J.hok,rv,q⟩
 cases fl with
 |ret u=>
  obtain⟨v,σ',H',J,rv,q⟩:=hs;exact fin J rv q
 |next=>
  obtain⟨σ',H',J,q⟩:=hs;exact fin (v:=V.non) (u:=Value.none) J rfl q
 |brk=>
  obtain⟨_,_,_,q⟩:=hs;exact False.elim q
 |cont=>
  obtain⟨_,_,_,q⟩:=hs;exact False.elim q
section
variable {X:Cx}{x:Str}{p pos:Pos}{e:Expr}{es:?Ai}{t:TA}{id T:?Ch}{r:List V->Hp->VK->Prop}
def tCB (r:List V->Hp->VK->Prop)(t:TA):TE:=fun σ H Q=>t σ H fun vs H1=>r vs H1 Q
theorem tF (hc:Ve X ?Cx r)(hg:?Af)(hm:?jN)(hv:bootBuiltins x=some ?Cx)(ha:?jE)(hn:?jA :=by decide)(hdb:?L:=by decide)
  (he:?W:=by rfl) (hpl:?zD:=by rfl):PE X ?yZ (tCB r t):=by
 intro pins s σ H Q I h;refine ?Kg;exact PyProof.Rows.callWith_builtin1 (thn ?Dl fun us s1 ⟨vs,H1,I1,r1,q1⟩=>?L5) he hpl
theorem U8 (hc:Ve X ?FL r)(hg:?Af)(hm:?jN)(hv:bootBuiltins x=some ?FL)(ha:?jE)(hn:?jA :=by decide)(hdb:?L:=by decide)
  (he:?W:=by rfl) (hpl:?zD:=by rfl):PE X ?yZ (tCB r t):=by
 intro pins s σ H Q I h;refine ?Kg;exact PyProof.Rows.callWith_type1 (thn ?Dl fun us s1 ⟨vs,H1,I1,r1,q1⟩=>?L5) he hpl
end
end L2
namespace HT
open PySem PyProof.Rows
section
open PySem.SeqAt
open PySem.AutoSeq1 (wpAny_loadPart')
open PySem.MeetsSeq PySem.MeetsSeq2 PySem.MeetsSeq3
end
section
theorem D3(ht:IsTup s.heap t vs.toArray)(hb:IsTup s.heap b ws.toArray)(hv:vs≠[])
  (h1:ws=[]->Q (.ref t) s) (h2:ws≠[]->Q (.ref s.heap.objs.size) {s with heap:=s.heap.push {cls:=.type "tuple", data:=.seq (vs++ws).toArray}})
  (hsz:vs.length+ws.length<=sizeLine):wpAny (model prog w) A (binaryOp .Add (.ref t) (.ref b)) Q E s:=by
 obtain⟨⟨cls,dd,data,sl⟩,ho,hc,n,hd⟩:=id ht;obtain⟨⟨cls2,dd2,data2,sl2⟩,ho2,hc2,n2,hd2⟩:=id hb;simp only at hc hd hc2 hd2;subst hc hd hc2 hd2;have e:vs.toArray++ws.toArray=(vs++ws).toArray:=by simp
 by_cases hw:ws=[]
 .exact concat_meets ⟨_,ho,rfl⟩ ⟨_,ho2,rfl⟩ noFill_tuple_add seq_tuple_add PySem.F.slot_tuple_add PySem.F.entry_tuple_add (PySem.F.args_tuple_add_2 _ _)
   (tuple_addW1 t b vs.toArray ws.toArray n n2 dd dd2 sl sl2 (by simpa using hv) (by simp[hw])) ⟨ho,ho2,h1 hw⟩
 .refine concat_meets ⟨_,ho,rfl⟩ ⟨_,ho2,rfl⟩ noFill_tuple_add seq_tuple_add PySem.F.slot_tuple_add PySem.F.entry_tuple_add (PySem.F.args_tuple_add_2 _ _)
   (tuple_addW2 t b vs.toArray ws.toArray n n2 dd dd2 sl sl2 (by simpa using hv) (by simpa using hw) (by rw[yP,yP];exact hsz)) ⟨ho,ho2,?_⟩
  rw[e];exact h2 hw
def sIx (n d:Nat):Option Int->Nat
 |none=>d
 |some v=>if v<0 then (v+(n:Int)).toNat else min v.toNat n
theorem dI (n d:Nat):sIx n d none=d:=rfl
theorem CP (n d k:Nat):sIx n d (some (k:Int))=min k n:=by
 show(if (k:Int)<0 then ((k:Int)+(n:Int)).toNat else min (k:Int).toNat n)=min k n;rw[yd (by lia),qG]
theorem FB (n d:Nat)(hd:d<=n)(o:?B7):sIx n d o<=n:=by
 cases o with
 |none=>exact hd
 |some v=>
  show(if v<0 then (v+(n:Int)).toNat else min v.toNat n)<=n;by_cases hv:v<0
  .rw[yc hv];lia
  .rw[yd hv];exact Nat.min_le_right _ _
theorem cT (v:Int)(n d:Nat):(if v<0 then max (v+(n:Int)) 0 else min v (n:Int))=((sIx n d ?Cf:Nat):Int):=by
 show(if v<0 then max (v+(n:Int)) 0 else min v (n:Int))=(((if v<0 then (v+(n:Int)).toNat else min v.toNat n):Nat):Int)
 by_cases hv:v<0
 .simp only[yc hv];lia
 .simp only[yd hv];lia
theorem gL (lo hi:?B7)(n:Nat):Builtin.Slice.sliceAdjust lo hi 1 (n:Int)=(((sIx n 0 lo:Nat):Int),((sIx n n hi:Nat):Int)):=by
 have h1:¬ ((1:Int)<0):=by lia
 unfold Builtin.Slice.sliceAdjust;simp only[h1,if_false];refine Prod.ext ?_ ?_
 .cases lo with
  |none=>rfl
  |some v=>exact cT v n 0
 .cases hi with
  |none=>rfl
  |some v=>exact cT v n n
theorem lB (i j:Nat):Builtin.Slice.slicePlaces (i:Int) (j:Int) 1=j - i:=by
 unfold Builtin.Slice.slicePlaces;have h1:(1:Int) > 0:=by lia
 simp only[h1,if_true,Int.ediv_one];split <;> lia
theorem xf {o:?B7}{Q:Option Int->Shared->Prop}(p:IsPart v o)(h:Q o s):wpAny ?AG A (Builtin.Slice.slicePartIndex v) Q E s:=by
 cases p with
 |none=>exact slicePart_none h
 |int i t=>exact slicePart_int h
theorem Vp {lo hi:?B7}{n:Nat}{Q:Int×Int×Nat->Shared->Prop}(hs:?I7)(pl:IsPart vl lo)(pu:IsPart vu hi)
  (h:Q (((sIx n 0 lo:Nat):Int),1,sIx n n hi - sIx n 0 lo) s):wpAny ?AG A (Builtin.Slice.sliceApplied (.ref sl) (pure (n:Int))) Q E s:=by
 obtain⟨os,hos,hcs,hds⟩:=id hs;unfold Builtin.Slice.sliceApplied Builtin.Slice.sliceFields;refine ya (ya (y4 hos hds (x:=vl) rfl (ya (y4 hos hds (x:=vu) rfl (ya (y4 hos hds (x:=?Ab) rfl (ym ?_)))))));refine ya (slicePart_none ?_);show wpAny _ _ (if ((1:Int)==0)=true then _ else _) _ _ s;rw[yd (by decide)];refine ya (xf pl (ya (xf pu (ya (ym ?_)))));show wpAny _ _ (match Builtin.Slice.sliceAdjust lo hi 1 (n:Int) with|(lo,hi)=>pure (lo,(1:Int),Builtin.Slice.slicePlaces lo hi 1)) _ _ s;rw[gL lo hi n];show wpAny _ _ (pure (((sIx n 0 lo:Nat):Int),(1:Int),Builtin.Slice.slicePlaces ((sIx n 0 lo:Nat):Int) ((sIx n n hi:Nat):Int) 1)) _ _ s;rw[lB];exact ym h
theorem Br (xs:?BL)(i k:Nat):((?Cs).filterMap fun (m:Nat)=>xs[((i:Int)+(m:Int)*1).toNat]?).toArray=((xs.toList.drop i).take k).toArray:=by
 have e:(fun (m:Nat)=>xs[((i:Int)+(m:Int)*1).toNat]?)=fun m=>xs[i+m]?:=by
  funext m;have:((i:Int)+(m:Int)*1).toNat=i+m:=by lia
  rw[this]
 rw[e];have:=pick_run xs i k;rw[List.filterMap_map] at this;have e2:((fun x=>xs[x]?) ∘ fun x=>i+x)=fun m=>xs[i+m]?:=rfl;rw[e2] at this;rw[this]
theorem uW {items:?BL}{lo hi:?B7}{Q:?zA}(ht:IsTup s.heap t items)(hs:?I7)(pl:IsPart vl lo)(pu:IsPart vu hi)
  (hw:¬ (sIx items.size 0 lo=0/\sIx items.size items.size hi=items.size))
  (h:Q ?Eo {s with heap:=s.heap.push {cls:=?zQ, data:=.seq ((?Ko).take ?xX).toArray}})
  (hsz:items.size<=sizeLine):wpAny ?AG A ?La Q E s:=by
 have htake:sizeOk (.seq ((items.toList.drop (sIx items.size 0 lo)).take (sIx items.size items.size hi - sIx items.size 0 lo)).toArray):=by
  show((?Ko).take ?xX).toArray.size<=sizeLine;rw[yP,Yh,Qx,Array.length_toList];lia
 have hj:sIx items.size items.size hi<=items.size:=FB _ _ ?AC hi;obtain⟨os,hos,hcs,hds⟩:=id hs;have hTs:s.TypeIs (.ref sl) "slice" := ⟨os,hos,hcs⟩
 unfold getItem
 try with_reducible refine YG ?_
 first|refine ya (ym ?_)|skip
 refine ya (wpAny_sequenceKey ht.typeIs ?B ?_);refine ya (YN (name:=Str.ofString "__getitem__") ht.typeIs PyProof.Rows.slot_tuple_getitem
  ?KJ)
 show wpAny _ _ (Builtin.Tuple.tupleItemsOf (.ref t) >>= _) _ _ s;refine ya (tupleItemsOf_ ht ?_);refine ya (wpAny_typeOf hTs ?_);rw[yc (by decide)];refine ya (Vp hs pl pu ?_);have hno:¬ ((((sIx items.size 0 lo:Nat):Int)==0&&(1:Int)==1&&(sIx items.size items.size hi - sIx items.size 0 lo)==items.size)=true):=by
  intro q;rw[Yg,Yg] at q;have q1:((sIx items.size 0 lo:Nat):Int)=0:=eq_of_beq q.1.1;have q2:sIx items.size items.size hi - sIx items.size 0 lo=items.size:=eq_of_beq q.2;exact hw ⟨?A,?A⟩
 show wpAny _ _ (if (((sIx items.size 0 lo:Nat):Int)==0&&(1:Int)==1&&?xX==items.size)=true then _ else _) _ _ s;rw[yd hno,Br]
 first
  |exact ya (m:=?GV) (qE ?Gj htake)
  |exact ya (m:=?GV) (qE (ya (ym ?Gj)) htake)
  |exact ya (ya (m:=?GV) (qE (ym ?Gj) htake))
  |exact ya (ya (m:=?GV) (qE ?Gj htake))
end
end HT
namespace L2
open PySem PySem.Spec PyProof.Rows
abbrev TO:=St->Hp->(Option Int->Hp->Prop)->Prop
def PO (X:Cx)(e:?Cv)(t:TO):Prop:=
 ∀ (pins:List (Addr×Obj)) (s:Shared) (σ:St) (H:Hp) (Q:Option Int->Hp->Prop),Inv X pins σ H s->t σ H Q->
  wpAny ?AF X.A (evalPart e X.env) (fun u s'=>∃ o H',Inv X pins σ H' s'/\IsPart u o/\Q o H') X.xe s
def CT:TO:=fun _ H Q=>Q none H
def HW (t:TE):TO:=fun σ H Q=>t σ H fun x H1=>∃ i,x=.int i/\Q (some i) H1
theorem iC {ns:?CZ}:∀ {us:List Value},qj ?C4 us->IntsAre us ns:=by
 induction ns with
 |nil=>intro us r;rw[Q6] at r;cases r;exact .nil
 |cons n ns ih=>
  intro us r;rw[yD] at r;cases r with
  |cons r1 r2=>
   obtain⟨t,e⟩:=r1;subst e;exact .cons n t (ih r2)
section
variable {X:Cx}{e:Expr}{te:TE}{lo hi:?Cv}{tl th:TO}{pos p2:Pos}
theorem mD:PO X none CT:=by
 intro pins s σ H Q I h;rw[evalPart_none];exact ym ⟨none,H,I,?Ab,h⟩
theorem Wk (h:?E3):PO X ?D8 (HW te):=by
 intro pins s σ H Q I hw;rw[evalPart_some];refine thn (h pins s σ H _ I hw) fun u s1 ⟨x,H1,I1,r1,q1⟩=>?_;obtain⟨i,rfl,q⟩:=q1;obtain⟨t,rfl⟩:=r1;exact⟨some i,H1,I1,.int i t,q⟩
def SlR (X:Cx)(r:?jS):Prop:=
 ∀ (pins:List (Addr×Obj)) (s:Shared) (σ:St) (H:Hp) (x:V) (v vl vu:Value) (lo hi:Option Int) (sl:Addr) (Q:VK),Inv X pins σ H s->YX x v->s.heap.IsSliceOf sl vl vu .none->IsPart vl lo->IsPart vu hi->r x lo hi H Q->
  ∃ T id,typeLookup ?FL "__getitem__" = pure (some ?Cx)/\s.TypeIs v T/\wpAny ?AF X.A (getItem v (.ref sl)) ?Bj X.xe s
def tSl (r:?jS)(te:TE)(tl th:TO):TE:=fun σ H Q=>te σ H fun x H1=>tl σ H1 fun l H2=>th σ H2 fun u H3=>r x l u H3 Q
theorem kQ {r:?jS}(hr:SlR X r)(he:?E3)(hl:PO X lo tl)(hu:PO X hi th):PE X (.Subscript e ?If pos) (tSl r te tl th):=by
 intro pins s σ H Q I h;refine Subscript_ (thn ?DG fun v s1 ⟨x,H1,I1,r1,q1⟩=>?_);refine wpAny_Slice (thn (hl pins s1 σ H1 _ I1 q1) fun vl s2 ⟨l,H2,I2,pl,q2⟩=>thn (hu pins s2 σ H2 _ I2 q2) fun vu s3 ⟨u,H3,I3,pu,q3⟩=>?_);rw[evalPart_none];refine ym ?_;have I4:Inv X pins σ H3 {s3 with heap:=?xL}:=I3.kept (t':=s3.toks) fun b ob q=>yh _ q;obtain⟨T,id,hT,ht,hg⟩:=hr pins {s3 with heap:=?xL} σ H3 x v vl vu l u s3.heap.objs.size Q I4 r1 (Heap.IsSliceOf.new ..) pl pu q3;show wpAny ?AF X.A (subscriptTail e ?If v (.ref s3.heap.objs.size)) ?Bj X.xe {s3 with heap:=?xL};exact tail_any (ops:=[.ref s3.heap.objs.size,v]) ht hT hg (by with_unfolding_all rfl)
def gc (xs:?AL)(lo hi:?B7):?AL:=(xs.drop ?IZ).take ?xR
theorem wE (xs:?AL)(lo hi:?B7):(?Er).length<=xs.length:=by
 unfold gc;rw[Yh,Qx];lia
def Lu (K:?A0):?jS:=fun x lo hi H Q=>∃ a xs,x=.ref a/\SqT K H a xs/\
 ¬ (HT.sIx xs.length 0 lo=0/\HT.sIx xs.length xs.length hi=xs.length)/\∀ p,H p=none->Q ?Bd (upd H p (.tup ?Er))
theorem G2:SlR X (Lu X.K):=by
 intro pins s σ H x v vl vu lo hi sl Q I rx hs pl pu h;obtain⟨a,xs,rfl,hx,hw,q⟩:=h;cases rx;obtain⟨its,r,ht,hz⟩:=I.tuple hx;have hlen:its.toArray.size=xs.length:=by rw[yP];exact r.length.symm
 refine⟨"tuple", _,?Kt,ht.typeIs,?_⟩;refine HT.uW ht hs pl pu (by rw[hlen];exact hw) ?_ (by rw[hlen];exact hz);rw[hlen];refine⟨.ref s.heap.objs.size,_,I.laid (t':=?Ag) (o:=.tup ?Er) (fun b ob q=>?CI) ?AC ?_,rfl,q _ ?Bm⟩;exact⟨yz (wE xs lo hi) hz,_,(r.drop ?IZ).take ?xR,?Jo⟩
def IG (K:?A0):R2:=fun x y H Q=>∃ a b xs ys,x=.ref a/\y=.ref b/\SqT K H a xs/\SqT K H b ys/\xs≠[]/\xs.length+ys.length<=sizeLine/\
 (ys=[]->Q ?AI H)/\(ys≠[]->∀ p,H p=none->Q ?Bd (upd H p (.tup (xs++ys))))
theorem qj.nil_iff(r:qj xs us):us=[] ↔ xs=[]:=by
 cases r with
 |nil=>simp
 |cons _ _=>simp
theorem Eu:OpR X ?HQ (IG X.K):=by
 intro pins s σ H x y v u Q I rx ry h;obtain⟨a,b,xs,ys,rfl,rfl,ha,hb,hx,hz,q1,q2⟩:=h;cases rx;cases ry;obtain⟨its,r1,p1,_⟩:=I.tuple ha;obtain⟨its2,r2,p2,_⟩:=I.tuple hb;refine HT.D3 p1 p2 (fun z=>hx (r1.nil_iff.mp z)) (fun z=>⟨.ref a,H,I,rfl,q1 (r2.nil_iff.mp z)⟩) (fun z=>?_) (by rw[←r1.length,←r2.length];exact hz);refine⟨.ref s.heap.objs.size,_,I.laid (t':=?Ag) (o:=.tup (xs++ys)) (fun b ob q=>?CI) ?AC ?_,rfl,q2 (fun w=>z (r2.nil_iff.mpr w)) _ ?Bm⟩;exact⟨by rw[yI];exact hz,_,r1.append r2,?Jo⟩
end
def ixN (n:Nat)(i:Int):Option Nat:=if 0<=i then (if i<n then some i.toNat else none) else if -(n:Int)<=i then some (i+n).toNat else none
def atI(xs:?B4)(i:Int):Option α:=(ixN xs.length i).bind fun j=>xs[j]?
theorem oE {i:Int}(h:ixN n i=some j):seqIndex? i n=some j/\j<n/\-(n:Int)<=i/\i<n:=by
 unfold ixN at h;by_cases h0:0<=i
 .rw[yc h0] at h;by_cases h1:i<n
  .rw[yc h1] at h;have e:i.toNat=j:=Option.some.inj h;exact⟨by rw[seqIndex_of h0 h1,e],by lia,by lia,h1⟩
  .rw[yd h1] at h;cases h
 .rw[yd h0] at h;by_cases h1:-(n:Int)<=i
  .rw[yc h1] at h;have e:(i+n).toNat=j:=Option.some.inj h;exact⟨by rw[seqIndex_neg (by lia) h1,e],by lia,h1,by lia⟩
  .rw[yd h1] at h;cases h
theorem b7 {i:Int}(h:atI xs i=some v):∃ j,seqIndex? i xs.length=some j/\xs[j]?=some v/\j<xs.length/\-(xs.length:Int)<=i/\i<xs.length:=by
 unfold atI at h;cases e:ixN xs.length i with
 |none=>rw[e] at h;cases h
 |some j=>
  rw[e] at h;obtain⟨h1,h2,h3,h4⟩:=oE e;exact⟨j,h1,h,h2,h3,h4⟩
theorem Jo {α:Type}{xs:?B4}{j:Nat}{v:α}(h:xs[j]?=some v):atI xs (j:Int)=some v:=by
 have hj:j<xs.length:=(?FE).1;have e:ixN xs.length (j:Int)=some j:=by
  unfold ixN;rw[yc (by lia),yc ?A];simp
 unfold atI;rw[e];exact h
def V0 (b:Expr):Prop:=∀ o i,subscripted b false o i=operate [o,i] (getItem o i)
def IxR (X:Cx)(r:R2):Prop:=
 ∀ (value slice:Expr) (pins:List (Addr×Obj)) (s:Shared) (σ:St) (H:Hp) (x y:V) (v u:Value) (Q:VK),Inv X pins σ H s->YX x v->YX y u->r x y H Q->
  subscripted slice false v u=operate [v,u] (getItem v u)->wpAny ?AF X.A (subscriptTail value slice v u) ?Bj X.xe s
def MtR (X:Cx)(id:?Ch)(r:?wF):Prop:=
 ∀ (pins:List (Addr×Obj)) (s:Shared) (σ:St) (H:Hp) (x:V) (xs:List V) (v:Value) (us:List Value) (Q:VK),Inv X pins σ H s->YX x v->qj xs us->r x xs H Q->
  wpAny ?AF X.A (call ?Cx (v::us)) ?Bj X.xe s
section
variable {X:Cx}{a b:Expr}{ta tb:TE}{pos:Pos}
theorem nQ(hr:IxR X r)(ha:?CA)(hb:?DQ)(hs:V0 b):PE X ?Dq ?Hc:=by
 intro pins s σ H Q I h;exact Subscript_ (GA ha hb I h fun v u s2 x y H2 I2 rx ry q=>hr a b pins s2 σ H2 x y v u Q I2 rx ry q (hs _ _))
def LG (K:?A0):R2:=fun x y H Q=>∃ p xs i v,x=.ref p/\y=.int i/\SqL K H p xs/\atI xs i=some v/\Q v H
def LL (K:?A0):R2:=fun x y H Q=>∃ p xs i v,x=.ref p/\y=.int i/\SqT K H p xs/\atI xs i=some v/\Q v H
def LJ:R2:=fun x y H Q=>∃ z i c,x=.str z/\y=.int i/\z.length<=sizeLine/\atI z.cps.toList i=some c/\Q (.str ?zS) H
theorem Ua:IxR X (LG X.K):=by
 intro value slice pins s σ H x y v u Q I rx ry h hs;obtain⟨p,xs,i,z,rfl,rfl,hq,he,q⟩:=h;cases rx;obtain⟨t,rfl⟩:=ry;obtain⟨its,r,pl,hz⟩:=I.list hq;obtain⟨j,h1,h2,h3,h4,h5⟩:=b7 he;obtain⟨w,ew,rw'⟩:=r.get h2;have hl:=r.length;have hn:=UK;have fin:EP X pins σ Q w s:=⟨z,H,I,rw',q⟩
 by_cases h0:0<=i
 .have hj:i.toNat=j:=by
   rw[seqIndex_of h0 h5] at h1;exact ?Fe
  exact item_listR pl.isList h0 ?A (by rw[hj];simpa using ew) fin hs
 .have hj:(i+(its.toArray.size:Int)).toNat=j:=by
   rw[seqIndex_neg (by lia) h4] at h1;rw[yP,←hl];exact ?Fe
  exact subscriptTail_builtinR (x:=w) pl.isList.typeIs slot_list_getitem.lookup
   (wpAny_getItem_list_neg (Q:=fun r s'=>r=w/\EP X pins σ Q r s') pl.isList ?A (by rw[yP] <;> lia) ?A (by rw[hj];simpa using ew) ⟨rfl,fin⟩) hs
theorem GN:IxR X (LL X.K):=by
 intro value slice pins s σ H x y v u Q I rx ry h hs;obtain⟨p,xs,i,z,rfl,rfl,hq,he,q⟩:=h;cases rx;obtain⟨t,rfl⟩:=ry;obtain⟨its,r,pl,hz⟩:=I.tuple hq;obtain⟨j,h1,h2,h3,h4,h5⟩:=b7 he;obtain⟨w,ew,rw'⟩:=r.get h2;have hl:=r.length;have hn:=UK;have fin:EP X pins σ Q w s:=⟨z,H,I,rw',q⟩
 exact subscriptTail_builtinR (x:=w) pl.typeIs slot_tuple_getitem.lookup
  (getItem_tuple (j:=j) (Q:=fun r s'=>r=w/\EP X pins σ Q r s') pl ?A ?A (by rw[yP,←hl];exact h1) (by simpa using ew) ⟨rfl,fin⟩) hs
theorem He:IxR X LJ:=by
 intro value slice pins s σ H x y v u Q I rx ry h hs;obtain⟨z,i,c,rfl,rfl,hz,he,q⟩:=h;obtain⟨t,rfl⟩:=rx;obtain⟨t',rfl⟩:=ry;obtain⟨j,h1,h2,h3,h4,h5⟩:=b7 he;have hl:z.cps.toList.length=z.length:=by simp[Str.length]
 rw[hl] at h1 h4 h5;have hn:=UK;exact tail_any (typeIs_str s z t) slot_str_getitem.lookup (getItem_str (c:=c) (by
  have e1:decide (i < -(2 ^ 63:Int))=false:=yu ?A;have e2:decide (i ≥ 2 ^ 63)=false:=yu ?A;rw[e1,e2,Bool.or_false]) (by rw[h1];simpa using h2) ⟨.str ?zS,H,?B3,?Bt,q⟩) hs
theorem gR (its:?AY)(n j:Nat)(u:?AJ):Obj.mapSeq (·.setIfInBounds j u) {cls:=?R, data:=?Dp}={cls:=?R, data:=.seq (its.set j u).toArray n}:=by
 simp[Obj.mapSeq]
theorem Inv.lst {pins:?zF}{σ:St}{H:Hp}{s:?AN}{p:Addr}{xs:?AL}(I:?A6)(h:H p=some ?Aa) :
  ∃ (its:List Value) (n:Nat),qj xs its/\s.heap.get? p=some {cls:=?R, data:=?Dp}/\xs.length<=sizeLine:=by
 obtain⟨z,its,n,r,e⟩:=I.hok p _ h;exact⟨its,n,r,e,z⟩
theorem Inv.lstUpd {pins:?zF}{σ:St}{H:Hp}{s:?AN}{p:Addr}{xs ys:?AL}{its its':?AY}{n n':Nat}{f:Obj->Obj}(I:?A6)(h:H p=some ?Aa)
  (ho:s.heap.get? p=some {cls:=?R, data:=?Dp}) (hf:f {cls:=?R, data:=?Dp}={cls:=?R, data:=.seq its'.toArray n'}) (r:qj ys its') (hz:ys.length<=sizeLine) (t:Nat) :
  Inv X pins σ (upd H p (.lst ys)) {s with heap:=s.heap.update p f,toks:=t}:=by
 have e:(s.heap.update p f).get? p=some {cls:=?R, data:=.seq its'.toArray n'}:=by
  rw[Heap.get?_update_self f ho (by rw[hf] <;> rfl),hf]
 refine I.write (x:=p) (e:=p) (by rw[h];trivial) ?A2 (fun b u hb q=>(Heap.get?_update_other _ _ (Ne.symm hb)).trans q) ?Dz ?_;exact⟨hz,its',n',r,e⟩
def HP:V->V->V->Hp->(Hp->Prop)->Prop:=fun o i v H Q=>∃ p xs k j,o=.ref p/\i=.int k/\H p=some ?Aa/\ixN xs.length k=some j/\Q (upd H p (.lst (xs.set j v)))
theorem Bp:G1 X HP:=by
 intro pins s σ H o i v ov iv u Q I ro ri rv h;obtain⟨p,xs,k,j,rfl,rfl,hp,hj,q⟩:=h;cases ro;obtain⟨t,rfl⟩:=ri;obtain⟨its,n,r,ho,hz⟩:=I.lst hp;obtain⟨h1,h2,h3,h4⟩:=oE hj;have hl:=r.length;have hn:=UK;have I':Inv X pins σ (upd H p (.lst (xs.set j v))) {s with heap:=s.heap.update p (Obj.mapSeq (·.setIfInBounds j u))}:=
  I.lstUpd hp ho (gR its n j u) (r.set rv j) (by rw[List.length_set];exact hz) s.toks
 by_cases h0:0<=k
 .have hk:k.toNat=j:=by
   rw[seqIndex_of h0 h4] at h1;exact ?Fe
  exact W.ki_setAt ho h0 ?A (by rw[yP,←hl];exact h4) (by rw[hk];exact⟨_,I',q⟩)
 .have hk:(k+(its.toArray.size:Int)).toNat=j:=by
   rw[seqIndex_neg (by lia) h3] at h1;rw[yP,←hl];exact ?Fe
  exact W.ki_setBack ho ?A (by rw[yP,←hl];exact h3) ?A (by rw[hk];exact⟨_,I',q⟩)
theorem nY (i:Int)(n d:Nat):max 0 (min (if i<0 then i+(n:Int) else i) (n:Int))=((HT.sIx n d (some i):Nat):Int):=by
 rw[←HT.cT];by_cases h:i<0
 .rw[yc h,yc h,Int.max_comm,Int.min_eq_left (Int.add_le_of_le_sub_right (by rw[Int.sub_self];exact yQ h))]
 .rw[yd h,yd h];exact Int.max_eq_right (Int.le_min.mpr ⟨Int.not_lt.mp h,Int.natCast_nonneg n⟩)
theorem c7 (lo hi:?B7)(n:Nat):(?IK).1=((HT.sIx n 0 lo:Nat):Int)/\(?IK).2.1=((HT.sIx n n hi:Nat):Int)/\(?IK).2.2=1:=by
 refine⟨?_,?_,rfl⟩
 .cases lo with
  |none=>rfl
  |some i=>exact nY i n 0
 .cases hi with
  |none=>rfl
  |some i=>exact nY i n n
theorem Xy (its:?AY)(lo hi:?B7):slicePick its.toArray lo hi none=((its.drop (HT.sIx its.length 0 lo)).take (HT.sIx its.length its.length hi - HT.sIx its.length 0 lo)).toArray:=by
 obtain⟨h1,h2,h3⟩:=c7 lo hi its.toArray.size;unfold slicePick;rw[h1,h2,h3];simp only[sliceRange_one,pick_run,yP] <;> rfl
def HY (K:?A0):?jS:=fun x lo hi H Q=>∃ a xs,x=.ref a/\SqL K H a xs/\∀ p,H p=none->Q ?Bd (upd H p (.lst ?Er))
theorem bV:SlR X (HY X.K):=by
 intro pins s σ H x v vl vu lo hi sl Q I rx hs pl pu h;obtain⟨a,xs,rfl,hx,q⟩:=h;cases rx;obtain⟨its,r,ht,hz⟩:=I.list hx;have hlen:=r.length;refine⟨"list", _,slot_list_getitem.lookup,ht.isList.typeIs,?_⟩;refine wpAny_getItem_list_slice ht.isList hs pl pu .none (by simp) ?_ (by rw[yP] <;> lia);rw[Xy,←hlen];refine⟨.ref s.heap.objs.size,_,I.laid (t':=?Ag) (o:=.lst ?Er) (fun b ob q=>?CI) ?AC ?_,rfl,q _ ?Bm⟩;exact⟨yz (wE xs lo hi) hz,_,0,(r.drop ?IZ).take ?xR,yF _ rfl⟩
theorem VN:Ve X (.builtin "len") (fun xs H Q=>∃ p ys,xs=[.ref p]/\(SqL X.K H p ys∨SqT X.K H p ys)/\Q ?Je H):=by
 intro pins s σ H xs us Q I r h;obtain⟨p,ys,rfl,hq,q⟩:=h;obtain⟨u,rfl,rx⟩:=uK r;cases rx;have hn:=UK;rcases hq with hq|hq
 .obtain⟨its,r',pl,hz⟩:=I.list hq;have hlen:=r'.length;exact Calls.call_len_list pl.isList ?vB ⟨?Je,H,?B3,⟨?yC,by rw[yP,hlen]⟩,q⟩
 .obtain⟨its,r',pl,hz⟩:=I.tuple hq;have hlen:=r'.length;exact len_tuple pl ?vB ⟨?Je,H,?B3,⟨?yC,by rw[yP,hlen]⟩,q⟩
theorem bj:Ve X (.builtin "len") (fun xs H Q=>∃ z,xs=[.str z]/\z.length<=sizeLine/\Q (.int z.length) H):=by
 intro pins s σ H xs us Q I r h;obtain⟨z,rfl,hz,q⟩:=h;obtain⟨u,rfl,t,rfl⟩:=uK r;have hn:=UK;exact len_str ?A ⟨.int z.length,H,?B3,?Bt,q⟩
theorem bS:Ve X (.type "list") (fun xs H Q=>∃ p ys,xs=[.ref p]/\(SqL X.K H p ys∨SqT X.K H p ys)/\∀ l,H l=none->Q (.ref l) (upd H l (.lst ys))):=by
 intro pins s σ H xs us Q I r h;obtain⟨p,ys,rfl,hq,q⟩:=h;obtain⟨u,rfl,rx⟩:=uK r;cases rx;have fin:∀ (its:List Value),qj ys its->ys.length<=sizeLine->∀ (h':Heap) (c':Nat),(∀ b o',s.heap.get? b=some o'->h'.get? b=some o')->
   h'.get? s.heap.objs.size=some {cls:=.type "list", dict:=none,data:=.seq its.toArray c',slots:=#[]}->EP X pins σ Q (.ref s.heap.objs.size) {s with heap:=h'}:=fun its r' hz h' c' kp e=>
  ⟨.ref s.heap.objs.size,_,I.laid (t':=?Ag) kp ?AC (show Qt X.prog X.w _ h' _ (.lst ys) from ⟨hz,its,c',r',e⟩),rfl,q _ ?Bm⟩
 rcases hq with hq|hq
 .obtain⟨its,r',pl,hz⟩:=I.list hq;have hlen:=r'.length;obtain⟨o,ho,hc,n,hd⟩:=pl.isList;exact call_list_seq p (.inl rfl) ho hc hd (fun h' c' kp e=>?Lt) ?vB
 .obtain⟨its,r',pl,hz⟩:=I.tuple hq;have hlen:=r'.length;obtain⟨o,ho,hc,n,hd⟩:=pl;exact call_list_seq p (.inr rfl) ho hc hd (fun h' c' kp e=>?Lt) ?vB
theorem XM:Ve X (.type "tuple") (fun xs H Q=>∃ p ys,xs=[.ref p]/\((SqL X.K H p ys/\∀ l,H l=none->Q (.ref l) (upd H l (.tup ys)))∨(SqT X.K H p ys/\Q (.ref p) H))):=by
 intro pins s σ H xs us Q I r h;obtain⟨p,ys,rfl,h⟩:=h;obtain⟨u,rfl,rx⟩:=uK r;cases rx;rcases h with ⟨hq,q⟩|⟨hq,q⟩
 .obtain⟨its,r',pl,hz⟩:=I.list hq;have hlen:=r'.length;refine call_tuple_list pl.isList (fun h' kp=>?_) ?vB;have I1:Inv X pins σ H {s with heap:=h'}:=I.kept (t':=?Ag) kp;have I2:Inv X pins σ (upd H h'.objs.size (.tup ys)) {s with heap:=h'.push {cls:=.type "tuple", data:=.seq its.toArray}}:=
   I1.laid (t':=?Ag) (fun b o e=>?At) ?AC (show Qt X.prog X.w _ _ _ (.tup ys) from ⟨hz,its,r',?Jo⟩)
  exact⟨.ref h'.objs.size,_,I2,rfl,q _ (I1.hok.fresh ?AC)⟩
 .obtain⟨its,r',pl,hz⟩:=I.tuple hq;exact call_tuple_same pl ⟨.ref p,H,I,rfl,q⟩
def tyV (K:?A0)(T:?Ch)(x:V)(H:Hp):Prop:=match x with
 |.str _=>T = "str"
 |.int _=>T = "int"
 |.ref p=>(T = "list" /\ ∃ xs,SqL K H p xs)∨(T = "tuple" /\ ∃ o,K.lookup p=some o/\o.cls=.type "tuple" /\ o.dict=none) ∨
   (T = "dict" /\ ((∃ kvs,H p=some ?Bp)∨∃ kvs,H p=some ?Cc))∨(T = "set" /\ ∃ S n,H p=some (.set S n))
 |_=>False
theorem G6(I:?A6)(r:YX x v)(ty:tyV X.K T x H) :
  s.TypeIs v T/\∀ a,v=.ref a->∃ ob,s.heap.get? a=some ob/\ob.dict=none:=by
 cases x with
 |str z=>
  obtain⟨t,rfl⟩:=r;cases (show T = "str" from ty);exact⟨typeIs_str s z t,fun _ e=>nomatch e⟩
 |int i=>
  obtain⟨t,rfl⟩:=r;cases (show T = "int" from ty);exact⟨typeIs_int s i t,fun _ e=>nomatch e⟩
 |ref p=>
  cases r;rcases ty with ⟨rfl,xs,hq⟩|⟨rfl,o,hk,hc,hd⟩|⟨rfl,hk⟩|⟨rfl,S,n,hk⟩
  .obtain⟨its,_,pl,_⟩:=I.list hq;refine⟨pl.isList.typeIs,fun a e=>?_⟩;cases e;obtain⟨o,n,e,c,hd,_⟩:=pl;exact⟨o,e,hd⟩
  .refine⟨⟨o,I.kIn p o hk,hc⟩,fun a e=>?_⟩;cases e;exact⟨o,I.kIn _ o hk,hd⟩
  .have z:∃ o,s.heap.get? p=some o/\o.ExactDict:=by
    rcases hk with ⟨kvs,hk⟩|⟨kvs,hk⟩
    .obtain⟨_,_,_,_,o,_,_,e,ex,_⟩:=I.hok p _ hk;exact⟨o,e,ex⟩
    .obtain⟨_,_,_,_,o,_,_,e,ex,_⟩:=I.hok p _ hk;exact⟨o,e,ex⟩
   obtain⟨o,e,ex⟩:=z;refine⟨⟨o,e,ex.1⟩,fun a e2=>?_⟩;cases e2;exact⟨o,e,ex.2.1⟩
  .obtain⟨o,_,_,_,e,ex,_⟩:=I.hok p _ hk;refine⟨⟨o,e,ex.1⟩,fun a e2=>?_⟩;cases e2;exact⟨o,e,ex.2.1⟩
 |_=>exact False.elim ty
def tBM (K:?A0)(T:?Ch)(r:?wF)(to:TE)(t:TA):TE:=fun σ H Q=>to σ H fun x H1=>tyV K T x H1/\t σ H1 fun xs H2=>r x xs H2 Q
variable {o e:Expr}{es:?Ai}{to:TE}{t:TA}{name:Str}{apos cpos:Pos}{T id:?Ch}{r:?wF}
theorem rU (pa:PlainAttrs T)(slot:Slot T name id)(hty:typeOf ?Cx=pure (.type "method_descriptor"))(hm:MtR X id r)(ho:PE X o to)(ha:?jE)
  (hbase:attributeBase o name X.env (eval o X.env)=eval o X.env:=by rfl)
  (hfew:((backTo cpos (starEach (e::es) X.env)).all (fun x=>!x.1)&&(backToKw cpos (keywordEach [] X.env)).all (fun x=>x.1.isSome)
   && decide ((e::es).length+([]:?HX).length+(if ([]:?HX).isEmpty then 0 else 1)<30))=true:=by rfl)
  (hline:(apos.endLine==cpos.line)=true:=by rfl) (hs:?W:=by rfl) (hplain:(backTo cpos ?GU).any ?C=false:=by rfl) :
  PE X (.Call (.Attribute o name apos) (e::es) [] cpos) (tBM X.K T r to t):=by
 intro pins s σ H Q I h;refine wpAny_Call_method_late hbase hfew hline rfl (thn ?Gh fun v s1 ⟨x,H1,I1,r1,ty,q1⟩=>?_);obtain⟨h1,h2⟩:=G6 I1 r1 ty;refine⟨T,id,pa,slot,hty,h1,h2,?_⟩;have hA:=ha cpos pins s1 σ H1 _ I1 q1;rw[hs] at hA ⊢;refine Calls.callWith_builtin (by show(false||(backTo cpos ?GU).any ?C)=false;rw[hplain] <;> rfl) (Calls.evalArgs_plain ?_);exact thn hA fun us s2 ⟨vs,H2,I2,r2,q2⟩=>hm pins s2 σ H2 x vs v us Q I2 r1 r2 q2
/- xs.append(e),list.index on a module's tuple .. are MtR facts of 06m -/
end
def MtM (X:Cx)(id:?Ch)(r:?wF):Prop:=
 ∀ (pins:List (Addr×Obj)) (s:Shared) (σ:St) (H:Hp) (x:V) (xs:List V) (v:Value) (us:List Value) (Q:VK),Inv X pins σ H s->YX x v->qj xs us->r x xs H Q->
  wpAny ?AF X.A (call ?Cx (v::us)) ?Bj X.xe s
theorem qj.one:∀ {x:V} {us:List Value},qj [x] us->∃ u,us=[u]/\YX x u
 |_,_,.cons r .nil=>⟨_,rfl,r⟩
section
theorem Inv.lset {its its':?AY}{n:Nat}{f:Array Value->Array Value}{t':Nat}(I:?A6)(hH:H l=some ?Aa)
  (e:s.heap.get? l=some {cls:=?R, data:=?Dp}) (hf:f its.toArray=its'.toArray) (hv:qj ys its') (hz:ys.length<=sizeLine) :
  Inv X pins σ (upd H l (.lst ys)) {s with heap:=s.heap.update l (Obj.mapSeq f),toks:=t'}:=by
 have q:=PySem.IsL.update e f;rw[hf] at q;refine I.write (x:=l) (e:=l) (by rw[hH];exact ?Bi) ?A2 (fun b' u hb hu=>(Heap.get?_update_other s.heap (Obj.mapSeq f) (Ne.symm hb)).trans hu) ⟨_,q⟩ ?_;exact⟨hz,its',_,hv,q⟩
theorem Inv.lnew(I:?A6)(hv:qj ys its)(hz:ys.length<=sizeLine) :
  Inv X pins σ (upd H s.heap.objs.size (.lst ys)) {s with heap:=s.heap.push {cls:=?R, data:=.seq its.toArray},toks:=t'}:=
 I.laid (fun _ _ q=>?CI) ?AC ⟨hz,its,0,hv,?Be⟩
theorem Inv.fresh (I:?A6):H s.heap.objs.size=none:=I.hok.fresh ?AC
theorem Inv.lstM (I:?A6)(hH:H l=some ?Aa):xs.length<=sizeLine/\∃ (its:List Value) (n:Nat),qj xs its/\xs.length=its.length/\s.heap.get? l=some {cls:=?R, data:=?Dp}:=by
 obtain⟨z,its,n,r,e⟩:=I.hok l _ hH;exact⟨z,its,n,r,r.length,e⟩
theorem tM(h:n<=sizeLine):Builtin.List.listTooLong n=false:=by
 unfold Builtin.List.listTooLong;exact yu ?A
end
section
def bC:?wF:=fun x vs H Q=>∃ l xs y,x=.ref l/\vs=[y]/\H l=some ?Aa/\xs.length<sizeLine/\Q .non (upd H l (.lst (xs++[y])))
theorem wg:MtM X "list.append" bC:=by
 intro pins s σ H x vs v us Q I rx rv h;obtain⟨l,xs,y,rfl,rfl,hH,hz,q⟩:=h;cases rx;obtain⟨u,rfl,ru⟩:=rv.one;obtain⟨z,its,n,r,hl,e⟩:=I.lstM hH;refine call_meets F.slot_list_append ⟨_,e,rfl⟩ F.entry_list_append (F.args_list_append_2 _ _) (PySem.list_append l its.toArray n u (by rw[yP];lia)) ⟨e,?_⟩;refine⟨.non,_,I.lset (its':=its++[u]) hH e (by simp) (r.append (.cons ru .nil)) ?_,rfl,q⟩;rw[yI,List.length_singleton];lia
def oK:?wF:=fun x vs H Q=>∃ l b xs zs,x=.ref l/\vs=[.ref b]/\H l=some ?Aa/\H b=some (.lst zs)/\xs.length+zs.length<=sizeLine/\Q .non (upd H l (.lst (xs++zs)))
theorem pT:MtM X "list.extend" oK:=by
 intro pins s σ H x vs v us Q I rx rv h;obtain⟨l,b,xs,zs,rfl,rfl,hH,hB,hz,q⟩:=h;cases rx;obtain⟨u,rfl,ru⟩:=rv.one;cases ru;obtain⟨z,its,n,r,hl,e⟩:=I.lstM hH;obtain⟨z2,its2,n2,r2,hl2,e2⟩:=I.lstM hB;have hsz:its.toArray.size+its2.toArray.size<=sizeLine:=by rw[yP,yP];lia
 have hlong:¬ (!its.toArray.isEmpty&&Builtin.List.listTooLong (its.toArray.size+its2.toArray.size))=true:=by
  rw[tM hsz,Bool.and_false];exact yN
 refine call_meets F.slot_list_extend ⟨_,e,rfl⟩ F.entry_list_extend (F.args_list_extend_2 _ _)
  (AutoSeq1.list_extend_list_list_0 l its.toArray n b its2.toArray n2 hlong (by rw[yP];lia) ?A) ⟨e,e2,?_⟩
 refine⟨.non,_,I.lset (its':=its++its2) hH e (by simp) (r.append r2) ?_,rfl,q⟩;rw[yI];lia
end
section
variable {prog:?AA}{w:?A9}{A:?BD}{E:?zA}{s:?AN}
end
section
variable {X:Cx}
end
end L2
namespace Att
open PySem PySem.W PySem.Calls PyProof.Rows
theorem w6 {P:?Ci}{h:Heap}:∀ (ns:List Int) (vs:List Value),WellAll P h vs (ns.map WData.int)->IntsAre vs ns:=by
 intro ns
 induction ns with
 |nil=>
  intro vs w;rw[Q6] at w;cases w;exact .nil
 |cons n ns ih=>
  intro vs w;rw[yD] at w;cases w with
  |cons a b=>
   cases a;exact .cons _ _ (ih _ b)
theorem pF {l:OpenLaw}{n:Nat}(hn:l.most=some n){P:?Ci}{h:Heap}{args:List WData}{vals:?AY}
  (hpre:l.row.toRowW.claim.pre args=true) (hwl:WellAll P h vals args) :
  ∃ a vs ns,vals=[Value.ref a]/\args=[WData.list (ns.map WData.int)]/\h.get? a=some {cls:=?R, data:=?G0}/\IntsAre vs ns/\ns.length<=n:=by
 have hsh:WShape.hasAll [] args [.list .int]=true:=(pre_splitW hpre).1;have hc:l.pre.holds [] {args:=args}=true:=(pre_splitW hpre).2;obtain⟨d,r,rfl,h1,h2⟩:=hasAllW_cons hsh;obtain rfl:=hasAllW_nil h2;obtain⟨xs,rfl,h3⟩:=hasW_list h1;obtain⟨ns,rfl⟩:=items_int h3;have hlen:ns.length<=n:=by
  unfold OpenLaw.pre at hc;have h4:(WTm.not (.lt (.lit (.int (n:Int))) (.len (.arg 0)))).holds [] {args:=[.list (ns.map .int)]}=true:=by
   have h4:=(holds_andW hc).1;rw[hn] at h4;exact h4
  have h5:=condW_of h4 (w_not (w_lt w_lit (w_len_list (w_arg rfl))));rw[yf] at h5;refine Nat.le_of_not_lt fun q=>?_;have q':(n:Int)<((ns.length:Nat):Int):=by lia
  first
   | (rw[yK q'] at h5;exact absurd h5 ?B)
   | (simp at h5;lia)
 cases hwl with
 |cons w1 w2=>
  cases w2;cases w1 with
  |list ho hall=>exact⟨_,_,ns,rfl,rfl,ho,w6 ns _ hall,hlen⟩
theorem pL (l:OpenLaw)(args:List WData):l.row.toRowW.claim.post args ?DT args=true:=
 postW_of (r:=l.row.toRowW) (X:=(true==true))
  (show WShape.has [] ?DT .bool=true by first|rfl|decide|simp[WShape.has,WShape.arms,WShape.armsAll])
  (show(WTm.eq .res (.lit ?DT)).value [] {args:=args,res:=some ?DT,after:=args}=some (.bool (true==true)) from w_eq_bool (w_res rfl) w_lit) rfl
theorem attach_call {l:OpenLaw}{n:Nat}{q:?AA}{loose:?A1}{XP:?J->Heap->Prop}{YP:World->Heap->Prop}{d:DefRec}
  (hn:l.most=some n) (hdf:d.params.defaults=[])
  (call:∀ (w:World) (s₀ s₁:Shared) (mg mb:Str->Option Value) (fa:Addr) (o:Obj) (pm cd doc:Value) (a:Addr) (vs:List Value) (ns:List Int),
   Ground q loose [] XP w s₀ mg mb s₁.heap->YP w s₁.heap->
   s₁.heap.get? fa=some o->o.data=.func (docDef d.name d.params d.body d.scope pm cd doc)->s₁.heap.CodeRec cd d.name->mg d.name=some ?EI->
   s₁.heap.get? a=some {cls:=?R, data:=?G0}->IntsAre vs ns->ns.length<=n->s₁.gens=#[]->
   codeAny (model l.prog w) callerA (.call ?EI ⟨[.ref a],[]⟩) ?xM s₁) :
  WalkO q loose XP YP l.row.toRowW d [] (fun f vs=>?JP):=by
 intro w s₀ s₁ mg mb G Y fa o pm cd doc dV kV ho hd hcd hD hmg hg args vals as hpre hlay hrd hwl hlo;obtain rfl:dV=.none:=Dflts.none hD hdf;obtain rfl:kV=.none:=Dflts.noKw hD;obtain⟨a,vs,ns,rfl,rfl,hobj,hints,hlen⟩:=pF hn hpre hwl;refine enter_call (codeAny_mono (call w s₀ s₁ mg mb fa o pm cd doc a vs ns G Y ho (fd_plain hd) hcd hmg hobj hints hlen hg) fun r s' hq=>?_);obtain⟨rfl,h2,h3,h4⟩:=hq;exact⟨.inl ⟨?DT,?DT,[],rfl,fun _=>rfl,?DT,pL l _,fun _=>⟨List.Pairwise.nil,fun _ hm=>(nomatch hm)⟩⟩,h2,h3,h4⟩
section
variable {prog:?AA}{w:?A9}{A:?BD}{E:?zA}{s:?AN}{K:Frag}
end
end Att
namespace L2
open PySem PySem.Spec PyProof.Rows
theorem X0:∀ {vs:List Value} {ns:List Int},IntsAre vs ns->qj ?C4 vs
 |_,_,.nil=>.nil
 |_,_,.cons n t h=>.cons ⟨t,rfl⟩ (X0 h)
def Ho (H:Hp):Prop:=∀ b,H b=none∨∃ o xs,H b=some (.frz o ?Aa)
theorem BO {P:?AA}{w:?A9}{K:?A0}{mg mb:?J}{CX:CXT}{k:Nat}{fa a:Addr}{fd:?DW}{x:Str}{sp:Sp}{s₁:?AN}{vs:?AY}{ns:?CZ}
  (KX:K.In s₁.heap) (hns:s₁.heap.Ns mainGlobals mg) (hb:s₁.heap.Ns builtinsNs mb) (hbb:∀ x:Str,x ≠ "__name__" -> mb x=bootBuiltins x) (hlim:s₁.heap.NoLimit) (hsee:s₁.heap.NoSeer) (hg:s₁.gens=#[])
  (ha:s₁.heap.get? a=some {cls:=?R, data:=?G0}) (hi:IntsAre vs ns) (hl:ns.length<=sizeLine) (hr:Room k callerA)
  (F:∀ base:Heap,K.In base->base.Ns mainGlobals mg->FnOk P w K mg base CX k fa fd [x] sp) (hbind:∀ (s:Shared) (u:Value),BindsTo s fd ⟨[u],[]⟩ [(x,u)])
  (hsp:∀ H:Hp,Ho H->SqL K H a ?C4->sp [.ref a] H (fun v _=>v=.bl true) fun _ _ _=>?AB)
  (hCX:∀ H e s',CX [] H s₁ (fun _ _ _=>?AB) e s'->False) :
  codeAny ?BV callerA (.call ?EI ⟨[.ref a],[]⟩) ?xM s₁:=by
 have rv:=X0 hi;have lenV:=hi.length
 -- from an abstract heap in which nothing but the script may be tracked
 have core:∀ H:Hp,Ho H->SqL K H a ?C4->HOk P w H s₁.heap->(∀ b,H b≠none->b=a)->(H a≠none->K.lookup a=none)->
   codeAny ?BV callerA (.call ?EI ⟨[.ref a],[]⟩) ?xM s₁:=by
  intro H hO hS hok hA hK;have base_of:∀ {b:Addr} {o:Obj},s₁.heap.get? b=some o->H b=none->(cp s₁.heap H).get? b=some o:=fun e n=>sD e n;have noA:∀ {b:Addr} {o:Obj} {es:Array DictEntry} {ep:Nat},s₁.heap.get? b=some o->o.data=.dict es ep->H b=none:=fun {b o es ep} e d=>by
   cases q:H b with
   |none=>rfl
   |some u=>
    have e':b=a:=hA b (by rw[q];simp);subst e';rw[ha] at e;cases e;have d':Data.seq vs.toArray _=Data.dict es ep:=d;cases d'
  have noM:∀ {b:Addr} {o:Obj},s₁.heap.get? b=some o->o.cls=.type "module" -> H b=none:=fun {b o} e d=>by
   cases q:H b with
   |none=>rfl
   |some u=>
    have e':b=a:=hA b (by rw[q];simp);subst e';rw[ha] at e;cases e;have d':Value.type "list" = Value.type "module" := d;injection d' with z;exact absurd z ?B
  have nsK:∀ {b:Addr} {m:Str->Option Value},s₁.heap.Ns b m->(cp s₁.heap H).Ns b m:=fun {b m} ⟨o,es,ep,e,d,r⟩=>⟨o,es,ep,base_of e (noA e d),d,r⟩
  have hKb:K.In (cp s₁.heap H):=fun b o e=>base_of (KX b o e) (by
   cases q:H b with
   |none=>rfl
   |some u=>
    have e':b=a:=hA b (by rw[q];simp);subst e';rw[hK (by rw[q];simp)] at e;cases e)
  have hM:Mod K mg (cp s₁.heap H):=⟨hKb,nsK hns,⟨mb,nsK hb,hbb⟩,(let ⟨mc,h1,h2⟩:=hlim;⟨mc,nsK h1,h2⟩),⟨(let ⟨mc,a1,b1⟩:=hsee.statics;?Iw),(let ⟨mc,a1,b1⟩:=hsee.mods;?Iw),(let ⟨mc,a1,b1⟩:=hsee.imp;?Iw),(let ⟨mg',bm,ob,a1,b1,c1,d1,f1⟩:=hsee.main;⟨mg',bm,ob,nsK a1,b1,base_of c1 (noM c1 d1),d1,f1⟩)⟩⟩
  have e0:Env0 P w K mg (cp s₁.heap H) callerA [] s₁ H:=⟨rfl,hM,fun b o e=>CY e,Nat.le_of_eq (rb _ _),?Bi,fun b hb=>absurd (show b∈([]:?B9) from hb) (by simp),hok,.of_eq hg⟩
  refine codeAny_mono ((F _ hKb (nsK hns)).run callerA [] s₁ H ⟨[.ref a],[]⟩ [.ref a] [.ref a] _ _ hr e0 (hbind s₁ ?AI) (.cons rfl .nil) (hsp H hO hS)) fun r s' h=>?_;cases r with
  |error e=>exact(hCX H e s' h).elim
  |ok fl=>
   cases fl with
   |next=>exact False.elim h
   |brk=>exact False.elim h
   |cont=>exact False.elim h
   |ret u=>
    obtain⟨v,H',os,bare,un,hok',r',q⟩:=h;have q':v=.bl true:=q;subst q';obtain rfl:u=Value.bool true:=r';refine⟨rfl,OldK.of_keep fun b o e=>?_,os,bare⟩;cases q:H b with
    |none=>exact un.keep b o e q (by intro z;exact absurd (show b∈([]:?B9) from z) (by simp)) (by simp)
    |some u=>
     rcases hO b with z|⟨ob,xs,z⟩
     .rw[q] at z;cases z
     .have z2:=un.frzs b ob _ z;obtain⟨e1,_⟩:=hok b _ z;obtain⟨e2,_⟩:=hok' b _ z2;rw[e] at e1;cases e1;exact e2
 cases hk:K.lookup a with
 |some o=>
  -- the script is one of the module's own objects
  have e:=KX a o hk;rw[ha] at e;cases e;refine core (fun _=>none) (fun _=>?A2) (.inr ⟨_,vs.toArray,_,hk,rfl,rfl,rfl,by rw[yP,lenV];exact hl,by simpa using rv⟩) (fun b u z=>by have z':(none:Option HO)=some u:=z;cases z') (fun b z=>absurd rfl z) fun z=>absurd rfl z
 |none=>
  refine core (fun b=>if b=a then some (.frz {cls:=?R, data:=?G0} (.lst ?C4)) else none) (fun b=>?_) (.inl (.inr ⟨{cls:=?R, data:=?G0},yc rfl⟩)) (fun b u z=>?_) (fun b z=>?_) fun _=>hk
  .by_cases hb:b=a
   .exact .inr ⟨_,_,yc hb⟩
   .exact .inl (yd hb)
  .by_cases hb:b=a
   .have z':=(yc hb).symm.trans z;cases z';subst hb;exact⟨ha,by rw[yf];exact hl,vs,_,rv,ha⟩
   .have z':=(yd hb).symm.trans z;cases z'
  .by_cases hb:b=a
   .exact hb
   .exact absurd (yd hb) z
abbrev KOf {K:?A0}{h:Heap}(_:K.In h):?A0:=K
theorem DI {l:W.OpenLaw}{n k:Nat}{q:?AA}{loose:?A1}{XP:?J->Heap->Prop}{YP:World->Heap->Prop}{d:DefRec}{K:Params->W.Frag}{CX:World->CXT}{sp:World->Sp}{x:Str}
  (hn:l.most=some n) (hn2:n<=sizeLine) (hi:importsNone q=true) (hdf:d.params.defaults=[]) (hr:Room k callerA)
  (hY:∀ (w:World) (h:Heap),YP w h->(?C7).In h)
  (F:∀ (w:World) (mg:Str->Option Value) (fa:Addr) (h:Heap),(?C7).In h->h.Ns mainGlobals mg->mg d.name=some ?EI->
   ∃ fd:FuncData,(∀ (s:Shared) (u:Value),BindsTo s fd ⟨[u],[]⟩ [(x,u)])/\
    ∀ base:Heap,(?C7).In base->base.Ns mainGlobals mg->FnOk l.prog w ?C7 mg base (CX w) k fa fd [x] (sp w))
  (hsp:∀ (w:World) (H:Hp) (a:Addr) (ns:List Int),ns.length<=n->Ho H->SqL ?C7 H a ?C4->sp w [.ref a] H (fun v _=>v=.bl true) fun _ _ _=>?AB)
  (hCX:∀ (w:World) (H:Hp) (s:Shared) (e:Value) (s':Shared),CX w [] H s (fun _ _ _=>?AB) e s'->False) :
  W.WalkO q loose XP YP l.row.toRowW d [] (fun f vs=>?JP):=by
 refine Att.attach_call hn hdf fun w s₀ s₁ mg mb fa o pm cd doc a vs ns G Y ho hd hcd hmg hobj hints hlen hg=>?_;have KX:=hY w _ Y;obtain⟨fd,hb,hF⟩:=F w mg fa _ KX G.T.g hmg;exact BO KX G.T.g G.T.b G.T.builtins G.T.nolimit (G.T.seer hi) hg hobj hints (yz hlen hn2) hr hF hb (fun H hO hS=>hsp w H a ns hlen hO hS) fun H e s'=>hCX w H s₁ e s'
abbrev CX0:CXT:=fun _ _ _ _ _ _=>False
abbrev E0:XK:=fun _ _ _=>False
theorem uZ:ub CX0 X E0:=fun _ _ _ _ _ _ _ h=>h.elim
structure Fun (K:?A0)(x qual:Str)(st:Stmt)(f:Addr)(fd:?DW):Prop where
 ex:∃ (oc:Value) (od:Option Addr) (kV doc pm:Value) (an:Option Addr) (cdv ct:Value) (osl:Array (Option Value)),
  fd=W.fnOf x qual (Jj st) ?Ar ?BI .none kV doc pm an cdv ct/\K.lookup f=some ⟨oc,od,.func fd,osl⟩/\W.codeIn K cdv qual=true
 kp:W.keepIn K ?Am=true
section
variable {P:?AA}{w:?A9}{K:?A0}{mg:?J}{base:Heap}
theorem Fun.ok {x qual:Str}{st:Stmt}{f:Addr}{fd:?DW}{N ps:?A1}{k:Nat}{sp:Sp}(F:Fun K x qual st f fd)(S:?BW)(len:∀ vs H Q E,?wV)
  (hbody:∀ (cdv:Value) (A:Around) (outer:List Env) (s:Shared) (H:Hp) (vs:List V) (Q:VK) (E:XK),Room k (A.deeper (envOfC qual ?BI s.heap.objs.size f cdv))->sp vs H Q E->
   ∃ t,PSs (WM CX0 P w K mg base N qual ?BI f cdv A outer s H E).nox ?Ar t/\t {nx:=fun _ H'=>?Ay,rt:=Q} ?E7 H):FnOk P w K mg base CX0 (k+1) f fd ps sp:=by
 obtain⟨oc,od,kV,doc,pm,an,cdv,ct,osl,rfl,lk,hcd⟩:=F.ex;refine Hw lk hcd S len fun A outer s H vs Q E hr hsp=>?_;obtain⟨t,h,q⟩:=hbody cdv A outer s H vs Q E hr hsp;exact⟨t,h.nox,q⟩
theorem Fun.binds {x qual:Str}{st:Stmt}{f:Addr}{fd:?DW}{ps:?A1}(F:Fun K x qual st f fd)
  (h:∀ (kV doc pm:Value) (an:Option Addr) (cdv ct:Value) (us:List Value),us.length=ps.length->bindArgs ?Hz ?jP=pure ?DX):vf K fd ps []:=by
 obtain⟨oc,od,kV,doc,pm,an,cdv,ct,osl,rfl,lk,hcd⟩:=F.ex;exact .all (h kV doc pm an cdv ct)
theorem bI {x qual:Str}{st:Stmt}{f:Addr}{oc:?AJ}{od an:?Es}{osl:?EY}{kV doc pm cdv ct:?AJ}(l:K.lookup f=some ⟨oc,od,.func ?Hz,osl⟩)
  (c:W.codeIn K cdv qual=true) (k:?vL):Fun K x qual st f ?Hz:=⟨⟨oc,od,kV,doc,pm,an,cdv,ct,osl,rfl,l,c⟩,k⟩
end
section
theorem pv (i:Nat)(hN:?zN:=by rfl)(hv:?Ed:=by first|exact Or.inl rfl|exact Or.inr (Or.inl rfl)|exact Or.inr (Or.inr rfl))(hd:?L:=by decide)
  (hcd:?wA:=by decide):PE X ?Co (HD i):=xY hN hv hd hcd
end
theorem Cb {A B:Prop}(h:B):if false=true then A else B:=by
 rw[yd yN];exact h
theorem rN {A B:Prop}(h:A):if true=true then A else B:=by
 rw[yc rfl];exact h
def Yc (H H':Hp):Prop:=∀ b o,H b=some o->H' b=some o
theorem Yc.refl (H:Hp):Yc H H:=fun _ _ h=>h
theorem Yc.trans(a:Yc H H1)(b:Yc H1 H2):Yc H H2:=fun c o h=>b c o (a c o h)
theorem Yc.free(e:?FI)(h:H' l=Option.none):H l=Option.none:=by
 cases q:H l with
 |none=>rfl
 |some o=>
  rw[e l o q] at h;cases h
theorem Yc.seq {K:?A0}{H H':Hp}{a:Addr}{xs:?AL}(e:?FI)(h:SqL K H a xs):SqL K H' a xs:=by
 rcases h with (h|⟨o,h⟩)|h
 .exact .inl ?Jf
 .exact .inl ?Ie
 .exact .inr h
end L2
set_option maxHeartbeats 4000000
namespace PySem
open Sem (wp)
section
abbrev Vd (h:Heap)(z TI TO:Addr)(f0:?AJ)(f1:Bool):Prop:=h.get? z=some {cls:=?yI, dict:=none,data:=.fields #[f0,.bool f1,.bool false,.ref TI,.ref TO],slots:=#[]}
structure ZipL (h:Heap)(TI i1 i2 t1 t2:Addr)(xs ys:?BL)(k:Nat):Prop where
 pr:IsPair h TI (.ref i1) (.ref i2)
 a1:h.IsListIter i1 t1 k
 a2:h.IsListIter i2 t2 k
 b1:h.IsList t1 xs
 b2:h.IsList t2 ys
theorem ZipL.put {h g:Heap}{z TI TO i1 i2 t1 t2:Addr}{xs ys:?BL}{k:Nat}(c:ZipL h TI i1 i2 t1 t2 xs ys k)(e:∀ b,b=TI∨b=i1∨b=i2∨b=t1∨b=t2->∀ o,h.get? b=some o->g.get? b=some o):ZipL g TI i1 i2 t1 t2 xs ys k:=
 ⟨e _ ?A2 _ c.pr,c.a1.at (e _ (.inr ?A2)),c.a2.at (e _ (.inr (.inr ?A2))),(let ⟨o,q,r⟩:=c.b1;⟨o,e _ (.inr (.inr (.inr ?A2))) _ q,r⟩),(let ⟨o,q,r⟩:=c.b2;⟨o,e _ (.inr (.inr (.inr ?D7))) _ q,r⟩)⟩
theorem pD {z TI TO i1 i2 t1 t2:Addr}{k:Nat}{Q:?zA}(D:?Eh)(hz:Vd s.heap z TI TO .none false)(c:?Ip)(ho:?Hf)(hx:xs[k]?=some x)(hy:ys[k]?=some y)
  (K:∀ g,Vd g z TI TO ?MZ false->IsPair g TO x y->ZipL g TI i1 i2 t1 t2 xs ys (k+1)->IsPair g s.heap.objs.size x y->g.objs.size=s.heap.objs.size+1->?qT->Q ?Eo {s with heap:=g}) :
  wpAny ?AG A ?yN ?uH E s:=by
 show wpAny _ _ (field ?Ao 2 >>= _) _ _ _;refine ya ?IN;show wpAny _ _ (field ?Ao 3 >>= _) _ _ _;refine ya ?Ia;refine ya ?K6;show wpAny _ _ ?wX _ _ _;refine ya ?_;unfold Builtin.SmallTypes.ownedTupleIsFree;refine ya (y4 (s:=s) hz rfl (x:=?Ab) rfl (ym ?_));simp only[if_true];refine ya (wpAny_rule (ya (y4 (s:=s) hz rfl (x:=.ref TO) rfl (ya (Yj hz (by simp) fun g1 z1 s1=>ya ?_)))));have z1:Vd g1 z TI TO .ellipsis false:=z1;simp only[List.zipIdx_cons,List.zipIdx_nil,QX,jU];refine ya (ya ?DP);show wpAny _ _ ?qX _ _ _;refine ya (qe ?Bz ?By hx fun g2 j1 s2=>ym ?_);have o2:IsPair g2 TO a b:=s2.extBut _ _ D.TOi1 ?HO;refine ya (Yy o2 rfl (ya (qv o2 fun g3 o3 s3=>ya (wpAny_letGo (ym ?_)))));have o3:IsPair g3 TO x b:=o3;refine ya (ya ?DP);show wpAny _ _ ?qW _ _ _;refine ya (qe ?xE ?xG hy fun g4 j2 s4=>ym ?_);have o4:IsPair g4 TO x b:=s4.extBut _ _ D.TOi2 o3;refine ya (Yy o4 rfl (ya (qv o4 fun g5 o5 s5=>ya (wpAny_letGo (ym (ym ?_))))));have o5:IsPair g5 TO x y:=o5;refine ya (Yy o5 rfl (ya (wpAny_newTuple ?_)));have sz:g5.objs.size=s.heap.objs.size:=by rw[s5.1,s4.1,s3.1,s2.1,s1.1]
 have z5:Vd g5 z TI TO .ellipsis false:=s5.extBut _ _ D.TOz.symm ?MR;have k5:∀ b o,b≠z->b≠TO->b≠i1->b≠i2->s.heap.get? b=some o->g5.get? b=some o:=fun b o c1 c2 c3 c4 e=>
  s5.extBut _ _ c2 ?Km
 have j1':g5.IsListIter i1 t1 (k+1):=((?MQ).extBut s4.extBut D.i12).extBut s5.extBut D.TOi1.symm;have j2':g5.IsListIter i2 t2 (k+1):=j2.extBut s5.extBut D.TOi2.symm;have lz:z<g5.objs.size:=yn z5;show wpAny _ _ (Builtin.SmallTypes.ownedTupleHandOut ?Ao ?Hv >>= _) _ _ _;refine ya ?_;unfold Builtin.SmallTypes.ownedTupleHandOut;have z6:Vd (g5.push {cls:=?zQ, data:=.seq #[x,y]}) z TI TO .ellipsis false:=yh _ z5;refine ya (Yj z6 (by simp) fun g7 z7 s7=>?_);have z7:Vd g7 z TI TO (rawInt g5.objs.size) false:=z7;refine Yj z7 (by simp) fun g8 z8 s8=>?_;have z8:Vd g8 z TI TO (rawInt g5.objs.size) false:=z8;have up:∀ b o,b≠z->g5.get? b=some o->g8.get? b=some o:=fun b o c1 e=>s8.extBut _ _ c1 (s7.extBut _ _ c1 ?At);have nw:IsPair g8 g5.objs.size x y:=s8.extBut _ _ (qW lz) ?MX;have sz8:g8.objs.size=g5.objs.size+1:=by rw[s8.1,s7.1,YU]
 rw[sz] at z8 nw sz8;refine ym ?Hx;show Q ?Hv _;rw[sz];have w5:∀ b o,b≠z->b≠TO->b≠i1->b≠i2->s.heap.get? b=some o->g8.get? b=some o:=fun b o c1 c2 c3 c4 e=>up b o c1 (k5 b o c1 c2 c3 c4 e);exact K g8 z8 (up _ _ D.TOz o5) ⟨?ML,j1'.at fun o e=>up _ o D.i1z e,j2'.at fun o e=>up _ o D.i2z e,(let ⟨o,q,r⟩:=c.b1;?MF),(let ⟨o,q,r⟩:=c.b2;?MD)⟩ nw sz8 w5
theorem bA(ho:s.heap.get? a=some o)(h:Q (some o) s):?L9:=fun Γ p _=>by
 unfold loadIfAlive;rw[Sem.wp_loadIfAlive,ho];exact(Sem.wp_pure ..).mpr h
theorem av {z TI TO T:Addr}(hz:?Lv)(hT:s.heap.get? T=some oT)(K:∀ g,Vd g z TI TO ?Dy true->Heap.SameBut z s.heap g->Q false {s with heap:=g}) :
  wpAny ?AG A ?Kh Q E s:=by
 unfold Builtin.SmallTypes.ownedTupleIsFree;refine ya ?L8;show wpAny _ _ (loadIfAlive T >>= _) _ _ _;refine ya (bA hT ?_);simp only[Option.isNone_some,Y3,if_false];refine ya ?Ku;cases f1 with
 |true=>exact ym (K s.heap hz (Heap.SameBut.refl ..))
 |false=>exact ya (Yj hz (by simp) fun g z1 s1=>ym (K g z1 s1))
theorem rj {z TI TO i1 i2 t1 t2 T:Addr}{k:Nat}{f1:Bool}{Q:?zA}(D:?Eh)(hz:?Lv)(c:?Ip)(hT:s.heap.get? T=some oT)(hx:xs[k]?=some x)(hy:ys[k]?=some y)
  (K:∀ g,Vd g z TI TO ?Dy true->ZipL g TI i1 i2 t1 t2 xs ys (k+1)->IsPair g s.heap.objs.size x y->g.objs.size=s.heap.objs.size+1->(∀ b o,b≠z->b≠i1->b≠i2->s.heap.get? b=some o->g.get? b=some o)->Q ?Eo {s with heap:=g}) :
  wpAny ?AG A ?yN ?uH E s:=by
 show wpAny _ _ (field ?Ao 2 >>= _) _ _ _;refine ya ?IN;show wpAny _ _ (field ?Ao 3 >>= _) _ _ _;refine ya ?Ia;refine ya ?K6;show wpAny _ _ ?wX _ _ _;refine ya ?_;refine av hz hT fun g1 z1 s1=>?_;simp only[Y3,if_false,←Array.forIn_toList,QX,jU];refine ya (ya (ya (YG ?_)));show wpAny _ _ ?qX _ _ _;refine ya (qe ?Bz ?By hx fun g2 j1 s2=>ym (ym ?_));refine ya (ya (YG ?_));show wpAny _ _ ?qW _ _ _;refine ya (qe ?vQ ?vY hy fun g3 j2 s3=>ym (ym (ym ?_)));refine ya (wpAny_newTuple (ym ?Hx) (by show(2:Nat)<=sizeLine;decide));have sz:g3.objs.size=s.heap.objs.size:=by rw[s3.1,s2.1,s1.1]
 have k3:∀ b o,b≠z->b≠i1->b≠i2->s.heap.get? b=some o->g3.get? b=some o:=fun b o c1 c3 c4 e=>s3.extBut _ _ c4 ?Ky;have z3:Vd g3 z TI TO (rawInt T) true:=s3.extBut _ _ D.i2z.symm ?LQ;have j1':g3.IsListIter i1 t1 (k+1):=j1.extBut s3.extBut D.i12;show Q (.ref g3.objs.size) _;have nw:IsPair (g3.push {cls:=?zQ, data:=.seq #[x,y]}) g3.objs.size x y:=yF _ rfl;rw[sz] at nw ⊢;have up:∀ b o,g3.get? b=some o->(g3.push {cls:=?zQ, data:=.seq #[x,y]}).get? b=some o:=fun b o e=>yh _ e;exact K _ (up _ _ z3) ⟨up _ _ (k3 _ _ D.TIz D.TIi1 D.TIi2 c.pr),j1'.at fun o e=>up _ o e,j2.at fun o e=>up _ o e,(let ⟨o,q,r⟩:=c.b1;⟨o,up _ _ (k3 _ _ D.l1z D.l1i1 D.l1i2 q),r⟩),(let ⟨o,q,r⟩:=c.b2;⟨o,up _ _ (k3 _ _ D.l2z D.l2i1 D.l2i2 q),r⟩)⟩ nw (by rw[YU,sz]) fun b o c1 c2 c3 e=>up _ _ (k3 b o c1 c2 c3 e)
theorem Cm {z TI TO i1 i2 t1 t2:Addr}(hh:?yJ)(D:?Eh)(hz:?Gs)(hf:(f0=.none/\f1=false)∨∃ T o,f0=rawInt (T:Nat)/\s.heap.get? T=some o)(c:?Ip)(ho:?Hf)(hend:xs[k]?=none∨ys[k]?=none)
  (K:∀ g e,?qT->?xY->E (.ref e) {s with heap:=g}) :
  wpAny ?AG A ?yN Q E s:=by
 show wpAny _ _ (field (.ref z) 2 >>= _) _ _ _;refine ya (y4 (s:=s) hz rfl (x:=.bool false) rfl ?_);show wpAny _ _ (field (.ref z) 3 >>= _) _ _ _;refine ya (y4 (s:=s) hz rfl (x:=.ref TI) rfl ?_);refine ya (Yy (s:=s) c.pr rfl ?_);show wpAny _ _ ?wX _ _ _;refine ya ?_;rcases hf with ⟨rfl,rfl⟩|⟨T,oT,rfl,hT⟩
 .unfold Builtin.SmallTypes.ownedTupleIsFree;refine ya (y4 (s:=s) hz rfl (x:=.none) rfl (ym ?_));simp only[if_true];refine ya (wpAny_rule (ya (y4 (s:=s) hz rfl (x:=.ref TO) rfl (ya (Yj hz (by simp) fun g1 z1 s1=>ya ?_)))));have z1:Vd g1 z TI TO .ellipsis false:=z1;simp only[List.zipIdx_cons,List.zipIdx_nil,QX,jU];refine ya (ya ?DP);show wpAny _ _ ?qX _ _ _;cases hx:xs[k]? with
  |none=>
   refine ya (wpAny_nextOf_list_end hh ?Bz ?By hx fun g2 e s2 he=>?_);obtain⟨oe,h1,h2⟩:=he;have z2:Vd g2 z TI TO .ellipsis false:=s2 _ _ D.i1z.symm z1;have ne:e≠z:=fun q=>by subst q;rw[z2] at h1;cases h1;simp at h2
   exact Yj z2 (by simp) fun g3 _ s3=>K g3 e (fun b o c1 _ c3 _ q=>s3.extBut _ _ c1 ?HM) ⟨oe,s3.extBut _ _ ne h1,h2⟩
  |some x=>
   have hy:ys[k]?=none:=hend.resolve_left ?kQ;refine ya (qe ?Bz ?By hx fun g2 j1 s2=>ym ?_);have o2:IsPair g2 TO a b:=s2.extBut _ _ D.TOi1 ?HO;refine ya (Yy o2 rfl (ya (qv o2 fun g3 o3 s3=>ya (wpAny_letGo (ym (ya (ya ?DP)))))));show wpAny _ _ ?qW _ _ _;refine ya (wpAny_nextOf_list_end hh ?xE ?xG hy fun g4 e s4 he=>?_);obtain⟨oe,h1,h2⟩:=he;have z4:Vd g4 z TI TO .ellipsis false:=s4 _ _ D.i2z.symm ?I3;have ne:e≠z:=fun q=>by subst q;rw[z4] at h1;cases h1;simp at h2
   exact Yj z4 (by simp) fun g5 _ s5=>K g5 e (fun b o c1 c2 c3 c4 q=>?Kd) ⟨oe,s5.extBut _ _ ne h1,h2⟩
 .refine av hz hT fun g1 z1 s1=>?_;simp only[Y3,if_false,←Array.forIn_toList,QX,jU];refine ya (ya (ya (YG ?_)));show wpAny _ _ ?qX _ _ _;cases hx:xs[k]? with
  |none=>exact ya (wpAny_nextOf_list_end hh ?Bz ?By hx fun g2 e s2 he=>K g2 e (fun b o c1 _ c3 _ q=>?HM) he)
  |some x=>
   have hy:ys[k]?=none:=hend.resolve_left ?kQ;refine ya (qe ?Bz ?By hx fun g2 j1 s2=>ym (ym ?_));refine ya (ya (YG ?_));show wpAny _ _ ?qW _ _ _;exact ya (wpAny_nextOf_list_end hh ?vQ ?vY hy fun g4 e s4 he=>K g4 e (fun b o c1 c2 c3 c4 q=>s4 _ _ c4 ?Id) he)
theorem kM {TI TO:Addr}(hz:?Gs)(h:∀ A' E',wpAny ?AG A' ?yN (fun fin s'=>∃ v,fin=.done (.ret v)/\Q ?Cf s') E' s) :
  wpAny ?AG A ?Ee Q E s:=by
 have hT:s.TypeIs (.ref z) "zip" := ?Fq
 unfold pyNext;refine ya (wpAny_attempt (YN (name:=?wW) hT F.slot_zip_next (YQ F.slot_zip_next hT F.entry_zip_next (Y7 (h _ _) (fun fin s' q=>?_) fun _ _ e=>e) ?Gk)));obtain⟨v,rfl,q⟩:=q;exact⟨v,rfl,ym q⟩
theorem XF {z TI TO:Addr}(hz:?Gs)(hh:?yJ)
  (h:∀ A' (Q':Fin->Shared->Prop) (E':Value->Shared->Prop),A'.handled=none->(∀ e s',(∃ o,s'.heap.get? e=some o/\o.cls=.type "StopIteration")->Q none s'->E' (.ref e) s')->wpAny ?AG A' ?yN Q' E' s) :
  wpAny ?AG A ?Ee Q E s:=by
 have hT:s.TypeIs (.ref z) "zip" := ⟨_,hz,rfl⟩
 unfold pyNext;refine ya (wpAny_attempt (YN (name:=?wW) hT F.slot_zip_next (YQ F.slot_zip_next hT F.entry_zip_next (h _ _ _ hh fun e s' ho q=>?_) ?Gk)));obtain⟨o,ho,hc⟩:=ho;exact ya (wpAny_isInstance (T:="StopIteration") (b:=true) ⟨o,ho,hc⟩ isSubtype_stop (ym q))
theorem rh {z TI TO:Addr}(hz:?Gs)(h:Q ?Ao s):?L1:=by
 have hT:s.TypeIs (.ref z) "zip" := ?Fq
 refine ?KF;show wpAny _ _ (ret ?Ao) _ _ s;exact ym ⟨_,rfl,"zip", _,hT,F.slot_zip_next.lookup,h⟩
end
namespace ZK
theorem entry_ga:entryFor table "zip.__getattribute__" = some Builtin.«object.__getattribute__»:=
 entryFor_alias (id':="object.__getattribute__") ?jF (by first|rfl|decide +kernel|(unfold String.splitOn;simp +decide [String.splitOnAux])) ?D ?jF
theorem ga_none:typeLookup ?yI "__getattr__" = pure none:=am_miss_of_fast ?jF
theorem keys_none:typeLookup ?yI "keys" = pure none:=am_miss_of_fast ?jF
end ZK
theorem xJ (z:Addr)(fs:?BL)(u:Tok):Meets (Builtin.«object.__getattribute__» ⟨[.ref z,.str "keys" u],[]⟩) fun A R s=>s.heap.get? z=some {cls:=?yI, dict:=none,data:=?Hq,slots:=#[]}/\raisesAttr ?Ao "keys" A R s:=
 .of_wp fun prog w A R s h=>by
  obtain⟨hp,g,d,tk,os⟩:=s;obtain⟨q,hh,h⟩:=h;have hz:Heap.get? (Shared.heap ⟨hp,g,d,tk,os⟩) z=some {cls:=?yI, dict:=none,data:=?Hq,slots:=#[]}:=q;have f1:=ZK.keys_none;have hT:Shared.TypeIs ⟨hp,g,d,tk,os⟩ (.ref z) "zip" := ?Fq
  wp_walk
  exact wpAny_raiseAttrError (show A.in1.handled=none from hh) (fun h' tk' e x=>h h' tk' e x) ?D
section
theorem iH(hh:?yJ)(hz:s.heap.get? z=some {cls:=?yI, dict:=none,data:=?Hq,slots:=#[]})
  (K:∀ g tk,(∀ b o,s.heap.get? b=some o->g.get? b=some o)->Q none {s with heap:=g,toks:=tk}):wpAny ?AG A (getAttr? ?Ao "keys") Q E s:=by
 obtain⟨hp,g,d,tk,os⟩:=s;have q:Heap.get? (Shared.heap ⟨hp,g,d,tk+1,os⟩) z=some {cls:=?yI, dict:=none,data:=?Hq,slots:=#[]}:=hz;have hT:Shared.TypeIs ⟨hp,g,d,tk+1,os⟩ (.ref z) "zip" := ⟨_,q,rfl⟩
 have f1:=sub_AttributeError;have f3:=F.slot_zip_getattribute.lookup;have f4:=F.slot_zip_getattribute.bind ?Ao;have f5:=ZK.ga_none;have C:∀ {A':Around} {E':Value->Shared->Prop} {Q':Value->Shared->Prop},A'.handled=none->(∀ h' tk' e,Heap.NewAttrErr hp h' e ?Ao "keys" -> E' (.ref e) ⟨h',g,d,tk',os⟩)->wpAny ?AG A' (call (.builtin "zip.__getattribute__") [.ref z,.str "keys" tk]) Q' E' ⟨hp,g,d,tk+1,os⟩:=fun h1 h2=>
  call_meets F.slot_zip_getattribute hT ZK.entry_ga (F.args_zip_getattribute_2 _ _) (xJ z fs tk) ⟨q,h1,h2⟩
 unfold getAttr? getAttrBy?;refine ya (wpAny_mkText (ya (wpAny_attempt ?_)));unfold getAttrBy;refine YG (ya (wpAny_typeOf hT (ya (wpAny_of_eq f3 ?_))));show wpAny _ _ (if (onTheHeap (Value.type "zip")&&Value.builtin "zip.__getattribute__" == Value.builtin "object.__getattribute__")=true then _ else _) _ _ _;rw[yd (by decide)];unfold getAttrByItsOwn;refine ya (m:=hookBefore _) (ym (ya (wpAny_attempt (YG ?_))));refine ya (m:=bindSpecial _ _) (wpAny_of_eq f4 (C hh fun h' tk' e x=>?_));obtain⟨t',u',he⟩:=x.there;have hE:Shared.TypeIs ⟨h',g,d,tk',os⟩ (.ref e) "AttributeError" := ⟨_,he,rfl⟩
 dsimp only;unfold getattributeRaised;refine ya (wpAny_isInstance hE f1 ?_);rw[yc rfl];refine ya (m:=hookBehind _ _) (wpAny_of_eq f5 ?_);unfold hookOrError;dsimp only
 wp_walk
 exact K _ _ x.keeps
end
namespace ZK
theorem entry_loop:entryFor table "dict.update.loop" = some Builtin.«dict.update.loop»:=entryFor_of_tree ?jF
theorem plain_loop:plainId "dict.update.loop" = true:=by decide +kernel
end ZK
section
theorem gY(h:IsPair s.heap T x y)(q:Q [x,y] s):wpAny ?AG A (Builtin.Dict.pairItems (.ref T)) Q E s:=by
 have hT:s.TypeIs (.ref T) "tuple" := ⟨_,h,rfl⟩
 unfold Builtin.Dict.pairItems;refine ya (wpAny_typeOf hT ?_);rw[yc (by decide)];obtain⟨hp,g,d,tk,os⟩:=s
 wp_walk
 exact q
def vG (h:Heap)(z TI TO i1 i2 l1 l2:Addr)(xs ys:?BL)(k:Nat):Prop:=
 ∃ f0 f1,Vd h z TI TO f0 f1/\((f0=.none/\f1=false)∨∃ (T:Addr) (o:Obj),f0=rawInt T/\h.get? T=some o)/\ZipL h TI i1 i2 l1 l2 xs ys k/\∃ a b,IsPair h TO a b
theorem vG.next {z TI TO i1 i2 l1 l2:Addr}(D:?FU)(S:?Kv)(hx:xs[k]?=some x)(hy:ys[k]?=some y)
  (K:∀ g,vG g z TI TO i1 i2 l1 l2 xs ys (k+1)->IsPair g s.heap.objs.size x y->g.objs.size=s.heap.objs.size+1->?qT->Q (some ?Eo) {s with heap:=g}) :
  wpAny ?AG A ?Ee Q E s:=by
 obtain⟨f0,f1,hz,hf,c,a,b,ho⟩:=S;rcases hf with ⟨rfl,rfl⟩|⟨T,oT,rfl,hT⟩
 .exact kM hz fun A' E'=>pD D hz c ho hx hy fun g z1 o1 c1 n1 sz fr=>K g ⟨_,_,z1,.inr ⟨_,_,rfl,n1⟩,c1,_,_,o1⟩ n1 sz fr
 .refine kM hz fun A' E'=>rj D hz c hT hx hy fun g z1 c1 n1 sz fr=>K g ⟨_,_,z1,.inr ⟨T,?_⟩,c1,a,b,fr _ _ D.TOz D.TOi1 D.TOi2 ho⟩ n1 sz fun b o c1 _ c3 c4 e=>fr b o c1 c3 c4 e;by_cases e1:T=z
  .subst e1;exact⟨_,rfl,z1⟩
  .by_cases e2:T=i1
   .obtain⟨o,h1,_⟩:=c1.a1;exact⟨o,rfl,e2▸h1⟩
   .by_cases e3:T=i2
    .obtain⟨o,h1,_⟩:=c1.a2;exact⟨o,rfl,e3▸h1⟩
    .exact⟨oT,rfl,fr _ _ e1 e2 e3 hT⟩
theorem vG.fin {z TI TO i1 i2 l1 l2:Addr}(hh:?yJ)(D:?FU)(S:?Kv)(hend:xs[k]?=none∨ys[k]?=none)
  (K:∀ g,?qT->Q none {s with heap:=g}) :
  wpAny ?AG A ?Ee Q E s:=by
 obtain⟨f0,f1,hz,hf,c,a,b,ho⟩:=S;exact XF hz hh fun A' Q' E' h1 h2=>Cm h1 D hz hf c ho hend fun g e fr he=>h2 e _ he (K g fr)
theorem vG.put {d z TI TO i1 i2 l1 l2:Addr}(S:vG h z TI TO i1 i2 l1 l2 xs ys k)(hd:d∉[z,TI,TO,i1,i2,l1,l2])(e:∀ b o,b≠d->h.get? b=some o->g.get? b=some o)(hg:∃ o,g.get? d=some o):vG g z TI TO i1 i2 l1 l2 xs ys k:=by
 obtain⟨f0,f1,hz,hf,c,a,b,ho⟩:=S;simp only[yB,Yv,or_false,not_or] at hd;obtain⟨d1,d2,d3,d4,d5,d6,d7⟩:=hd;refine⟨f0,f1,e _ _ (Ne.symm d1) hz,hf.imp id ?_,c.put (z:=z) (TO:=TO) fun b hb o=>e b o ?_,a,b,e _ _ (Ne.symm d3) ho⟩
 .rintro⟨T,o,h1,h2⟩;by_cases hT:T=d
  .subst hT;obtain⟨o',h3⟩:=hg;exact⟨T,o',h1,h3⟩
  .exact⟨T,o,h1,e _ _ hT h2⟩
 .rcases hb with rfl|rfl|rfl|rfl|rfl
  .exact Ne.symm d2
  .exact Ne.symm d4
  .exact Ne.symm d5
  .exact Ne.symm d6
  .exact Ne.symm d7
def eR [DecidableEq K]:List (K×Value)->List K->List Value->List (K×Value)
 |kvs,k::ks,y::ys=>eR (stored kvs k y) ks ys
 |kvs,_,_=>kvs
theorem lG {K:Type}[DecidableEq K]{kvs:List (K×Value)}{k:K}:(stored kvs k v).length<=kvs.length+1:=by
 unfold stored;split
 .simp
 .simp
theorem aT {K:Type}[DecidableEq K]{knd:KeyKind prog w K}{d z TI TO i1 i2 l1 l2:Addr}{xs ys:?BL}{h0:Heap}{R:Result->Shared->Prop}(D:?FU)(hd:d∉[z,TI,TO,i1,i2,l1,l2])(hh:?yJ)(hz:xs.size=ys.size):∀ (ks:List K) (i:Nat) (kvs:List (K×Value)) (s:Shared),
  ks.length+i=xs.size->(∀ j k,ks[j]?=some k->∃ x,xs[i+j]?=some x/\knd.is k x=true)->kvs.length+ks.length<=sizeLine->s.heap.DictOf knd d kvs->vG s.heap z TI TO i1 i2 l1 l2 xs ys i->(∀ b o,b≠d->b≠z->b≠TO->b≠i1->b≠i2->h0.get? b=some o->s.heap.get? b=some o)->
  (∀ g tk,g.DictOf knd d (eR kvs ks (ys.toList.drop i))->(∀ b o,b≠d->b≠z->b≠TO->b≠i1->b≠i2->h0.get? b=some o->g.get? b=some o)->R (.ok (.ret .none)) {s with heap:=g,toks:=tk})->
  codeAny ?AG A (.builtin "dict.update.loop" ⟨[.ref d,.ref z,rawInt i,.none],[]⟩) R s
 |[],i,kvs,s,hl,hk,hs,dd,S,fr,fin=>by
  refine ?LA;rw[Around.under_plainId ZK.plain_loop _];have hi:i=xs.size:=by simpa using hl
  refine ya (vG.fin (A:=A.in1) hh D S (.inl (Array.getElem?_eq_none_iff.mpr ?A)) fun g fr2=>?_);refine ya (m:=Builtin.Dict.addKeywords d []) (ym (ym ?_));have e1:d≠z:=fun e=>hd (by simp[e]);have e2:d≠TO:=fun e=>hd (by simp[e]);have e3:d≠i1:=fun e=>hd (by simp[e]);have e4:d≠i2:=fun e=>hd (by simp[e]);exact fin g _ (dd.at fun o e=>fr2 d o e1 e2 e3 e4 e) fun b o a1 a2 a3 a4 a5 e=>fr2 b o a2 a3 a4 a5 ?MB
 |k::ks,i,kvs,s,hl,hk,hs,dd,S,fr,fin=>by
  refine ?LA;rw[Around.under_plainId ZK.plain_loop _];obtain⟨x,hx,kx⟩:=hk 0 k rfl;rw[Nat.add_zero] at hx;have hi:i<xs.size:=by rw[yi] at hl;lia
  have hy:ys[i]?=some ys[i]:=Array.getElem?_eq_getElem ?A;have e1:d≠z:=fun e=>hd (by simp[e]);have e2:d≠TO:=fun e=>hd (by simp[e]);have e3:d≠i1:=fun e=>hd (by simp[e]);have e4:d≠i2:=fun e=>hd (by simp[e]);refine ya (vG.next (A:=A.in1) D S hx hy fun g S1 n1 sz fr1=>?_);refine ya (YG (ya (wpAny_tryCatch (gY n1 ?_))));refine YG (wpAny_dictSet_pairs kx (dd.at fun o e=>fr1 d o e1 e2 e3 e4 e) (fun g2 d2 s2=>?_) (by rw[yi] at hs;lia));refine ym ⟨?LL,?_⟩;have ei:rawInt ((i:Int)+1)=rawInt ((i+1:Nat):Int):=by simp
  show codeAny _ _ (.builtin "dict.update.loop" ⟨[.ref d,.ref z,rawInt ((i:Int)+1),.none],[]⟩) _ _;rw[ei];refine aT D hd hh hz ks (i+1) (stored kvs k ys[i]) _ (by rw[yi] at hl;lia) (fun j k' e=>?_) ?_ d2 (S1.put hd (fun b o hb e=>s2.extBut _ _ hb e) (let ⟨o,_,_,e,_⟩:=d2;?GD)) (fun b o a1 a2 a3 a4 a5 e=>s2.extBut _ _ a1 (fr1 b o a2 a3 a4 a5 ?MB)) fun g3 tk3 d3 f3=>?_
  .obtain⟨x',h1,h2⟩:=hk (j+1) k' (by simpa using e);exact⟨x',by rw[show i+1+j=i+(j+1) by lia];exact h1,h2⟩
  .have:=lG (kvs:=kvs) (k:=k) (v:=ys[i]);rw[yi] at hs;lia
  .refine fin g3 tk3 ?_ f3;rw[jG (by rw[Array.length_toList];lia)];exact d3
end
section
theorem aG [DecidableEq K]:∀ {ks:List K} {us:List Value} {kvs:List (K×Value)},ks.length=us.length->(kvs.map ?C++ks).Nodup->eR kvs ks us=kvs++ks.zip us
 |[],us,kvs,h,_=>by simp[eR]
 |k::ks,[],kvs,h,_=>by simp at h
 |k::ks,u::us,kvs,h,n=>by
  have hk:(kvs.any fun kv=>?qH)=false:=by
   rw[List.any_eq_false];intro p hp;have:p.1≠k:=fun e=>by
    have:=(Yr.mp n).2.2 p.1 (yA.mpr ⟨p,hp,rfl⟩) k (by simp);exact this e
   simpa using this
  have e:stored kvs k u=kvs++[(k,u)]:=by unfold stored;rw[yd (by rw[hk];exact yN)]
  rw[eR,e,aG (by simpa using h) (by simpa using n)];simp
theorem bG {K:Type}[DecidableEq K]{knd:KeyKind prog w K}{z TI TO i1 i2 l1 l2:Addr}{xs ys:?BL}{ks:List K}{Q:?zA}(D:?FU)(hh:?yJ)(hz:xs.size=ys.size)(hl:ks.length=xs.size)(hn:ks.Nodup)(hs:ks.length<=sizeLine)(hk:∀ (j:Nat) (k:K),ks[j]?=some k->∃ x,xs[j]?=some x/\knd.is k x=true)
  (S:vG s.heap z TI TO i1 i2 l1 l2 xs ys 0)
  (fin:∀ g tk,g.DictOf knd s.heap.objs.size (ks.zip ys.toList)->?qT->Q (.ref s.heap.objs.size) {s with heap:=g,toks:=tk}) :
  wpAny ?AG A (call (.type "dict") [.ref z]) Q E s:=by
 have hzz:z<s.heap.objs.size:=by obtain⟨_,_,h,_⟩:=S;exact yn h
 have hd:s.heap.objs.size∉[z,TI,TO,i1,i2,l1,l2]:=by
  obtain⟨_,_,h,_,c,_,_,ho⟩:=S;have a1:=yn h;have a2:=yn c.pr;have a3:=yn ho;obtain⟨_,b1,_⟩:=c.a1;obtain⟨_,b2,_⟩:=c.a2;obtain⟨_,b3,_⟩:=c.b1;obtain⟨_,b4,_⟩:=c.b2;have a4:=yn b1;have a5:=yn b2;have a6:=yn b3;have a7:=yn b4;intro e;simp only[yB,Yv,or_false] at e;rcases e with e|e|e|e|e|e|e
  all_goals first|exact qW a1 e|exact qW a2 e|exact qW a3 e|exact qW a4 e|exact qW a5 e|exact qW a6 e|exact qW a7 e
 refine callType_codes (Q₁:=fun obj s₁=>obj=.ref s.heap.objs.size/\s₁={s with heap:=?kA}) F.kt_called_dict (F.kt_typeCall_dict_1 _) F.entry_dict_init (kt_code_dict_new _ ⟨rfl,rfl⟩) fun obj s₁ h₁=>?_;obtain⟨rfl,rfl⟩:=h₁;have hT:Shared.TypeIs {s with heap:=?kA} (.ref s.heap.objs.size) "dict" := ⟨_,yF _ rfl,rfl⟩
 refine⟨hT,F.args_dict_init_2 _ _,?_⟩;have S1:vG (s.heap.push {cls:=.type "dict", data:=.dict #[]}) z TI TO i1 i2 l1 l2 xs ys 0:=S.put hd (fun b o _ e=>?At) ⟨_,yF _ rfl⟩;obtain⟨f0,f1,hzz1,_⟩:=id S1;have tz:Shared.TypeIs {s with heap:=?kA} (.ref z) "zip" := ⟨_,hzz1,rfl⟩
 unfold Builtin.«dict.__init__»;refine ya (m:=Builtin.Dict.selfAndRest "__init__" _) ?_;unfold Builtin.Dict.selfAndRest;refine ya (m:=Builtin.Dict.notOrdered "__init__" _) ?_;unfold Builtin.Dict.notOrdered;rw[yc (by decide +kernel)];refine ya (wpAny_typeOf hT ?_);rw[yd (by decide)];refine ym ?_;refine ya (m:=Builtin.Dict.addrOf (.ref s.heap.objs.size)) (ym (ym ?_));show wpAny _ _ (Builtin.Dict.updateFrom "dict.__init__" s.heap.objs.size (.ref z) [] .none) _ _ _;unfold Builtin.Dict.updateFrom;refine ya (wpAny_typeOf tz ?_);rw[yc (by decide)];refine ya (iH (show A.in1.in1.handled=none from hh) hzz1 fun g tk kp=>?_);rw[yc (show(none:Option Value).isNone=true from rfl)];have S2:vG g z TI TO i1 i2 l1 l2 xs ys 0:=S1.put hd (fun b o _ e=>kp b o e) ⟨_,kp _ _ (yF _ rfl)⟩;obtain⟨f0',f1',hzz2,_⟩:=id S2;refine ya (wpAny_rule (ya (rh hzz2 (ym ⟨?LL,?_⟩))));have d0:Heap.DictOf knd g s.heap.objs.size []:=Heap.DictOf.at (Heap.DictOf.new ..) fun o e=>kp _ o e;refine aT (A:=A.in1) (knd:=knd) (h0:=s.heap) D hd hh hz ks 0 [] _ (by simpa using hl) (fun j k e=>by rw[qK];exact hk j k e) (by simpa using hs) d0 S2 (fun b o _ _ _ _ _ e=>kp _ _ ?At) fun g3 tk3 d3 f3=>?_;refine⟨rfl,fin g3 tk3 ?_ fun b o a1 a2 a3 a4 e=>f3 b o (Yb (yn e)) a1 a2 a3 a4 e⟩;rw[List.drop_zero,aG (by rw[hl,hz,Array.length_toList]) (by simpa using hn),Je] at d3;exact d3
end
end PySem
namespace L2
open PySem PySem.Spec PyProof.Rows
section
theorem Qt.there (x:?Ja):∃ ob,h.get? a=some ob:=by
 cases o with
 |lst xs=>obtain⟨_,_,_,_,e⟩:=x;exact ?Dz
 |tup xs=>obtain⟨_,_,_,ob,e,_⟩:=x;exact⟨ob,e⟩
 |dK kvs=>obtain⟨_,_,_,_,o,_,_,e,_⟩:=x;exact ?GD
 |dT kvs=>obtain⟨_,_,_,_,o,_,_,e,_⟩:=x;exact ?GD
 |set S n=>obtain⟨o,_,_,_,e,_⟩:=x;exact ?GD
 |ins C dx fs=>obtain⟨_,_,_,e,_⟩:=x;exact ?Dz
 |own y=>obtain⟨u,e⟩:=x;exact⟨u,e⟩
 |xd fs=>obtain⟨_,⟨u,_,_,e,_⟩,_⟩:=x;exact⟨u,e⟩
 |rng lo hi=>obtain⟨_,_,_,e⟩:=x;exact ?Dz
 |frz ob u=>obtain⟨e,_⟩:=x;exact ?Dz
 |tbl ps=>
  have e:h.get? a=some _:=x;exact ?Dz
 |met f y=>
  have e:h.get? a=some _:=x;exact ?Dz
 |ext φ=>obtain⟨_,⟨u,e⟩,_⟩:=x;exact⟨u,e⟩
end
section
end
section
end
section
end
section
end
section
end
def Lm (a:Addr)(cls:?AJ):HO:=.ext fun h=>∃ o vs,h.get? a=some o/\o.cls=cls/\o.data=.fields vs
section
end
section
end
section
end
open PySem.Calls PySem.W PySem.Builtin PySem.Builtin.ObjectAttr PySem.Builtin.Getset_descriptor
section
end
def cV:V->Value
 |.ref a=>.ref a
 |.ty n=>.type n
 |_=>.none
theorem Fu(r:YX c u)(h:cV c≠.none):u=cV c:=by
 cases c <;> first|exact r|exact absurd rfl h
section
theorem nE:OpR X (binaryOp .Mult) (rI IntMulOk fun i j=>.int (i*j)):=opI fun _ _ _ _ _ _ _ hc q=>mul_int q hc
end
structure Pyl (X:Cx):Prop where
 tree:X.prog.given.tree=none
 fr:∃ env l,X.stack=env::l/\env.scope.isGenerator=false/\env.scope.isCoroutine=false/\env.builtins=builtinsNs/\env.globals=mainGlobals
 dp:X.A.depth+Builtin.pylongFrames<recursionLimit
theorem Pyl.room(p:Pyl X)(I:?A6):PylongRoom ?AF X.A s:=by
 obtain⟨env,l,h1,h2,h3,h4,h5⟩:=p.fr;exact PylongRoom.of I.nolimit p.dp (SeerAt.of (I.ok.mod.seer.keeps I.bk) p.tree (I.ok.frames.trans (congrArg some h1)) h2 h3 h4 h5)
section
theorem BU (p:Pyl X):OpR X (binaryOp .FloorDiv) (rI (fun _ j=>j≠0) fun i j=>.int (i.fdiv j)):=by
 intro pins s σ H x y v u Q I rx ry h;obtain⟨i,j,rfl,rfl,hc,q⟩:=h;obtain⟨t,rfl⟩:=rx;obtain⟨t',rfl⟩:=ry;exact floordiv_int hc ⟨.int (i.fdiv j),H,?B3,?Bt,q⟩ (Or.inr (p.room I))
end
def Yo (K:?A0)(mg:?J)(x:Str)(st:Stmt)(ps:?A1):Prop:=∃ f fd,Fun K x x st f fd/\mg x=some ?Am/\vf K fd ps []
def OkF (P:?AA)(w:?A9)(K:?A0)(mg:?J)(base:Heap)(CX:CXT)(k:Nat)(x:Str)(ps:?A1)(sp:Sp):Prop:=
 ∃ f fd,FnOk P w K mg base CX k f fd ps sp/\mg x=some ?Am/\W.keepIn K ?Am=true/\vf K fd ps []
theorem YY {K:?A0}{h:Heap}{mg:?J}(X:K.In h)(G:?JB){x:Str}{st:Stmt}(ps:?A1){f:Addr}{oc:?AJ}{od an:?Es}{osl:?EY}{kV doc pm cdv ct:?AJ}
  (a:W.nsIn K mainGlobals x=some ?DU) (l:K.lookup f=some ?Lj)
  (c:W.codeIn K cdv x=true) (k:?vL)
  (hb:∀ (kV doc pm:Value) (an:Option Addr) (cdv ct:Value) (us:List Value),us.length=ps.length->bindArgs ?Hy ?jP=pure ?DX):?F2:=
 have F:=bI (st:=st) l c k
 ⟨f,_,F,W.mg_of X G a,F.binds hb⟩
section
variable {P:?AA}{w:?A9}{K:?A0}{mg:?J}{base:Heap}
theorem Yo.ok {x:Str}{st:Stmt}{N ps:?A1}{k:Nat}{sp:Sp}(d:?F2)(S:?BW)(len:∀ vs H Q E,?wV)
  (hbody:∀ (f:Addr) (cdv:Value) (A:Around) (outer:List Env) (s:Shared) (H:Hp) (vs:List V) (Q:VK) (E:XK),Room k ?FV->sp vs H Q E->
   ∃ t,PSs (?KZ).nox ?Ar t/\t {nx:=fun _ H'=>?Ay,rt:=Q} ?E7 H):OkF P w K mg base CX0 (k+1) x ps sp:=by
 obtain⟨f,fd,F,m,b⟩:=d;exact⟨f,fd,F.ok S len fun cdv A outer s H vs Q E hr h=>?I4,m,F.kp,b⟩
end
section
theorem xZ (o:OkF X.prog X.w X.K X.mg X.base CX0 k x ps sp)(hr:?Aw)(hg:?Af)(ha:?jE)(hdb:?L:=by decide)
  (he:?W:=by rfl) (hpl:?zD:=by rfl):PE X ?yZ (Fk sp [] E0 t):=by
 obtain⟨f,fd,F,m,kp,b⟩:=o;exact Ds F hr hg m kp b .nil uZ ha hdb he hpl
end
theorem xp {CX:CXT}{P:?AA}{w:?A9}{K:?A0}{mg:?J}{base:Heap}{N:?A1}{qual:Str}{scope:?BH}{f:Addr}{cd:?AJ}{A:?BD}{outer:?D5}{s:?AN}{H:Hp}{E:XK}{k:Nat}
  (ht:?jC) (hg:scope.isGenerator=false) (hc:scope.isCoroutine=false) (hr:Room k (A.deeper ?EO)) (hk:32<=k) :
  Pyl ?I1:=
 ⟨ht,⟨_,_,rfl,hg,hc,rfl,rfl⟩,by have:=hr.dp;show(A.deeper _).depth+100<_;lia⟩
theorem Pyl.nox(p:Pyl X):Pyl X.nox:=⟨p.tree,p.fr,p.dp⟩
theorem Hn {P:?AA}{w:?A9}{K:?A0}{h:Heap}{mg:?J}{n:Nat}{sp:Sp}(X:K.In h)(G:?JB){x y:Str}{st:Stmt}{fa f:Addr}{oc:?AJ}{od an:?Es}{osl:?EY}{kV doc pm cdv ct:?AJ}(hfa:mg x=some ?EI)
  (a:W.nsIn K mainGlobals x=some ?DU) (l:K.lookup f=some ?Lj)
  (c:W.codeIn K cdv x=true) (k:?vL)
  (hb:∀ v:Value,bindArgs ?Hy ⟨[v],[]⟩=pure [(y,v)])
  (ok:∀ (fd:FuncData) (base:Heap),K.In base->base.Ns mainGlobals mg->Fun K x x st fa fd->FnOk P w K mg base CX0 n fa fd [y] sp) :
  ∃ fd:FuncData,(∀ (s:Shared) (u:Value),BindsTo s fd ⟨[u],[]⟩ [(y,u)])/\∀ base:Heap,K.In base->base.Ns mainGlobals mg->FnOk P w K mg base CX0 n fa fd [y] sp:=by
 have e:=hfa.symm.trans (W.mg_of X G a);cases e;exact⟨_,fun s u=>.of_eq (hb u),fun base kb nb=>ok _ base kb nb (bI (st:=st) l c k)⟩
def Ju:List (Str×NameKind)->List (Str×Addr)->List (Str×Addr)->List (Str×Addr)
 |[],_,acc=>acc
 | (n,k)::r,cells,acc=>if k==.free then Ju r cells ((n,(cells.lookup n).getD 0)::acc) else Ju r cells acc
theorem V4:∀ {names:List (Str×NameKind)} {acc:List (Str×Addr)},(∀ y∈names,y.2=.free->(cells.lookup y.1).isSome=true)->(?J1).lookup x=some c->
  acc.lookup x=some c∨cells.lookup x=some c
 |[],_,_,h=>.inl h
 | (n,k)::r,acc,hf,h=>by
  have hr:∀ y∈r,y.2=.free->(cells.lookup y.1).isSome=true:=fun y hy=>hf y (ye _ hy);unfold Ju at h;by_cases hk:(k==NameKind.free)=true
  .rw[yc hk] at h;rcases V4 hr h with q|q
   .by_cases hx:(x==n)=true
    .rw[YB,hx] at q;have e:x=n:=beq_iff_eq.mp hx;subst e;have z:=hf (x,k) (by simp) (beq_iff_eq.mp hk);obtain⟨a,ha⟩:=Jy.mp z;have ha':cells.lookup x=some a:=ha;rw[ha'] at q
     right
     rw[ha'];exact q
    .rw[YB,jh.mpr hx] at q;exact ?Ck
   .exact .inr q
  .rw[yd hk] at h;exact V4 hr h
theorem ue:∀ {names:List (Str×NameKind)} {acc:List (Str×Addr)},(∃ c,acc.lookup x=some c)->∃ c,(?J1).lookup x=some c
 |[],_,h=>h
 | (n,k)::r,acc,⟨c,h⟩=>by
  unfold Ju;by_cases hk:(k==NameKind.free)=true
  .rw[yc hk];refine ue ?_;by_cases hx:(x==n)=true
   .exact⟨_,by rw[YB,hx]⟩
   .exact⟨c,by rw[YB,jh.mpr hx];exact h⟩
  .rw[yd hk];exact ue ⟨c,h⟩
theorem VW:∀ {names:List (Str×NameKind)} {acc:List (Str×Addr)},(x,NameKind.free)∈names->∃ c,(?J1).lookup x=some c
 | (n,k)::r,acc,h=>by
  unfold Ju;rcases yB.mp h with e|h
  .cases e;rw[yc (by decide)];exact ue ⟨_,by rw[YB,beq_self_eq_true]⟩
  .by_cases hk:(k==NameKind.free)=true
   .rw[yc hk];exact VW h
   .rw[yd hk];exact VW h
theorem VD:∀ (names:List (Str×NameKind)) (acc:List (Str×Addr)),(∀ y∈names,y.2=.free->(env.cells.lookup y.1).isSome=true)->
  (forIn names acc fun (y:Str×NameKind) (r:List (Str×Addr))=>if (y.2==NameKind.free)=true then (do let a ←cellOf env y.1;pure (ForInStep.yield ((y.1,a)::r))) else (pure ?Gz:Sem (ForInStep (List (Str×Addr)))))=pure (Ju names env.cells acc)
 |[],acc,_=>rfl
 | (n,k)::r,acc,hf=>by
  have hr:∀ y∈r,y.2=.free->(env.cells.lookup y.1).isSome=true:=fun y hy=>hf y (ye _ hy);rw[QX];unfold Ju;by_cases hk:(k==NameKind.free)=true
  .obtain⟨a,ha⟩:=Jy.mp (hf (n,k) (by simp) (beq_iff_eq.mp hk));have ha':env.cells.lookup n=some a:=ha;rw[yc hk];dsimp only;rw[yc hk,ha'];have e:cellOf env n=pure a:=by unfold cellOf;rw[ha']
   rw[e];exact VD r _ hr
  .rw[yd hk,yd hk];exact VD r _ hr
theorem uI(hf:∀ y∈sc.names,y.2=.free->(env.cells.lookup y.1).isSome=true):closureFor sc env=pure (Ju sc.names env.cells []):=by
 unfold closureFor;have h:=VD (env:=env) sc.names [] hf;dsimp only;have e:=congrArg (fun t:Sem (List (Str×Addr))=>t >>= fun r=>pure r) h;exact e
structure CArg where
 C:Addr
 s₀:Shared
 H₀:Hp
 fp:List Addr
def Cx.comp (X:Cx)(sc:?BH)(N:?A1)(c:CArg):Cx:=
 {X with N:=N,s₀:=c.s₀,H₀:=c.H₀,env:=compEnvC sc ?vG c.C X.env,outer:=X.stack,stack:=X.stack,ex:=c.fp,fn:=fun _=>?AE,pn:=[],xe:=fun _ _=>?AB}
structure CompOk (SX sc:?BH)(XN N:?A1)(nt:Nat)(caps:?DY):Prop where
 kind:sc.kind=.function
 nocell:∀ y∈sc.names,y.2≠.cell
 loc:∀ y∈sc.names,y.2=.local->sc.names.lookup y.1=some .local
 free:∀ y∈sc.names,y.2=.free->SX.names.lookup y.1=some .cell∨SX.names.lookup y.1=some .free
 len:N.length=nt+caps.length
 cap:((List.range caps.length).all fun j=>match N[nt+j]?,XN[caps.getD j 0]? with
  |some x,some y=>x==y&&sc.names.lookup x==some .free
  |_,_=>?AE)=true
theorem V2 {names:List (Str×NameKind)}{x:Str}{k:NameKind}(h:names.lookup x=some k):(x,k)∈names:=PySem.mem_of_lookup h
theorem Z4 {env:Env}:∀ {names:List (Str×NameKind)} {x:Str} {k:NameKind},
  (names.map fun (n,k)=>?wS).lookup x=some k->names.lookup x=some k∨(k=.cell/\names.lookup x=some .free)
 |[],_,_,h=>by simp at h
 | (n,k0)::r,x,k,h=>by
  rw[yD] at h;by_cases hx:(x==n)=true
  .by_cases hc:(k0==NameKind.free&&env.scope.kind==.function&&env.kindOf n==some .cell)=true
   .dsimp only at h;rw[yc hc,YB,hx] at h;cases h
    right
    refine⟨rfl,?_⟩;rw[YB,hx];simp only[Yg,beq_iff_eq] at hc;rw[hc.1.1]
   .dsimp only at h;rw[yd hc,YB,hx] at h
    left
    rw[YB,hx];exact h
  .have hx':=jh.mpr hx;have e:∀ q:Str×NameKind,q.1=n->List.lookup x (q::(r.map fun (n,k)=>?wS))=List.lookup x (r.map fun (n,k)=>?wS):=by
    intro q hq;obtain⟨a,b⟩:=q;dsimp only at hq;subst hq;rw[YB,hx']
   rw[e _ (by dsimp only;split <;> rfl)] at h;rcases Z4 h with z|z
   .left;rw[YB,hx'];exact z
   .right;refine⟨z.1,?_⟩;rw[YB,hx'];exact z.2
theorem V7 {env:Env}:∀ {names:List (Str×NameKind)} {x:Str},names.lookup x=some .free->
  (names.map fun (n,k)=>?wS).lookup x=some .cell ∨
  (names.map fun (n,k)=>?wS).lookup x=some .free
 |[],_,h=>by simp at h
 | (n,k0)::r,x,h=>by
  rw[yD];by_cases hx:(x==n)=true
  .rw[YB,hx] at h;cases h;dsimp only;by_cases hc:(NameKind.free==NameKind.free&&env.scope.kind==.function&&env.kindOf n==some .cell)=true
   .left;rw[yc hc,YB,hx]
   .right;rw[yd hc,YB,hx]
  .have hx':=jh.mpr hx;rw[YB,hx'] at h;dsimp only;split
   .rw[YB,hx'];exact V7 h
   .rw[YB,hx'];exact V7 h
theorem pO {prog:?AA}{w:?A9}{A:?BD}{R:Result->Shared->Prop}{s:?AN}{elt target iter:Expr}{ifs:?Ai}{scope:?BH}{pos:Pos}{it acc:?AJ}{env:Env}(J:Nat->Shared->Prop)
  (turn:∀ n s,J n s->wpAny ?AG A (pyNext it) (fun r s₁=>match r with
   |none=>R (.ok .next) s₁
   |some v=>wpAny ?AG A (letOwnedTupleGo target it v) (fun _ s1'=>wpAny ?AG A (assign target env v) (fun _ s₂=>
     wpAny ?AG A (forIn ifs true fun c r=>if r=true then do let ok ←isTrue c env (eval c env);pure ?J2 else pure ?Gz) (fun ok s₃=>
      if ok=true then wpAny ?AG A (eval elt env) (fun x s₄=>wpAny ?AG A (call (.builtin "list.append") [acc,x]) (fun _ s₅=>∃ m,m<n/\J m s₅) (fun _ _=>?AB) s₄) (fun _ _=>?AB) s₃
      else ∃ m,m<n/\J m s₃) (fun _ _=>?AB) s₂) (fun _ _=>?AB) s1') (fun _ _=>?AB) s₁) (fun _ _=>?AB) s)
  (n:Nat) (h:J n s):codeAny ?AG A (.compLoop (.ListComp elt [?Lx] scope pos) 0 it acc env) R s:=by
 refine codeAny_loop rfl J (fun n s hJ=>?_) n h;show wpAny _ A ((compTurn (.ListComp elt [?Lx] scope pos) 0 it acc env).onRaise (fun x=>do noteFrame x env;theTreesLotGoes x)) _ _ s;refine wpAny_noted ?_;rw[compTurn_list];refine ya (wpAny_standAt (ya (Y7 (turn n s hJ) (fun r s₁ h₁=>?_) fun _ _ z=>?AQ)));cases r with
 |none=>exact ym h₁
 |some v=>
  refine ya (Y7 h₁ (fun _ s1' h1'=>?_) fun _ _ z=>?AQ);refine ya (Y7 h1' (fun _ s₂ h₂=>?_) fun _ _ z=>?AQ);refine ya (Y7 h₂ (fun ok s₃ h₃=>?_) fun _ _ z=>?AQ);cases ok with
  |false=>exact ym ⟨rfl,h₃⟩
  |true=>
   refine ya (ya (Y7 h₃ (fun x s₄ h₄=>?_) fun _ _ z=>?AQ));refine ya (Y7 h₄ (fun _ s₅ h₅=>?_) fun _ _ z=>?AQ);exact ym (ym ⟨rfl,h₅⟩)
section
def xF (nt:Nat)(caps:?DY)(σ:St):St:=List.replicate nt none++caps.map fun i=>σ.getD i none
theorem CompOk.hf (S:?Cq)(I:?A6)(hX:?yQ):∀ y∈sc.names,y.2=.free->(X.env.cells.lookup y.1).isSome=true:=fun y hy hk=>by
 have q:=S.free y hy hk;rw[←hX] at q;obtain⟨c,e⟩:=I.ok.has y.1 q;rw[e];rfl
theorem Inv.enter (S:?Cq)(hX:?yQ)(hN:X.N=XN)(I:?A6){fp:?B9}(hf:∀ b∈fp,?Eu)(hlt:∀ b∈fp,b<s.heap.objs.size){h':Heap}{t':Nat}{m':?J}
  (hn:h'.Ns s.heap.objs.size m') (hk:∀ b o,s.heap.get? b=some o->h'.get? b=some o):Inv (X.comp sc N ⟨?C8,s,H,fp⟩) pins ?HP H {s with heap:=h',toks:=t'}:=by
 have hfr:=S.hf I hX;have sub:∀ x c,(?vG).lookup x=some c->X.env.cells.lookup x=some c:=fun x c e=>by
  rcases V4 hfr e with q|q
  .cases q
  .exact q
 have frs_lt:∀ b∈frs X.stack,b<s.heap.objs.size:=fun b hb=>by
  obtain⟨_,o,e,_⟩:=I.stack.mem hb;exact yn e
 have cells_lt:∀ x c,X.env.cells.lookup x=some c->c<s.heap.objs.size:=fun x c e=>by
  obtain⟨v,z⟩:=I.cell x c e;exact z.lt
 have offS:∀ b,b≠X.env.locals->b∉X.fs->b∉frs X.stack:=fun b h1 h2 z=>by
  rcases yB.mp (I.stkSub b z) with q|q
  .exact h1 q
  .exact h2 q
 have hex:∀ x,((?K3).names.lookup x=some .cell∨(?K3).names.lookup x=some .free)->∃ c,(?vG).lookup x=some c:=fun x hx=>by
  have fr:sc.names.lookup x=some .free:=by
   rcases hx with hx|hx
   .rcases Z4 (names:=sc.names) hx with z|z
    .exact absurd rfl (S.nocell _ (V2 z))
    .exact z.2
   .rcases Z4 (names:=sc.names) hx with z|z
    .exact z
    .cases z.1
  exact VW (V2 fr)
 refine⟨⟨I.ok.mod,S.kind,I.ok.glob,I.ok.blt,yg _,fun x y c e1 e2=>I.ok.inj x y c (sub x c e1) (sub y c e2),hex,fun x c e=>(by cases e),I.ok.hd,I.ok.frames,?A2,fun b hb=>?_,fun b o e=>I.bs b o e,yz I.ok.bsz I.sz,fun b o e hb=>?_,fun b hb=>?_,I.stack,I.stkFree⟩,
  rfl,?Dg,Un.kept hk,⟨m',hn,fun i x v e1 e2 e3=>?_⟩,fun x c e=>?_,?Bm,fun x c e=>I.freeC x c (sub x c e),fun p hp=>?_,I.hok.kept hk,?_⟩
 .obtain⟨f0,f1,f2,f3,f4,f5⟩:=hf b hb;refine⟨?_,fun x c e=>f4 x c (sub x c e)⟩;exact Yb (hlt b hb)
 .obtain⟨f0,f1,f2,f3,f4,f5⟩:=hf b hb;rcases f3 with z|z
  .exact I.ok.noex b o e z
  .exact absurd (yW (yn e) (yz I.ok.bsz z)) (jj _)
 .obtain⟨f0,f1,f2,f3,f4,f5⟩:=hf b hb;exact offS b f1 f2
 .-- a name that is taken over
  unfold xF at e2;by_cases hi:i<nt
  .rw[qZ (by simpa using hi),ja] at e2;split at e2 <;> cases e2
  .rw[qO (by simpa using hi),QS,yC] at e2;obtain⟨j,rfl⟩:∃ j,i=nt+j:=⟨i - nt,?A⟩
   rw[jV] at e2;cases ec:caps[j]? with
   |none=>rw[ec] at e2;cases e2
   |some ci=>
    rw[ec] at e2;have e2':σ.getD ci none=some v:=by simpa using e2
    have hj:j<caps.length:=(yk.mp ec).1;have q:=jM.mp S.cap j (qk.mpr hj);have ed:caps.getD j 0=ci:=by rw[yv,ec];rfl
    have e1':N[nt+j]?=some x:=e1;rw[e1',ed] at q;cases ex:XN[ci]? with
    |none=>rw[ex] at q;cases q
    |some y=>
     rw[ex] at q;simp only[Yg,beq_iff_eq] at q;obtain⟨rfl,qf⟩:=q;have eσ:σ[ci]?=some (some v):=by
      rw[yv] at e2';cases z:σ[ci]? with
      |none=>rw[z] at e2';cases e2'
      |some w'=>rw[z] at e2';exact congrArg some e2'
     obtain⟨m,hm,hl⟩:=I.loc;have vis:=S.free _ (V2 qf) rfl;rw[←hX] at vis;obtain⟨u,r,lk⟩:=hl ci x v (by rw[hN];exact ex) eσ (.inr vis);refine⟨u,r,.inr ⟨V7 qf,?_⟩⟩;obtain⟨c,hc⟩:=VW (cells:=X.env.cells) (acc:=[]) (V2 qf);have hc':=sub x c hc;rcases lk with ⟨k,_⟩|⟨k,c2,ec2,z⟩
     .exfalso;have k':X.env.scope.names.lookup x=some .local:=k;dsimp only at vis;rcases vis with v1|v1
      .rw[k'] at v1;cases v1
      .rw[k'] at v1;cases v1
     .rw[hc'] at ec2;cases ec2;obtain⟨o,ho,hd⟩:=z;exact⟨c,hc,o,hk c o ho,hd⟩
 .obtain⟨v,o,ho,hd⟩:=I.cell x c (sub x c e);exact⟨v,o,hk c o ho,hd⟩
 .obtain⟨e,n,ne,nf,d⟩:=I.pin p (y6 _ (show p∈pins from (Yw.mp hp).elim (fun z=>absurd (show p∈([]:?zF) from z) (by simp)) id));exact⟨hk _ _ e,n,Yb (yn e),offS _ ne nf,d⟩
 .unfold xF;rw[yI,QS,yf];exact S.len.symm
end
def nv (nt:Nat)(caps:?DY)(wi:TI)(g:CArg->TG)(tc:CArg->TT)(te:CArg->TE):TE:=fun σ H Q=>wi σ H fun J H1=>∀ D,H1 D=none->∀ c:CArg,∃ W:Nat->Nat->St->List V->Hp->Prop,
 (∃ m,W 0 m ?HP [] (upd H1 D (.lst [])))/\∀ i m σ' ys H',W i m σ' ys H'->H' D=some (.lst ys)/\ys.length<sizeLine/\
  ((J.stop i H'/\Q (.ref D) H')∨(J.go i H'/\∀ x H2,J.yld i H' x H2->g c x σ' H2 fun σ3 H3=>tc c σ3 H3 fun b H4=>if b=true then te c σ3 H4 fun y H5=>∃ ys',H5 D=some (.lst ys')/\ys'.length<sizeLine/\∃ m',m'<m/\W (i+1) m' σ3 (ys'++[y]) (upd H5 D (.lst (ys'++[y])))
   else ∃ ys' m',m'<m/\W (i+1) m' σ3 ys' H4))
def nM:CArg->TT:=fun _ _ H Q=>Q true H
section
variable {X:Cx}{tg iter elt:Expr}{ifs:?Ai}{sc SX:?BH}{N XN:?A1}{nt:Nat}{caps:?DY}{wi:TI}{g:CArg->TG}{tc:CArg->TT}{te:CArg->TE}{pos:Pos}
def PTs (X:Cx)(ifs:?Ai)(t:TT):Prop:=∀ (pins:List (Addr×Obj)) (s:Shared) (σ:St) (H:Hp) (Q:Bool->Hp->Prop),Inv X pins σ H s->t σ H Q->
 wpAny ?AF X.A (forIn ifs true fun c r=>if r=true then do let ok ←isTrue c X.env (eval c X.env);pure ?J2 else pure ?Gz) ?Fn X.xe s
theorem aY:PTs X [] (nM c):=fun pins s σ H Q I h=>wpAny_tests_nil ⟨H,I,h⟩
theorem DY(h:PT X c t):PTs X [c] t:=fun pins s σ H Q I hq=>wpAny_tests_one (h pins s σ H Q I hq)
theorem xL {pins:?zF}{σ:St}{H2:Hp}{s2:?AN}{it:Addr}{fp:?B9}{tn:Nat->Heap->Prop}{J:It}{Q:VK}{RR:Value->Addr->Result->Shared->Prop}{E:?zA}
  (S:?Cq) (hX:?yQ) (hN:X.N=XN) (hc:?zB) (hg:∀ c,?K7) (ht:∀ c,?Jg) (he:∀ c,?K0)
  (I2:Inv X pins σ H2 s2) (T:?LW) (st2:tn 0 s2.heap) (f2:∀ b∈fp,UM X pins H2 b)
  (h:∀ D,H2 D=none->∀ c:CArg,∃ W:Nat->Nat->St->List V->Hp->Prop,
   (∃ m,W 0 m ?HP [] (upd H2 D (.lst [])))/\∀ i m σ' ys H',W i m σ' ys H'->H' D=some (.lst ys)/\ys.length<sizeLine/\
   ((J.stop i H'/\Q (.ref D) H')∨(J.go i H'/\∀ x H2,J.yld i H' x H2->g c x σ' H2 fun σ3 H3=>tc c σ3 H3 fun b H4=>if b=true then te c σ3 H4 fun y H5=>∃ ys',H5 D=some (.lst ys')/\ys'.length<sizeLine/\∃ m',m'<m/\W (i+1) m' σ3 (ys'++[y]) (upd H5 D (.lst (ys'++[y])))
    else ∃ ys' m',m'<m/\W (i+1) m' σ3 ys' H4)))
  (hR:∀ D C s' m H',s'.heap.Ns C m->s2.heap.objs.size<C->Inv X pins σ H' s'->H' C=none->C≠X.env.locals->(∀ x c,X.env.cells.lookup x=some c->c≠C)->(∀ p∈X.pn++pins,p.1≠C)->X.s₀.heap.objs.size<=C->Q (.ref D) H'->RR (.ref D) C (.ok .next) s') :
  wpAny ?AF X.A (newList []) (fun acc s₃=>wpAny ?AF X.A (newFunctionEnv sc X.env.globals ?vG [] X.env.qual none .none (some X.env)) (fun cenv s₄=>
   codeAny ?AF X.A (.compStart ?qU 0 ?CE acc {cenv with scope:=?K3}) (RR acc cenv.locals) s₄) E s₃) E s2:=by
 have lt2:∀ b∈fp,b<s2.heap.objs.size:=fun b hb=>by
  obtain⟨o,e,_⟩:=T.obj _ _ st2 b hb;exact yn e
 have hD0:H2 s2.heap.objs.size=none:=I2.hok.fresh ?AC;have I3:Inv X pins σ (upd H2 s2.heap.objs.size (.lst [])) {s2 with heap:=s2.heap.push {cls:=?R, dict:=none,data:=.seq ([]:?AY).toArray}}:=
  I2.laid (t':=s2.toks) (fun b u e=>?At) ?AC ⟨Y0 _,[],0,.nil,?Be⟩
 have f3:∀ b∈fp,UM X pins (upd H2 s2.heap.objs.size (.lst [])) b:=fun b hb=>⟨by rw[yX (Yb (lt2 b hb))];exact(f2 b hb).1,(f2 b hb).2⟩
 refine qE (wpAny_newFunctionEnv S.nocell (by intro y hy;simp at hy) (fun h1 hn1 hs1=>?_) S.kind);dsimp only at hn1 hs1 ⊢;generalize hg3:({s2 with heap:=s2.heap.push {cls:=?R, dict:=none,data:=.seq ([]:?AY).toArray}}:?AN)=s3 at I3;have e3:s2.heap.push {cls:=?R, dict:=none,data:=.seq ([]:?AY).toArray}=s3.heap:=by rw[←hg3]
 rw[e3] at hn1 hs1 ⊢;have lt3:∀ b∈fp,b<s3.heap.objs.size:=fun b hb=>by
  rw[←e3,YU];exact Nat.lt_succ_of_lt (lt2 b hb)
 have hC2:s2.heap.objs.size<s3.heap.objs.size:=by rw[←e3,YU];exact ?Ji
 have hk:∀ b o,s3.heap.get? b=some o->h1.get? b=some o:=fun b o e=>hs1.extBut b o (Yb (yn e)) ?At;have I4:=I3.enter S hX hN f3 lt3 (t':=?xF) hn1 hk;have fin:∀ {s':Shared} {σ':St} {H':Hp},Inv ?yV pins σ' H' s'->Q ?J3 H'->RR ?J3 s3.heap.objs.size (.ok .next) s':=fun {s' σ' H'} I' q=>by
  obtain⟨m,hm,_⟩:=I'.loc;refine hR _ _ s' m H' hm hC2 (I3.call' (ch:=fp) I'.os I'.base I'.hok I'.bare fun b hb=>?_) I'.free (qW I3.lt) (fun x c e=>?_) (fun p hp=>?_) I3.sz q
  .obtain⟨g0,g1,g2,g3,g4,g5⟩:=f3 b hb;exact⟨g3,g1,g4,g5⟩
  .obtain⟨v,z⟩:=I3.cell x c e;exact Yb z.lt
  .exact Yb (yn (I3.pin p hp).1)
 have subc:∀ x c,(?vG).lookup x=some c->X.env.cells.lookup x=some c:=fun x c e=>by
  rcases V4 (S.hf I3 hX) e with q|q
  .cases q
  .exact q
 obtain⟨W,⟨m0,w0⟩,step⟩:=h _ hD0 ⟨s3.heap.objs.size,s3,upd H2 s2.heap.objs.size (.lst []),fp⟩;have stat:∀ {H':Hp},?wI->∀ b∈fp,UM ?yV pins H' b:=fun {H'} hn b hb=>by
  obtain⟨g0,g1,g2,g3,g4,g5⟩:=f3 b hb;refine⟨hn b hb,Yb (lt3 b hb),fun z=>?_,.inl hb,fun x c e=>g4 x c (subc x c e),fun p hp=>g5 p (y6 _ ((Yw.mp hp).elim (fun z=>absurd (show p∈([]:?zF) from z) (by simp)) id))⟩;rcases yB.mp (I3.stkSub b z) with q|q
  .exact g1 q
  .exact g2 q
 have st4:tn 0 h1:=T.keep _ _ _ st2 fun b hb o e=>hk b o (by rw[←e3];exact ?At);have fr4:∀ b∈fp,upd H2 s2.heap.objs.size (.lst []) b=none:=fun b hb=>(f3 b hb).1;have hs4:({s2 with heap:=h1,toks:=?xF}:Shared)={s3 with heap:=h1,toks:=?xF}:=by rw[←hg3]
 rw[hs4];have loop:codeAny (model X.prog X.w) X.A (.compLoop (.ListComp elt [⟨tg,iter,ifs,0⟩] sc pos) 0 (.ref it) (.ref s2.heap.objs.size) (compEnvC sc (Ju sc.names X.env.cells []) s3.heap.objs.size X.env)) (RR (.ref s2.heap.objs.size) s3.heap.objs.size)
   {s3 with heap:=h1,toks:=?xF}:=by
  refine pO (fun n s'=>∃ i σ' ys H',Inv ?yV pins σ' H' s'/\tn i s'.heap/\?wI/\W i n σ' ys H') ?_ m0 ⟨0,_,[],_,I4,st4,fr4,w0⟩;rintro n s' ⟨i,σ',ys,H',I',st',fr',w'⟩;obtain⟨hD,hz,alt⟩:=step i n σ' ys H' w';rcases alt with ⟨stop,qn⟩|⟨go,turn⟩
  .refine thn (T.done ?yV rfl rfl rfl hc i pins s' σ' H' _ I' (stat fr') st' stop) fun r s4 ⟨hr,J4⟩=>?_;subst hr;exact fin J4 qn
  .refine thn (T.item ?yV rfl rfl rfl hc i pins s' σ' H' _ I' (stat fr') st' go) fun r s4 ⟨u,hr,h4⟩=>?_;subst hr;refine thn h4 fun _ s5 ⟨x,H5,I5,r5,y5,st5,fr5⟩=>?_;have I5':=I5.pinned (stat fr5) (T.obj _ _ st5);refine thn (hg _ _ s5 σ' H5 x u _ I5' r5 (turn x H5 y5)) fun _ s6 ⟨σ6,H6,I6,q6⟩=>?_;refine thn (ht _ _ s6 σ6 H6 _ I6 q6) fun ok s7 ⟨H7,I7,q7⟩=>?_;have again:∀ {s8:Shared} {H8:Hp} {ys8:List V} {m8:Nat},Inv ?yV (pins++WU fp s5.heap) σ6 H8 s8->m8<n->W (i+1) m8 σ6 ys8 H8->
     ∃ m,m<n/\∃ i σ' ys H',Inv ?yV pins σ' H' s8/\tn i s8.heap/\?wI/\W i m σ' ys H':=fun {s8 H8 ys8 m8} I8 hm w8=>by
    refine⟨m8,hm,i+1,σ6,ys8,H8,I8.unpinned,T.keep _ _ _ st5 fun b hb o e=>(I8.pin (b,o) ?H4).1,fun b hb=>?_,w8⟩;obtain⟨o,e,d⟩:=T.obj _ _ st5 b hb;exact(I8.pin (b,o) ?H4).2.1
   cases ok with
   |false=>
    obtain⟨ys8,m8,hm,w8⟩:=q7;exact again I7 hm w8
   |true=>
    refine thn (he _ _ s7 σ6 H7 _ I7 q7) fun y s8 ⟨v,H8,I8,r8,ys8,e8,z8,m8,hm,w8⟩=>?_;refine thn (wg (X:=?yV) _ s8 σ6 H8 ?J3 [v] _ [y] (fun _ H9=>H9=upd H8 s2.heap.objs.size (.lst (ys8++[v]))) I8 rfl (.cons r8 .nil) ⟨_,ys8,v,rfl,rfl,e8,z8,rfl⟩)
     fun _ s9 ⟨_,H9,I9,_,e9⟩=>?_
    subst e9;exact again I9 hm w8
 exact codeAny_compStart_list loop (T.self X.A 0 _ _ _ st4 loop)
theorem ox (S:?Cq)(hi:?JQ)(hg:∀ c,?K7)(ht:∀ c,?Jg)(he:∀ c,?K0)(hc:?zB:=by rfl)(hX:?yQ:=by rfl)(hN:X.N=XN:=by rfl)
  (hs:∀ x,foldedSetIterable iter X.env x=pure x:=by intro _;rfl):PE X ?qU (nv nt caps wi g tc te):=by
 intro pins s σ H Q I h;rw[eval_ListComp];refine wpAny_comprehension_free (use:=none) rfl hs (uI (S.hf I hX)) S.kind S.loc (thn ?Ii fun v s1 h1=>thn h1 fun itv s2 h2=>?_);obtain⟨it,fp,tn,J,H2,rfl,I2,T,st2,f2,h2⟩:=h2;refine xL (RR:=fun acc C=>compPost ?AF X.A X.xe none ?Bj acc C) S hX hN hc hg ht he I2 T st2 f2 h2 fun D C s' m H' hm hC I' hf hL hcl hpn hs0 q=>?_;refine⟨m,hm,fun h'' hs''=>⟨.ref D,H',I'.turned (it:=C) (t':=s'.toks) (fun b o hb e=>hs''.extBut b o hb e) hf hL (.inr hs0) hcl hpn,rfl,q⟩⟩
theorem ma(S:?Cq)(hnd:?CC)(hix:X.N[i]?=some y)(hy:?JF)(hi:?JQ)(hg:∀ c,?K7)(ht:∀ c,?Jg)(he:∀ c,?K0)
  (hsw:swapsWith ?qU (some ?G1) spos.line X.env=pure true:=by rfl) (hc:?zB:=by rfl) (hX:?yQ:=by rfl) (hN:X.N=XN:=by rfl)
  (hs:∀ x,foldedSetIterable iter X.env x=pure x:=by intro _;rfl) (hf:?xU:=by first|exact .inl rfl|exact ?D7):PS X (.Assign [.Name y py] ?qU spos) (FS (nv nt caps wi g tc te) (X7 i)):=by
 intro pins s σ H D I h;rw[exec_Assign_Name_used _ _ _ _ hsw];refine ya (wpAny_standAt (ya ?_));show wpAny _ X.A (do let _ ←comprehension (.ListComp elt [⟨tg,iter,ifs,0⟩] sc pos) sc X.env _ (newList []) false (eval iter X.env) (some (assign (.Name y py) X.env))) _ _ s;refine ya (Y7 (wpAny_comprehension_free (use:=?M7) (Q:=fun _ s'=>SP X pins D .next s') rfl hs (uI (S.hf I hX)) S.kind S.loc (thn ?Ii fun v s1 h1=>thn h1 fun itv s2 h2=>?_)) (fun _ s' hq=>ym (ym hq)) fun _ _ e=>e);obtain⟨it,fp,tn,J,H2,rfl,I2,T,st2,f2,h2⟩:=h2;refine xL (Q:=fun x H1=>X7 i x σ H1 D.nx) (RR:=fun acc C=>compPost ?AF X.A X.xe ?M7 (fun _ s'=>SP X pins D .next s') acc C) S hX hN hc hg ht he I2 T st2 f2 h2 fun D' C s' m H' hm hC I' hfC hL hcl hpn hs0 q=>?_;show wpAny _ X.A (assign ?G1 X.env (.ref D')) _ _ s';refine wpAny_assign_Name (aj (v:=.ref D') I' hnd hix hy rfl (fun s5 I5 hch=>?_) hf);obtain⟨a,sb,ha⟩:=hch;have hCa:C≠a:=by
  rcases ha with z|z
  .rw[z];exact hL
  .exact(hcl _ _ z).symm
 refine⟨m,hm.sameBut sb hCa,fun h'' hs''=>⟨σ.set i (some (.ref D')),H',I5.turned (it:=C) (t':=s5.toks) (fun b o hb e=>hs''.extBut b o hb e) hfC hL (.inr hs0) hcl hpn,q⟩⟩
end
section
theorem Inv.drawn {fp:?B9}{h':Heap}{t':Nat}{ds:?AL}{us:?AY}{n:Nat}(I:?A6)(hf:∀ b∈fp,?Eu)(kp:∀ b o,b∉fp->s.heap.get? b=some o->h'.get? b=some o)
  (new:h'.get? s.heap.objs.size=some {cls:=?zQ, data:=.seq us.toArray n}) (r:qj ds us) (hz:ds.length<=sizeLine):Inv X pins σ (upd H s.heap.objs.size ?CF) {s with heap:=h',toks:=t'}:=by
 have hT:H s.heap.objs.size=none:=I.hok.fresh ?AC;have nf:∀ b u,H b=some u->b∉fp:=fun b u e hb=>by rw[(hf b hb).1] at e;cases e
 refine I.call (g':=s.gens) (d':=s.drawn) (ch:=fp) ⟨fun b o e n hb hx=>?Eq,fun b o e n hb hx=>⟨o.slots,?Eq⟩,fun b o e n hx=>?_,fun b o e hx=>⟨o,?Eq⟩,fun b xs q=>?_,fun b o u q=>?_,fun b ps q=>?_⟩ ?_ I.bare ?jO
 .rw[yX (Yb (yn e))];exact n
 .rw[yX (Ys q hT)];exact q
 .rw[yX (Ys q hT)];exact q
 .exact⟨#[],by rw[yX (Ys q hT),q];simp⟩
 .intro b u e;by_cases hb:b=s.heap.objs.size
  .subst hb;rw[yT] at e;cases e;exact⟨hz,us,r,_,new,rfl,n,rfl⟩
  .rw[yX hb] at e;refine(I.hok b u e).stay (fun c v hc q=>kp c v (fun z=>?_) q) (fun c q=>?_) fun c xs q=>?_
   .rcases hc with w' | w'
    .subst w';exact nf _ _ e z
    .exact nf _ _ w' z
   .rw[yX (Ys q hT)];exact q
   .rw[yX (Ys q hT)];exact q
 .obtain⟨f0,f1,f2,f3,f4,f5⟩:=hf b hb;exact⟨f3,f1,f4,f5⟩
theorem Inv.turnedL {fp:?B9}{h':Heap}{t':Nat}(I:?A6)(hf:∀ b∈fp,?Eu)(kp:∀ b o,b∉fp->s.heap.get? b=some o->h'.get? b=some o):Inv X pins σ H {s with heap:=h',toks:=t'}:=by
 have nf:∀ b u,H b=some u->b∉fp:=fun b u e hb=>by rw[(hf b hb).1] at e;cases e
 refine I.call (g':=s.gens) (d':=s.drawn) (ch:=fp) ⟨fun b o e n hb hx=>?Eq,fun b o e n hb hx=>⟨o.slots,?Eq⟩,fun b o e n hx=>n,fun b o e hx=>⟨o,?Eq⟩,fun b xs q=>q,fun b o u q=>q,fun b ps q=>⟨#[],by rw[q];simp⟩⟩ ?_ I.bare ?jO
 .intro b u e;refine(I.hok b u e).stay (fun c v hc q=>kp c v (fun z=>?_) q) (fun c q=>q) fun c xs q=>q;rcases hc with w' | w'
  .subst w';exact nf _ _ e z
  .exact nf _ _ w' z
 .obtain⟨f0,f1,f2,f3,f4,f5⟩:=hf b hb;exact⟨f3,f1,f4,f5⟩
end
def Ite (K:?A0)(a:Addr):It:=
 ⟨fun i H=>∃ xs x,SqL K H a xs/\xs[i]?=some x,fun i H x H'=>∃ T y,H T=none/\x=.ref T/\(∀ xs,SqL K H a xs->xs[i]?=some y)/\H'=upd H T (.tup [.int (i:Int),y]),fun i H=>∃ xs,SqL K H a xs/\xs.length<=i⟩
theorem px {P:?AA}{w:?A9}{K:?A0}{es:?Ai}{x1:Nat}{pos:Pos}(a e it:Addr)(hne:e≠it):Turn P w K (.Tuple es x1 pos) (Ite K a) [e,it] e (fun i h=>(∃ old,IsEnum h e it (i:Int) old)/\h.IsListIter it a i) where
 mem:=by simp
 obj:=fun i h st b hb=>by
  obtain⟨⟨old,h1⟩,o,h2,c,d⟩:=st;rcases yB.mp hb with z|z
  .subst z;exact⟨_,h1,fun v z=>by
    have z':Data.fields _=Data.cell v:=z;cases z'⟩
  .rw[yE.mp z];exact⟨o,h2,fun v z=>by rw[d] at z;cases z⟩
 keep:=fun i h h' st k=>by
  obtain⟨⟨old,h1⟩,h2⟩:=st;exact⟨⟨old,k e (by simp) _ h1⟩,h2.at fun o z=>k it (by simp) o z⟩
 item:=by
  intro X hP hw hK hc i pins s σ H E I hf st hg;subst hP hw hK;obtain⟨xs,x,hq,hx⟩:=hg;obtain⟨its,rv,p,hz⟩:=I.list hq;obtain⟨u,hu,ru⟩:=rv.get hx;obtain⟨⟨old,he⟩,hit⟩:=st;refine wpAny_pyNext_enum_item he hit p.isList (x:=u) (by simpa using hu) hne fun h' out it' tup sz kp=>?_;refine⟨_,rfl,wpAny_letOwnedTupleGo_enum out fun h2 he2 sb=>?_⟩;have heT:e≠s.heap.objs.size:=Yb (yn he);have kp2:∀ b o,b∉[e,it]->s.heap.get? b=some o->h2.get? b=some o:=fun b o hb q=>by
   have b1:b≠e:=fun z=>hb (by simp[z]);have b2:b≠it:=fun z=>hb (by simp[z]);exact(sb.2 b b1).trans (kp b o b1 b2 q)
  refine⟨.ref s.heap.objs.size,upd H s.heap.objs.size (.tup [.int (i:Int),x]),?_,rfl,⟨?C8,x,?Bm,rfl,fun ys hy=>by rw[I.list_inj hy hq];exact hx,rfl⟩,⟨⟨u,by simpa using he2⟩,it'.at fun o z=>(sb.2 it (Ne.symm hne)).trans z⟩,fun b hb=>?_⟩
  .exact I.drawn (t':=?yC) (us:=[.int (i:Int) s.toks,u]) (n:=0) hf kp2 ((sb.2 _ (Ne.symm heT)).trans tup) (.cons ⟨_,rfl⟩ (.cons ru .nil)) (by show 2<=sizeLine;decide)
  .have hl:b<s.heap.objs.size:=by
    rcases yB.mp hb with z|z
    .subst z;exact yn he
    .rw[yE.mp z];obtain⟨o,q,_⟩:=hit;exact yn q
   rw[yX (Yb hl)];exact ?qP
 done:=by
  intro X hP hw hK hc i pins s σ H E I hf st hg;subst hP hw hK;obtain⟨xs,hq,hx⟩:=hg;obtain⟨its,rv,p,hz⟩:=I.list hq;obtain⟨⟨old,he⟩,hit⟩:=st;have hl:=rv.length;refine wpAny_pyNext_enum_end ?CB he hit p.isList ?yR fun h' eb=>⟨rfl,I.turnedL (t':=?Ag) hf fun b o hb q=>eb b o (fun z=>hb (by simp[z])) q⟩
 self:=fun _ _ _ _ _ st h=>by
  obtain⟨⟨old,he⟩,_⟩:=st;exact wpAny_pyIter_enum he h
def Itz (K:?A0)(a b:Addr):It:=
 ⟨fun i H=>∃ xs ys x y,SqL K H a xs/\SqL K H b ys/\xs[i]?=some x/\ys[i]?=some y,fun i H v H'=>∃ T x y,H T=none/\v=.ref T/\(∀ xs,SqL K H a xs->xs[i]?=some x)/\(∀ ys,SqL K H b ys->ys[i]?=some y)/\H'=upd H T (.tup [x,y]),
  fun i H=>∃ xs ys,SqL K H a xs/\SqL K H b ys/\(xs.length<=i∨ys.length<=i)⟩
theorem sB {P:?AA}{w:?A9}{K:?A0}{es:?Ai}{x1:Nat}{pos:Pos}(l1 l2 z TI TO i1 i2:Addr)(D:?FU) :
  Turn P w K (.Tuple es x1 pos) (Itz K l1 l2) [z,TO,i1,i2,TI] z (fun i h=>IsZip h z TI TO .none/\IsPair h TI (.ref i1) (.ref i2)/\(∃ a b,IsPair h TO a b)/\h.IsListIter i1 l1 i/\h.IsListIter i2 l2 i) where
 mem:=by simp
 obj:=fun i h st b hb=>by
  obtain⟨h1,h2,⟨a,c,h3⟩,⟨o4,e4,c4,d4⟩,⟨o5,e5,c5,d5⟩⟩:=st;have nf:∀ {vs:Array Value} {v:Option Value},Data.fields vs≠Data.cell v:=fun z=>by cases z
  have ns:∀ {vs:Array Value} {n:Nat} {v:Option Value},Data.seq vs n≠Data.cell v:=fun z=>by cases z
  simp only[yB,Yv,or_false] at hb;rcases hb with rfl|rfl|rfl|rfl|rfl
  .exact⟨_,h1,fun v z=>nf z⟩
  .exact⟨_,h3,fun v z=>ns z⟩
  .exact⟨_,e4,fun v z=>by rw[d4] at z;cases z⟩
  .exact⟨_,e5,fun v z=>by rw[d5] at z;cases z⟩
  .exact⟨_,h2,fun v z=>ns z⟩
 keep:=fun i h h' st k=>by
  obtain⟨h1,h2,⟨a,c,h3⟩,h4,h5⟩:=st;exact⟨k z (by simp) _ h1,k TI (by simp) _ h2,⟨a,c,k TO (by simp) _ h3⟩,h4.at fun o q=>k i1 (by simp) o q,h5.at fun o q=>k i2 (by simp) o q⟩
 item:=by
  intro X hP hw hK hc i pins s σ H E I hf st hg;subst hP hw hK;obtain⟨xs,ys,x,y,hq1,hq2,hx,hy⟩:=hg;obtain⟨its1,rv1,p1,_⟩:=I.list hq1;obtain⟨its2,rv2,p2,_⟩:=I.list hq2;obtain⟨u,hu,ru⟩:=rv1.get hx;obtain⟨v,hv,rv⟩:=rv2.get hy;obtain⟨h1,h2,⟨a,c,h3⟩,h4,h5⟩:=st;have lts:∀ b∈[z,TO,i1,i2,TI],b<s.heap.objs.size:=fun b hb=>by
   obtain⟨_,e4,_⟩:=h4;obtain⟨_,e5,_⟩:=h5;simp only[yB,Yv,or_false] at hb;rcases hb with rfl|rfl|rfl|rfl|rfl
   .exact yn h1
   .exact yn h3
   .exact yn e4
   .exact yn e5
   .exact yn h2
  refine wpAny_pyNext_zip_item D h1 h2 h3 h4 h5 p1.isList p2.isList (x:=u) (y:=v) (by simpa using hu) (by simpa using hv) fun h' g1 g2 g3 g4 g5 sz kp=>?_;refine⟨_,rfl,wpAny_letOwnedTupleGo_zip g1 fun hh gz sb=>?_⟩;have zT:z≠s.heap.objs.size:=Yb (lts z (by simp));have kp2:∀ b o,b∉[z,TO,i1,i2,TI]->s.heap.get? b=some o->hh.get? b=some o:=fun b o hb q=>by
   simp only[yB,Yv,or_false,not_or] at hb;exact(sb.2 b hb.1).trans ?kM
  refine⟨.ref s.heap.objs.size,upd H s.heap.objs.size (.tup [x,y]),?_,rfl,⟨?C8,x,y,?Bm,rfl,fun ws hw=>by rw[I.list_inj hw hq1];exact hx,fun ws hw=>by rw[I.list_inj hw hq2];exact hy,rfl⟩,
   ⟨gz,(sb.2 TI D.TIz).trans (kp TI _ D.TIz D.TITO D.TIi1 D.TIi2 h2),⟨u,v,(sb.2 TO D.TOz).trans g2⟩,g3.at fun o q=>(sb.2 i1 D.i1z).trans q,g4.at fun o q=>(sb.2 i2 D.i2z).trans q⟩,fun b hb=>?_⟩
  .exact I.drawn (t':=?Ag) (us:=[u,v]) (n:=0) hf kp2 ((sb.2 _ (Ne.symm zT)).trans g5) (.cons ru (.cons rv .nil)) (by show 2<=sizeLine;decide)
  .rw[yX (Yb (lts b hb))];exact ?qP
 done:=by
  intro X hP hw hK hc i pins s σ H E I hf st hg;subst hP hw hK;obtain⟨xs,ys,hq1,hq2,hx⟩:=hg;obtain⟨its1,rv1,p1,_⟩:=I.list hq1;obtain⟨its2,rv2,p2,_⟩:=I.list hq2;obtain⟨h1,h2,⟨a,c,h3⟩,h4,h5⟩:=st;have e1:=rv1.length;have e2:=rv2.length;refine wpAny_pyNext_zip_end ?CB D h1 h2 h3 h4 h5 p1.isList p2.isList (hx.elim (fun q=>.inl ?yR) fun q=>.inr ?yR) fun h' kp=>⟨rfl,I.turnedL (t':=?Ag) hf fun b o hb q=>?_⟩
  simp only[yB,Yv,or_false,not_or] at hb;exact ?kM
 self:=fun _ _ _ _ _ st h=>wpAny_pyIter_zip st.1 h
def HJ (ta:TA):TI:=fun σ H R=>ta σ H fun vs H1=>∃ a xs,vs=[.ref a]/\Rd H1 a ?Aa/\∀ K,R (Ite K a) H1
def Lh (K:?A0)(ta:TA):TI:=fun σ H R=>ta σ H fun vs H1=>∃ a b xs ys,vs=[.ref a,.ref b]/\SqL K H1 a xs/\SqL K H1 b ys/\R (Itz K a b) H1
section
theorem Dg {a:Expr}{ta:TA}{p pos:Pos}(hg:Gl X "enumerate")(hm:X.mg "enumerate" = none)(ha:PA X [a] ta)(hs:?jV:=by rfl):PI X ?Ea (.Call (.Name "enumerate" p) [a] [] pos) (HJ ta):=by
 intro pins s σ H R I h;refine Call_ (vM I hg hm boot_enumerate (PyProof.Rows.callWith_type1 (thn ?Dl fun us s1 ⟨vs,H1,I1,r1,q1⟩=>?_) hs rfl));obtain⟨l,xs,e,hl,q⟩:=q1;subst e;cases r1 with
 |cons r rr=>
  cases rr;cases r;obtain⟨hz,its,n,rv,eo⟩:=hl.ok I1.hok;refine call_enumerate_1 eo fun h' he hit sz kp=>?_;refine wpAny_pyIter_enum he ?_;have hne:s1.heap.objs.size+1≠s1.heap.objs.size:=Nat.succ_ne_self _;refine⟨_,[s1.heap.objs.size+1,s1.heap.objs.size],_,_,H1,rfl,?IM,px l _ _ hne,⟨⟨?Ab,he⟩,hit⟩,fun b hb=>?_,q X.K⟩;have hb':s1.heap.objs.size<=b:=by
   simp only[yB,Yv,or_false] at hb;rcases hb with rfl|rfl
   .exact Nat.le_succ _
   .exact yg _
  exact ?LI
theorem GF {a b:Expr}{ta:TA}{p pos:Pos}(hg:Gl X "zip")(hm:?vO)(ha:PA X [a,b] ta)(hs:?yY:=by rfl)(hs2:?qA:=by rfl) :
  PI X ?Ea ?kL (Lh X.K ta):=by
 intro pins s σ H R I h;refine ?LC;obtain⟨l1,l2,xs,ys,e,hl1,hl2,q⟩:=q1;subst e;cases r1 with
 |cons r rr=>
  cases rr with
  |cons r' rr=>
   cases rr;cases r;cases r';obtain⟨its1,rv1,p1,_⟩:=I1.list hl1;obtain⟨its2,rv2,p2,_⟩:=I1.list hl2;have lt1:l1<s1.heap.objs.size:=by obtain⟨_,e,_⟩:=p1.isList;exact yn e
   have lt2:l2<s1.heap.objs.size:=by obtain⟨_,e,_⟩:=p2.isList;exact yn e
   refine call_zip_2 p1.isList p2.isList fun h' g1 g2 g3 g4 g5 sz kp=>?_;refine wpAny_pyIter_zip g1 ?_;refine⟨_,[s1.heap.objs.size+4,s1.heap.objs.size+3,s1.heap.objs.size,s1.heap.objs.size+1,s1.heap.objs.size+2],_,_,H1,rfl,?IM,sB l1 l2 _ _ _ _ _ ?Is,⟨g1,g2,⟨?Ab,?Ab,g3⟩,g4,g5⟩,fun b hb=>?_,q⟩;have hb':s1.heap.objs.size<=b:=by
    simp only[yB,Yv,or_false] at hb;rcases hb with rfl|rfl|rfl|rfl|rfl
    .exact QK _ _
    .exact QK _ _
    .exact yg _
    .exact QK _ _
    .exact QK _ _
   exact ?LI
end
end L2
namespace My
def G (a b:Int):Int:=((Int.gcd a b:Nat):Int)
theorem G_end {a:Int}(ha:0<=a):G a 0=a:=by
 show((Int.gcd a 0:Nat):Int)=a;rw[Int.gcd_zero_right];lia
theorem G_turn {a b:Int}(ha:0<=a)(hb:0<b):G b (Int.fmod a b)=G a b:=by
 unfold G;rw[jc a (yQ hb)];obtain⟨m,rfl⟩:=YR ha;obtain⟨n,rfl⟩:=YR (yQ hb);show((Nat.gcd (n:Int).natAbs ((m:Int) % (n:Int)).natAbs:Nat):Int)=((Nat.gcd (m:Int).natAbs (n:Int).natAbs:Nat):Int)
 have e:((m:Int) % (n:Int)).natAbs=m % n:=by lia
 rw[e,Qh,Qh,Nat.gcd_comm m n,Nat.gcd_comm n (m % n),←Nat.gcd_rec]
theorem G_pos {a b:Int}(hb:0<b):0<G a b:=by
 have:0<Int.gcd a b:=Int.gcd_pos_of_ne_zero_right a ?A;unfold G;lia
theorem num_share {t b:Int}(hb:0<b):Int.fdiv t (G t b)=(?Cp).num:=by
 rw[Ym _ (yQ (G_pos hb)),Rat.num_divInt,Int.sign_eq_one_of_pos hb,Int.one_mul];unfold G;rw[Int.gcd_comm]
theorem den_share {t b:Int}(hb:0<b):Int.fdiv b (G t b)=((?Cp).den:Int):=by
 rw[Ym _ (yQ (G_pos hb)),Rat.den_divInt,yd (show ¬ b=0 by lia),QI,Int.natAbs_of_nonneg (yQ hb)];unfold G;rw[Int.gcd_comm]
theorem xO (q:Rat):(q.den:Int)≠0:=by have:=q.den_pos;lia
theorem den_pos' (q:Rat):(0:Int)<q.den:=by have:=q.den_pos;lia
theorem q_add (p q:Rat):Rat.divInt (p.num*q.den+q.num*p.den) (p.den*q.den)=p+q:=by
 rw[←jr _ _ (xO p) (xO q),qt,qt]
theorem q_sub (p q:Rat):Rat.divInt (p.num*q.den - q.num*p.den) (p.den*q.den)=p - q:=by
 rw[←Rat.divInt_sub_divInt _ _ (xO p) (xO q),qt,qt]
theorem q_mul (p q:Rat):Rat.divInt (p.num*q.num) (p.den*q.den)=p*q:=by
 rw[←Rat.divInt_mul_divInt,qt,qt]
theorem q_div (p q:Rat):Rat.divInt (p.num*q.den) (p.den*q.num)=p / q:=by
 rw[←Rat.divInt_mul_divInt,qt,Rat.div_def,Rat.inv_def]
theorem q_lt (p q:Rat):p.num*q.den<q.num*p.den ↔ p<q:=(Rat.lt_iff p q).symm
theorem q_cross {t b:Int}(hb:0<b):(?Cp).num*b=t*(?Cp).den:=by
 have h:=qt ?Cp;exact(Rat.divInt_eq_divInt_iff (xO _) ?A).mp h
theorem q_num_pos {q:Rat}(h:0<q):0<q.num:=by
 have h2:=(Rat.lt_iff 0 q).mp h;have e1:(0:Rat).num=0:=rfl;have e2:(0:Rat).den=1:=rfl;rw[e1,e2,Int.zero_mul] at h2;lia
theorem q_num_nn {q:Rat}(h:0<=q):0<=q.num:=Rat.num_nonneg.mpr h
theorem q_inj {p q:Rat}(h1:p.num=q.num)(h2:(p.den:Int)=q.den):p=q:=Rat.ext h1 ?A
end My
namespace L3
open PySem PySem.Spec PySem.Calls PyProof.Rows L2
inductive D where
 |non|bl (b:Bool)|int (i:Int)|str (x:Str)|raw (v:V)
 |tup (ds:?AD)|lst (ds:?AD)
 |dk (ks:?Av) (ds:?AD)|dt (ks:?ED) (ds:?AD)
 |obj (C:Addr) (fs:?A1) (ds:?AD)
 |exc (C:Addr)
 |scr (ns:?CZ)
mutual
noncomputable def Is (K:?A0)(H:Hp):D->V->Prop
 |.non,v=>v=.non
 |.bl b,v=>v=.bl b
 |.int i,v=>v=.int i
 |.str x,v=>v=.str x
 |.raw u,v=>v=u
 |.tup ds,v=>∃ a xs,v=.ref a/\SqT K H a xs/\IsL K H ds xs
 |.lst ds,v=>∃ a xs,v=.ref a/\Rd H a ?Aa/\IsL K H ds xs
 |.dk ks ds,v=>∃ a xs o,v=.ref a/\H a=some (.frz o (.dK ?B1))/\ks.length=xs.length/\IsL K H ds xs
 |.dt ks ds,v=>∃ a xs,v=.ref a/\Rd H a (.dT ?B1)/\ks.length=xs.length/\IsL K H ds xs
 |.obj C fs ds,v=>∃ a dx xs,v=.ref a/\H a=some (.ins C dx ?F7)/\fs.length=xs.length/\IsL K H ds xs
 |.exc C,v=>∃ a,v=.ref a/\H a=some (Lm a ?AM)
 |.scr ns,v=>∃ a,v=.ref a/\SqL K H a ?C4
noncomputable def IsL (K:?A0)(H:Hp):List D->List V->Prop
 |[],xs=>xs=[]
 |d::ds,xs=>∃ x r,xs=x::r/\Is K H d x/\IsL K H ds r
end
section
variable {K:?A0}{H H':Hp}
theorem zC(e:?FI)(h:Rd H a u):Rd H' a u:=by
 rcases h with h|⟨o,h⟩
 .exact ?Jf
 .exact ?Ie
theorem qD(e:?FI)(h:SqT K H a xs):SqT K H' a xs:=by
 rcases h with (h|⟨o,h⟩)|h
 .exact .inl ?Jf
 .exact .inl ?Ie
 .exact .inr h
mutual
theorem Is.mono (e:?FI):∀ {d:D} {v:V},Is K H d v->Is K H' d v
 |.non,_,h=>by simp only[Is] at h ⊢;exact h
 |.bl _,_,h=>by simp only[Is] at h ⊢;exact h
 |.int _,_,h=>by simp only[Is] at h ⊢;exact h
 |.str _,_,h=>by simp only[Is] at h ⊢;exact h
 |.raw _,_,h=>by simp only[Is] at h ⊢;exact h
 |.tup ds,_,h=>by simp only[Is] at h ⊢;obtain⟨a,xs,e1,e2,e3⟩:=h;exact⟨a,xs,e1,qD e e2,?Ek⟩
 |.lst ds,_,h=>by simp only[Is] at h ⊢;obtain⟨a,xs,e1,e2,e3⟩:=h;exact⟨a,xs,e1,zC e e2,?Ek⟩
 |.dk ks ds,_,h=>by simp only[Is] at h ⊢;obtain⟨a,xs,o,e1,e2,e4,e3⟩:=h;exact⟨a,xs,o,e1,e _ _ e2,e4,?Ek⟩
 |.dt ks ds,_,h=>by simp only[Is] at h ⊢;obtain⟨a,xs,e1,e2,e4,e3⟩:=h;exact⟨a,xs,e1,zC e e2,e4,?Ek⟩
 |.obj C fs ds,_,h=>by simp only[Is] at h ⊢;obtain⟨a,dx,xs,e1,e2,e4,e3⟩:=h;exact⟨a,dx,xs,e1,e _ _ e2,e4,?Ek⟩
 |.exc C,_,h=>by simp only[Is] at h ⊢;obtain⟨a,e1,e2⟩:=h;exact⟨a,e1,e _ _ e2⟩
 |.scr ns,_,h=>by simp only[Is] at h ⊢;obtain⟨a,e1,e2⟩:=h;exact⟨a,e1,e.seq e2⟩
theorem IsL.mono (e:?FI):∀ {ds:List D} {xs:List V},IsL K H ds xs->IsL K H' ds xs
 |[],_,h=>by simp only[IsL] at h ⊢;exact h
 |d::ds,_,h=>by
  simp only[IsL] at h ⊢;obtain⟨x,r,e1,e2,e3⟩:=h;exact⟨x,r,e1,Is.mono e e2,?Ek⟩
end
theorem IsL.nil:IsL K H [] []:=by simp only[IsL]
theorem IsL.cons {d:D}{ds:?AD}{x:V}{xs:?AL}(h:Is K H d x)(t:?Jp):IsL K H (d::ds) (x::xs):=by
 simp only[IsL];exact⟨x,xs,rfl,h,t⟩
theorem IsL.len:∀ {ds:List D} {xs:List V},IsL K H ds xs->xs.length=ds.length
 |[],_,h=>by simp only[IsL] at h;subst h;rfl
 |d::ds,_,h=>by
  simp only[IsL] at h;obtain⟨x,r,rfl,_,t⟩:=h;simp[IsL.len t]
theorem IsL.get:∀ {ds:List D} {xs:List V} {i:Nat} {d:D},IsL K H ds xs->ds[i]?=some d->∃ x,xs[i]?=some x/\Is K H d x
 |[],_,_,_,_,e=>by simp at e
 |d::ds,_,0,d',h,e=>by
  simp only[IsL] at h;obtain⟨x,r,rfl,h1,_⟩:=h;simp at e;subst e;exact⟨x,rfl,h1⟩
 |d::ds,_,i+1,d',h,e=>by
  simp only[IsL] at h;obtain⟨x,r,rfl,_,t⟩:=h;exact IsL.get (i:=i) t (by simpa using e)
theorem IsL.append:∀ {ds es:List D} {xs ys:List V},IsL K H ds xs->IsL K H es ys->IsL K H (ds++es) (xs++ys)
 |[],_,_,_,h,t=>by simp only[IsL] at h;subst h;exact t
 |d::ds,es,_,ys,h,t=>by
  simp only[IsL] at h;obtain⟨x,r,rfl,h1,h2⟩:=h;exact IsL.cons h1 (IsL.append h2 t)
theorem IsL.take:∀ {ds:List D} {xs:List V} (n:Nat),IsL K H ds xs->IsL K H (ds.take n) (xs.take n)
 |_,_,0,_=>by simpa using IsL.nil
 |[],_,n+1,h=>by simp only[IsL] at h;subst h;simpa using IsL.nil
 |d::ds,_,n+1,h=>by
  simp only[IsL] at h;obtain⟨x,r,rfl,h1,h2⟩:=h;exact IsL.cons h1 (IsL.take n h2)
theorem IsL.drop:∀ {ds:List D} {xs:List V} (n:Nat),IsL K H ds xs->IsL K H (ds.drop n) (xs.drop n)
 |_,_,0,h=>by simpa using h
 |[],_,n+1,h=>by simp only[IsL] at h;subst h;simpa using IsL.nil
 |d::ds,_,n+1,h=>by
  simp only[IsL] at h;obtain⟨x,r,rfl,h1,h2⟩:=h;exact IsL.drop n h2
theorem IsL.set:∀ {ds:List D} {xs:List V} (i:Nat) {d:D} {x:V},IsL K H ds xs->Is K H d x->IsL K H (ds.set i d) (xs.set i x)
 |[],_,_,_,_,h,_=>by simp only[IsL] at h;subst h;simpa using IsL.nil
 |d::ds,_,0,_,_,h,hx=>by
  simp only[IsL] at h;obtain⟨x,r,rfl,h1,h2⟩:=h;exact IsL.cons hx h2
 |d::ds,_,i+1,_,_,h,hx=>by
  simp only[IsL] at h;obtain⟨x,r,rfl,h1,h2⟩:=h;exact IsL.cons h1 (IsL.set i h2 hx)
theorem IsL.get_none {i:Nat}(h:?Jp)(e:ds[i]?=none):xs[i]?=none:=by
 have:=h.len;rw[yG] at e ⊢;lia
theorem IsL.get' {i:Nat}(h:?Jp)(e:xs[i]?=some x):∃ d,ds[i]?=some d/\Is K H d x:=by
 cases q:ds[i]? with
 |none=>rw[h.get_none q] at e;cases e
 |some d=>
  obtain⟨y,e1,e2⟩:=h.get q;rw[e] at e1;cases e1;exact⟨d,rfl,e2⟩
theorem IsL.of_ints:∀ {ns:List Int} {xs:List V},IsL K H ?GG xs->xs=ns.map V.int
 |[],_,h=>by simp only[Q6,IsL] at h;subst h;rfl
 |n::ns,_,h=>by
  simp only[yD,IsL] at h;obtain⟨x,r,rfl,h1,h2⟩:=h;simp only[Is] at h1;rw[h1,IsL.of_ints h2];rfl
end
structure Pur (F H F' H':Hp):Prop where
 ff:Yc F F'
 fh:Yc F' H'
 hh:Yc H H'
 new:∀ b,F' b≠none->F b≠none∨H b=none
theorem Pur.refl(h:Yc F H):Pur F H F H:=⟨?AH,h,?AH,fun _ q=>?Ck⟩
theorem Pur.trans(a:Pur F H F1 H1)(b:Pur F1 H1 F2 H2):Pur F H F2 H2:=
 ⟨a.ff.trans b.ff,b.fh,a.hh.trans b.hh,fun c q=>(b.new c q).elim (fun z=>a.new c z) fun z=>.inr (a.hh.free z)⟩
theorem Pur.lay(h:Yc F H)(hp:H p=none):Pur F H (upd F p o) (upd H p o):=by
 have fp:F p=none:=h.free hp;refine⟨fun b u e=>?_,fun b u e=>?_,fun b u e=>?_,fun b q=>?_⟩
 .rw[yX (Ys e fp)];exact e
 .by_cases hb:b=p
  .subst hb;rw[yT] at e ⊢;exact e
  .rw[yX hb] at e ⊢;exact h _ _ e
 .rw[yX (Ys e hp)];exact e
 .by_cases hb:b=p
  .subst hb;exact .inr hp
  .rw[yX hb] at q;exact ?Ck
theorem Pur.layOwn(h:Yc F H)(hp:H p=none):Pur F H F (upd H p o):=by
 refine⟨?AH,fun b u e=>?_,fun b u e=>?_,fun b q=>?Ck⟩
 .rw[yX (Ys (h _ _ e) hp)];exact h _ _ e
 .rw[yX (Ys e hp)];exact e
def Sl (K:?A0)(F:Hp)(Γ:?C1)(σ:?An):Prop:=∀ (i:Nat) (d:D),Γ[i]?=some ?De->∃ v,σ[i]?=some ?Cf/\Is K F d v
theorem Sl.mono {K:?A0}{F F':Hp}{Γ:?C1}{σ:?An}(h:?Ha)(e:?FJ):Sl K F' Γ σ:=fun i d q=>by
 obtain⟨v,h1,h2⟩:=h i d q;exact⟨v,h1,h2.mono e⟩
def tP (K:?A0)(Γ:?C1)(d:D):TE:=fun σ H Q=>∃ F,Yc F H/\Sl K F Γ σ/\∀ v H' F',Pur F H F' H'->Is K F' d v->Q v H'
def tPT (K:?A0)(Γ:?C1)(b:Bool):TT:=fun σ H Q=>∃ F,Yc F H/\Sl K F Γ σ/\∀ H' F',Pur F H F' H'->Q b H'
def tPL (K:?A0)(Γ:?C1)(ds:?AD):TA:=fun σ H Q=>∃ F,Yc F H/\Sl K F Γ σ/\∀ vs H' F',Pur F H F' H'->IsL K F' ds vs->Q vs H'
def P3 (X:Cx)(Γ:?C1)(e:Expr)(d:D):Prop:=PE X e (tP X.K Γ d)
def PT3 (X:Cx)(Γ:?C1)(e:Expr)(b:Bool):Prop:=PT X e (tPT X.K Γ b)
def PL3 (X:Cx)(Γ:?C1)(es:?Ai)(ds:?AD):Prop:=PA X es (tPL X.K Γ ds)
def PF3 (X:Cx)(Γ:?C1)(e:Expr)(ds:?AD):Prop:=PE X e fun σ H Q=>∃ F,Yc F H/\Sl X.K F Γ σ/\∀ p xs H' F',Pur F H F' H'->H p=none->F' p=none->H' p=some ?Aa->IsL X.K F' ds xs->Q ?Bd H'
theorem PE.of(h:PE X e t)(i:∀ σ H Q,?vI):PE X e u:=fun pins s σ H Q I hq=>h pins s σ H Q I ?Ew
theorem PT.of(h:PT X e t)(i:∀ σ H Q,?vI):PT X e u:=fun pins s σ H Q I hq=>h pins s σ H Q I ?Ew
theorem PA.of(h:PA X e t)(i:∀ σ H Q,?vI):PA X e u:=fun p pins s σ H Q I hq=>h p pins s σ H Q I ?Ew
section
theorem Fi {i:Nat}(hN:?zN)(hv:?Ed)(hΓ:Γ[i]?=some ?De)(hd:?L:=by decide)(hcd:?wA:=by decide):?Fv:=
 PE.of (xY hN hv hd hcd) fun σ H Q ⟨F,fh,sl,k⟩=>by
  obtain⟨v,e,h⟩:=sl i d hΓ;exact⟨v,e,k v H F ?AU h⟩
theorem pq (i:Nat){x:Str}(h3:Γ[i]? =some ?De)(h1:X.N[i]? =some x:=by rfl)(h2:X.env.scope.names.lookup x=some .local:=by rfl)(hd:(x==("__debug__":Str))=false:=by decide)(hc:(x==("__classdict__":Str))=false:=by decide):?Fv:=Fi h1 (.inl h2) h3 hd hc
theorem pqc (i:Nat){x:Str}(h3:Γ[i]? =some ?De)(h1:X.N[i]? =some x:=by rfl)(h2:X.env.scope.names.lookup x=some .cell:=by rfl)(hd:(x==("__debug__":Str))=false:=by decide)(hc:(x==("__classdict__":Str))=false:=by decide):?Fv:=Fi h1 (.inr (.inl h2)) h3 hd hc
theorem yx:P3 X Γ (.Constant ?Bs j pos) ?Bs:=PE.of VO fun σ H Q ⟨F,fh,sl,k⟩=>k _ H F ?AU (by simp only[Is])
theorem uo:P3 X Γ (.Constant (.bool i) j pos) (.bl i):=PE.of Ih fun σ H Q ⟨F,fh,sl,k⟩=>k _ H F ?AU (by simp only[Is])
theorem Iy:P3 X Γ (.Constant .none j pos) .non:=PE.of GE fun σ H Q ⟨F,fh,sl,k⟩=>k _ H F ?AU (by simp only[Is])
theorem K4:P3 X Γ (.Constant (.str i) j pos) (.str i):=PE.of Gi fun σ H Q ⟨F,fh,sl,k⟩=>k _ H F ?AU (by simp only[Is])
theorem G7(hg:?Af)(hm:X.mg x=some u)(r:?DA)(hi:∀ F,Is X.K F d v)(hd:?L:=by decide):?Fv:=
 PE.of (CV hg hm r hd) fun σ H Q ⟨F,fh,sl,k⟩=>k _ H F ?AU (hi F)
theorem J7(hg:?Af)(hm:?jN)(hv:bootBuiltins x=some u)(r:?DA)(hn:?jA :=by decide)(hd:?L:=by decide):P3 X Γ ?Co (.raw v):=
 PE.of (Da hg hm hv r hn hd) fun σ H Q ⟨F,fh,sl,k⟩=>k _ H F ?AU (by simp only[Is])
theorem tP2 {K:?A0}{σ:?An}{H:Hp}{R:V->V->Hp->Prop}(h:∃ F,Yc F H/\Sl K F Γ σ/\∀ x y H2 F2,Pur F H F2 H2->Is K F2 d x->Is K F2 d' y->R x y H2) :
  tP K Γ d σ H fun x H1=>tP K Γ d' σ H1 fun y H2=>R x y H2:=by
 obtain⟨F,fh,sl,k⟩:=h;exact⟨F,fh,sl,fun x H1 F1 p1 i1=>⟨F1,?BF,?C3,fun y H2 F2 p2 i2=>k x y H2 F2 ?Bl ?Jk i2⟩⟩
theorem m4(ho:?IX)(ha:?CU)(hb:?Du)(hr:∀ x y H F Q,?xK):?IA:=
 PE.of (uU ho ha hb) fun σ H Q ⟨F,fh,sl,k⟩=>tP2 ⟨F,fh,sl,fun x y H2 F2 p i1 i2=>hr x y H2 F2 Q p.fh i1 i2 fun v H' F' p' i=>?Lo⟩
theorem isI {K:?A0}{F:Hp}{i:Int}{v:V}(h:Is K F ?Bs v):v=.int i:=by simp only[Is] at h;exact h
theorem isS {K:?A0}{F:Hp}{i:Str}{v:V}(h:Is K F (.str i) v):v=.str i:=by simp only[Is] at h;exact h
theorem isB {K:?A0}{F:Hp}{i:Bool}{v:V}(h:Is K F (.bl i) v):v=.bl i:=by simp only[Is] at h;exact h
theorem isR {K:?A0}{F:Hp}{i v:V}(h:Is K F (.raw i) v):v=i:=by simp only[Is] at h;exact h
theorem Ap {op:Operator}{C:Int->Int->Prop}{g:Int->Int->V}{i j:Int}{d3:D}(ho:OpR X (binaryOp op) (rI C g))(ha:?B2)(hb:?B0)(hc:C i j)(h3:∀ F,Is X.K F d3 ?Bu):?IA:=
 m4 ho ha hb fun x y H F Q fh i1 i2 k=>⟨i,j,isI i1,?Br,hc,k _ H F ?AU (h3 F)⟩
theorem Ag {op:Operator}{g:Int->Int->V}{i j:Int}{d3:D}(ho:OpR X (binaryOp op) (rI0 g))(ha:?B2)(hb:?B0)(h3:∀ F,Is X.K F d3 ?Bu):?IA:=
 m4 ho ha hb fun x y H F Q fh i1 i2 k=>⟨i,j,isI i1,?Br,k _ H F ?AU (h3 F)⟩
theorem Jm {K:?A0}{i:Int}:∀ F,Is K F ?Bs ?Bs:=fun _=>by simp only[Is]
theorem Uw {K:?A0}{i:Bool}:∀ F,Is K F (.bl i) (.bl i):=fun _=>by simp only[Is]
theorem fu {K:?A0}{i:Str}:∀ F,Is K F (.str i) (.str i):=fun _=>by simp only[Is]
theorem Vg {K:?A0}{i:V}:∀ F,Is K F (.raw i) i:=fun _=>by simp only[Is]
theorem BJ {K:?A0}:∀ F,Is K F .non .non:=fun _=>by simp only[Is]
variable {i j:Int}
theorem J0 (ha:?B2)(hb:?B0):P3 X Γ ?EW (.int (i+j)):=Ag hZ ha hb Jm
theorem dL (ha:?B2)(hb:?B0):P3 X Γ (.BinOp a .Sub b pos) (.int (i - j)):=Ag F9 ha hb Jm
theorem JS (ha:?B2)(hb:?B0)(h:IntMulOk i j):P3 X Γ (.BinOp a .Mult b pos) (.int (i*j)):=Ap nE ha hb h Jm
theorem wG (ha:?B2)(hb:?B0)(h:0<j):P3 X Γ (.BinOp a .Mod b pos) (.int (i % j)):=Ap cr ha hb h Jm
theorem Jn (py:Pyl X)(ha:?B2)(hb:?B0)(h:0<j):P3 X Γ (.BinOp a .FloorDiv b pos) (.int (i / j)):=
 Ap (BU py) ha hb ?A (fun F=>by rw[Ym _ (yQ h)];exact Jm F)
end
theorem ls {K:?A0}{F:Hp}{ds:?AD}{xs:?AL}{i:Int}{d:D}(h:?El)(e:atI ds i=some d):∃ x,atI xs i=some x/\Is K F d x:=by
 unfold atI at e ⊢;rw[h.len];cases q:ixN ds.length i with
 |none=>rw[q] at e;cases e
 |some j=>
  rw[q] at e;exact h.get (i:=j) e
section
variable {i:Int}
theorem oo(ho:IxR X r)(ha:?CU)(hb:?Du)(hr:∀ x y H F Q,?xK)(hs:V0 b):P3 X Γ ?Dq d3:=
 PE.of (nQ ho ha hb hs) fun σ H Q ⟨F,fh,sl,k⟩=>tP2 ⟨F,fh,sl,fun x y H2 F2 p i1 i2=>hr x y H2 F2 Q p.fh i1 i2 fun v H' F' p' i=>?Lo⟩
theorem y7 (ha:?Do)(hb:?Gp)(he:atI ds i=some d)(hs:V0 b:=by exact ?yH):P3 X Γ ?Dq d:=
 oo GN ha hb (fun x y H F Q fh i1 i2 k=>by
  simp only[Is] at i1 i2;obtain⟨p,xs,rfl,h1,h2⟩:=i1;obtain⟨v,e1,e2⟩:=ls h2 he;exact⟨p,xs,i,v,rfl,i2,qD fh h1,e1,k v H F ?AU e2⟩) hs
theorem Zo (ha:?CO)(hb:?Gp)(he:atI ds i=some d)(hs:V0 b:=by exact ?yH):P3 X Γ ?Dq d:=
 oo Ua ha hb (fun x y H F Q fh i1 i2 k=>by
  simp only[Is] at i1 i2;obtain⟨p,xs,rfl,h1,h2⟩:=i1;obtain⟨v,e1,e2⟩:=ls h2 he;exact⟨p,xs,i,v,rfl,i2,.inl (zC fh h1),e1,k v H F ?AU e2⟩) hs
theorem IL {c:Nat}(ha:?Fd)(hb:?Gp)(hz:x.length<=sizeLine)(he:atI x.cps.toList i=some c)(hs:V0 b:=by exact ?yH):P3 X Γ ?Dq (.str ?zS):=
 oo He ha hb (fun x' y H F Q fh i1 i2 k=>by
  simp only[Is] at i1 i2;exact⟨x,i,c,i1,i2,hz,he,k _ H F ?AU (fu F)⟩) hs
theorem yq:PL3 X Γ [] []:=PA.of UA fun σ H Q ⟨F,fh,sl,k⟩=>k [] H F ?AU IsL.nil
theorem yb (ha:?Cw)(hr:?Fo)(hs:?W:=by rfl):PL3 X Γ (e::es) (d::ds):=
 PA.of (vx ha hr hs) fun σ H Q ⟨F,fh,sl,k⟩=>⟨F,fh,sl,fun x H1 F1 p1 i1=>⟨F1,?BF,?C3,fun xs H2 F2 p2 i2=>k (x::xs) H2 F2 ?Bl ?ID⟩⟩
theorem qM(h:?Fo)(hz:ds.length<=sizeLine:=by (simp only[yi,Yz];decide)):P3 X Γ ?JJ ?CF:=
 PE.of (W9 h) fun σ H Q ⟨F,fh,sl,k⟩=>⟨F,fh,sl,fun xs H1 F1 p1 i1=>⟨by rw[i1.len];exact hz,fun p hp=>k _ _ _ (p1.trans (Pur.lay p1.fh hp)) (by
  simp only[Is];exact⟨p,xs,rfl,?Cr,i1.mono (Pur.lay p1.fh hp).ff⟩)⟩⟩
theorem VT (h:?Fo)(hz:ds.length<=sizeLine:=by (simp only[yi,Yz];decide)):PF3 X Γ (.List es pos) ds:=
 PE.of (tX h) fun σ H Q ⟨F,fh,sl,k⟩=>⟨F,fh,sl,fun xs H1 F1 p1 i1=>⟨by rw[i1.len];exact hz,fun p hp=>k p xs _ F1 (p1.trans (Pur.layOwn p1.fh hp)) (p1.hh.free hp) (p1.fh.free hp) yT i1⟩⟩
theorem PF3.p (h:?Jw):P3 X Γ e ?Bq:=PE.of h fun σ H Q ⟨F,fh,sl,k⟩=>⟨F,fh,sl,fun p xs H' F' pu hp fp e i=>by
 have w:Yc F' (upd F' p (.lst xs)):=fun b u q=>by rw[yX (Ys q fp)];exact q
 have wf:Yc (upd F' p (.lst xs)) H':=fun b u q=>by
  by_cases hb:b=p
  .subst hb;rw[yT] at q;cases q;exact e
  .rw[yX hb] at q;exact pu.fh _ _ q
 have w2:Pur F H (upd F' p (.lst xs)) H':=by
  refine⟨?Jj,wf,pu.hh,fun b q=>?_⟩;by_cases hb:b=p
  .subst hb;exact .inr hp
  .rw[yX hb] at q;exact pu.new b q
 exact k _ _ _ w2 (by simp only[Is];exact⟨p,xs,rfl,?FM,i.mono w⟩)⟩
theorem km (h:?Fo)(hz:ds.length<=sizeLine:=by (simp only[yi,Yz];decide)):P3 X Γ (.List es pos) ?Bq:=(VT h hz).p
end
mutual
noncomputable def qy:D->D->Bool
 |.non,.non=>true
 |.bl a,.bl b=>a==b
 |.int a,.int b=>a==b
 |.str a,.str b=>a==b
 |.tup a,.tup b=>ZW a b
 |.lst a,.lst b=>ZW a b
 |_,_=>false
noncomputable def ZW:List D->List D->Bool
 |[],[]=>true
 |a::as,b::bs=>qy a b&&ZW as bs
 |_,_=>false
end
mutual
noncomputable def pln:D->Bool
 |.non=>true
 |.bl _=>true
 |.int _=>true
 |.str _=>true
 |.tup a=>Wf a
 |.lst a=>Wf a
 |_=>false
noncomputable def Wf:List D->Bool
 |[]=>true
 |a::as=>pln a&&Wf as
end
mutual
noncomputable def kin:D->D->Bool
 |.non,.non=>true
 |.bl _,.bl _=>true
 |.int _,.int _=>true
 |.str _,.str _=>true
 |.tup a,.tup b=>Zy a b
 |.lst a,.lst b=>Zy a b
 |_,_=>false
noncomputable def Zy:List D->List D->Bool
 |a::as,b::bs=>kin a b&&Zy as bs
 |_,_=>true
end
mutual
noncomputable def dep:D->Nat
 |.tup a=>Vm a+1
 |.lst a=>Vm a+1
 |_=>0
noncomputable def Vm:List D->Nat
 |[]=>0
 |a::as=>max (dep a) (Vm as)
end
theorem vB(h:kin d e=true):(d=.non/\e=.non)∨(∃ a b,d=.bl a/\e=.bl b)∨(∃ a b,d=.int a/\e=.int b)∨(∃ a b,d=.str a/\e=.str b)∨(∃ a b,d=.tup a/\e=.tup b/\Zy a b=true)∨(∃ a b,d=.lst a/\e=.lst b/\Zy a b=true):=by
 rw[kin.eq_def] at h;split at h
 .exact .inl ?CV
 .exact ?IB
 .exact .inr ?IB
 .exact .inr (.inr ?IB)
 .exact .inr (.inr (.inr (.inr (.inl ⟨_,_,rfl,rfl,h⟩))))
 .exact .inr (.inr (.inr (.inr (.inr ⟨_,_,rfl,rfl,h⟩))))
 .exact absurd h ?B
mutual
theorem v7:∀ {d:D},pln d=true->qy d d=true
 |.non,_=>by simp[qy]
 |.bl _,_=>by simp[qy]
 |.int _,_=>by simp[qy]
 |.str _,_=>by simp[qy]
 |.tup a,h=>by rw[qy];rw[pln] at h;exact UU h
 |.lst a,h=>by rw[qy];rw[pln] at h;exact UU h
 |.raw _,h=>by simp[pln] at h
 |.dk _ _,h=>by simp[pln] at h
 |.dt _ _,h=>by simp[pln] at h
 |.obj _ _ _,h=>by simp[pln] at h
 |.exc _,h=>by simp[pln] at h
 |.scr _,h=>by simp[pln] at h
theorem UU:∀ {d:List D},Wf d=true->ZW d d=true
 |[],_=>by simp[ZW]
 |a::as,h=>by
  rw[Wf,Yg] at h;rw[ZW,v7 h.1,UU h.2];rfl
end
mutual
theorem Wr:∀ {d e:D},qy d e=true->d=e
 |.non,e,h=>by cases e <;> simp[qy] at h ⊢
 |.bl _,e,h=>by cases e <;> simp[qy] at h ⊢;exact h
 |.int _,e,h=>by cases e <;> simp[qy] at h ⊢;exact h
 |.str _,e,h=>by cases e <;> simp[qy] at h ⊢;exact h
 |.tup a,e,h=>by cases e <;> simp only[qy,Y3] at h;rw[bR h]
 |.lst a,e,h=>by cases e <;> simp only[qy,Y3] at h;rw[bR h]
 |.raw _,e,h=>by cases e <;> simp[qy] at h
 |.dk _ _,e,h=>by cases e <;> simp[qy] at h
 |.dt _ _,e,h=>by cases e <;> simp[qy] at h
 |.obj _ _ _,e,h=>by cases e <;> simp[qy] at h
 |.exc _,e,h=>by cases e <;> simp[qy] at h
 |.scr _,e,h=>by cases e <;> simp[qy] at h
theorem bR:∀ {d e:List D},ZW d e=true->d=e
 |[],e,h=>by cases e <;> simp[ZW] at h ⊢
 |a::as,e,h=>by
  cases e with
  |nil=>simp[ZW] at h
  |cons b bs=>
   rw[ZW,Yg] at h;rw[Wr h.1,bR h.2]
end
theorem bw(h:d≠e):qy d e=false:=by
 cases q:qy d e with
 |false=>rfl
 |true=>exact absurd (Wr q) h
theorem uS:∀ (ds es:List D),ds.length=es.length->((List.range ds.length).all fun j=>qy (ds.getD j .non) (es.getD j .non))=ZW ds es
 |[],[],_=>by simp[ZW]
 |[],_::_,h=>by simp at h
 |_::_,[],h=>by simp at h
 |a::as,b::bs,h=>by
  have ih:=uS as bs (by simpa using h);rw[ZW,←ih,yi,List.range_succ_eq_map,List.all_cons,List.all_map];rfl
theorem uH:∀ {ds es:List D},ds.length≠es.length->ZW ds es=false
 |[],[],h=>absurd rfl h
 |[],_::_,_=>by simp[ZW]
 |_::_,[],_=>by simp[ZW]
 |a::as,b::bs,h=>by
  rw[ZW,uH (ds:=as) (es:=bs) (fun z=>h (by simp[z])),Bool.and_false]
theorem WV:∀ {ds es:List D} {i:Nat} {d e:D},Zy ds es=true->ds[i]?=some d->es[i]?=some e->kin d e=true
 |[],_,_,_,_,_,h,_=>by simp at h
 |_::_,[],_,_,_,_,_,h=>by simp at h
 |a::as,b::bs,0,d,e,h,h1,h2=>by
  simp at h1 h2;subst h1 h2;rw[Zy,Yg] at h;exact h.1
 |a::as,b::bs,i+1,d,e,h,h1,h2=>by
  rw[Zy,Yg] at h;exact WV (i:=i) h.2 (by simpa using h1) (by simpa using h2)
theorem cC:∀ {ds:List D} {i:Nat} {d:D},ds[i]?=some d->dep d<=Vm ds
 |[],_,_,h=>by simp at h
 |a::as,0,d,h=>by simp at h;subst h;rw[Vm];exact jC _ _
 |a::as,i+1,d,h=>by
  rw[Vm];exact yz (cC (i:=i) (by simpa using h)) (ji _ _)
section
variable {X:Cx}{pins:?zF}{σ:?An}{H:Hp}{s:?AN}
theorem Is.same (I:?A6):∀ (n:Nat) {v:V} {d e:D},dep d<=n->kin d e=true->Is X.K H d v->Is X.K H e v->d=e:=by
  intro n
  induction n with
  |zero=>
    intro v d e hn hk h h';rcases vB hk with ⟨rfl,rfl⟩|⟨_,_,rfl,rfl⟩|⟨_,_,rfl,rfl⟩|⟨_,_,rfl,rfl⟩|⟨_,_,rfl,rfl,hk⟩|⟨_,_,rfl,rfl,hk⟩ <;> simp only[Is] at h h' <;> first
      |rfl
      | (rw[h] at h';injection h' with z;rw[z];done)
      | (rw[dep] at hn;lia)
  |succ n ih=>
    intro v d e hn hk h h';have go:∀ {ds es:List D} {xs:List V},Vm ds<=n->Zy ds es=true->IsL X.K H ds xs->IsL X.K H es xs->ds=es:=by
      intro ds es xs hd hks h1 h2;have l1:=h1.len;have l2:=h2.len;refine Qj fun i=>?_;cases q:xs[i]? with
      |none=>
        have z:xs.length<=i:=yG.mp q;rw[yG.mpr (by lia),yG.mpr ?A]
      |some v=>
        obtain⟨d,e1,i1⟩:=h1.get' q;obtain⟨e,e2,i2⟩:=h2.get' q;rw[e1,e2,ih (yz (cC e1) hd) (WV hks e1 e2) i1 i2]
    rcases vB hk with ⟨rfl,rfl⟩|⟨_,_,rfl,rfl⟩|⟨_,_,rfl,rfl⟩|⟨_,_,rfl,rfl⟩|⟨_,_,rfl,rfl,hk⟩|⟨_,_,rfl,rfl,hk⟩ <;> simp only[Is] at h h' <;> first
      |rfl
      | (rw[h] at h';injection h' with z;rw[z];done)
      | (rw[dep] at hn
         obtain⟨a,xs,rfl,s1,i1⟩:=h;obtain⟨a',ys,e',s2,i2⟩:=h';cases e'
         first
         | (cases I.tuple_inj s1 s2;rw[go (by lia) hk i1 i2];done)
         | (cases I.list_inj (.inl s1) (.inl s2);rw[go (by lia) hk i1 i2];done))
def Um (ds es:?AD)(j:Nat):Bool:=qy (ds.getD j .non) (es.getD j .non)
theorem uG(r1:qj xs us)(r2:qj ys vs)(h1:?Ds)(h2:?Ef)
  (hk:Zy ds es=true) (hn:Vm ds<=n)
  (ih:∀ (x y:V) (d e:D) (u v:Value),dep d<=n->Is X.K H d x->Is X.K H e y->kin d e=true->YX x u->YX y v->SeqAt.EqAt A s u v (qy d e)) :
  ∀ j (q1:j<us.toArray.size) (q2:j<vs.toArray.size),SeqAt.EqAt A s us.toArray[j] vs.toArray[j] (Um ds es j):=by
 intro j q1 q2;have e1:=r1.length;have e2:=r2.length;have l1:=h1.len;have l2:=h2.len;have p1:j<us.length:=by simpa using q1
 have p2:j<vs.length:=by simpa using q2
 have x1:xs[j]?=some (xs[j]'(by lia)):=yj _;have y1:ys[j]?=some (ys[j]'(by lia)):=yj _;obtain⟨d,d1,i1⟩:=h1.get' x1;obtain⟨e,c1,i2⟩:=h2.get' y1;obtain⟨u,hu,ru⟩:=r1.get x1;obtain⟨v,hv,rv⟩:=r2.get y1;have z1:us.toArray[j]=u:=by
  have:us[j]?=some (us[j]'p1):=yj _;rw[hu] at this;simpa using (Option.some.inj this).symm
 have z2:vs.toArray[j]=v:=by
  have:vs[j]?=some (vs[j]'p2):=yj _;rw[hv] at this;simpa using (Option.some.inj this).symm
 rw[z1,z2];unfold Um;rw[yv,yv,d1,c1];exact ih _ _ _ _ u v (yz (cC d1) hn) i1 i2 (WV hk d1 c1) ru rv
theorem CG(r1:qj xs us)(r2:qj ys vs)(h1:?Ds)(h2:?Ef) :
  ((?Ke).all (Um ds es)&&us.toArray.size==vs.toArray.size)=ZW ds es:=by
 have e1:=r1.length;have e2:=r2.length;have l1:=h1.len;have l2:=h2.len;simp only[yP];by_cases hl:us.length=vs.length
 .rw[←hl,Nat.min_self,beq_self_eq_true,Bool.and_true,←e1,l1];exact uS ds es ?A
 .rw[uH (by lia),show(us.length==vs.length)=false by simpa using hl,Bool.and_false]
theorem lQ(I:?A6)(hx:?HF)(hy:SqT X.K H b ys)(h1:?Ds)(h2:?Ef)(hu:?qK)
  (hk:Zy ds es=true) (hn:Vm ds<=n)
  (ih:∀ (x y:V) (d e:D) (u v:Value),?vR):?Ks:=by
 obtain⟨us,r1,t1,_⟩:=I.tuple hx;obtain⟨vs,r2,t2,_⟩:=I.tuple hy;have z:=SeqAt.RcAt.tuples (show s.heap.IsTuple a us.toArray from t1) (show s.heap.IsTuple b vs.toArray from t2) hu ?GY;rw[CG r1 r2 h1 h2] at z;exact z
theorem mo(I:?A6)(hx:?HG)(hy:SqL X.K H b ys)(h1:?Ds)(h2:?Ef)(hu:?qK)
  (hk:Zy ds es=true) (hn:Vm ds<=n)
  (ih:∀ (x y:V) (d e:D) (u v:Value),?vR):?Ks:=by
 obtain⟨us,r1,t1,_⟩:=I.list hx;obtain⟨vs,r2,t2,_⟩:=I.list hy;have e1:=r1.length;have e2:=r2.length;have l1:=h1.len;have l2:=h2.len;by_cases hl:us.length=vs.length
 .have z:=SeqAt.RcAt.lists t1.isList t2.isList (by simpa using hl) hu ?GY;have q:(List.range us.toArray.size).all (Um ds es)=ZW ds es:=by
   simp only[yP];rw[←e1,l1];exact uS ds es ?A
  rw[q] at z;exact z
 .rw[uH (by lia)];exact SeqAt.RcAt.lists_lengths t1.isList t2.isList (by simpa using hl) hu
theorem CS(I:?A6)(hx:?HF)(hy:SqT X.K H b ys)(h1:?Ds)(h2:?Ef)(hu:?qK)
  (hk:Zy ds es=true) (hn:Vm ds<=n)
  (ih:∀ (x y:V) (d e:D) (u v:Value),?vR):SeqAt.RcNeAt A s ?AI ?Bf (!ZW ds es):=by
 obtain⟨us,r1,t1,_⟩:=I.tuple hx;obtain⟨vs,r2,t2,_⟩:=I.tuple hy;have z:=SeqAt.RcNeAt.tuples (show s.heap.IsTuple a us.toArray from t1) (show s.heap.IsTuple b vs.toArray from t2) hu ?GY;rw[CG r1 r2 h1 h2] at z;exact z
theorem Dl(I:?A6)(hx:?HG)(hy:SqL X.K H b ys)(h1:?Ds)(h2:?Ef)(hu:?qK)
  (hk:Zy ds es=true) (hn:Vm ds<=n)
  (ih:∀ (x y:V) (d e:D) (u v:Value),?vR):SeqAt.RcNeAt A s ?AI ?Bf (!ZW ds es):=by
 obtain⟨us,r1,t1,_⟩:=I.list hx;obtain⟨vs,r2,t2,_⟩:=I.list hy;have e1:=r1.length;have e2:=r2.length;have l1:=h1.len;have l2:=h2.len;by_cases hl:us.length=vs.length
 .have z:=SeqAt.RcNeAt.lists t1.isList t2.isList (by simpa using hl) hu ?GY;have q:(List.range us.toArray.size).all (Um ds es)=ZW ds es:=by
   simp only[yP];rw[←e1,l1];exact uS ds es ?A
  rw[q] at z;exact z
 .rw[uH (by lia)];exact SeqAt.RcNeAt.lists_lengths t1.isList t2.isList (by simpa using hl) hu
theorem gJ:∀ (n:Nat) {d e:D},dep d<=n->kin d e=true->d=e->pln d=true:=by
 intro n
 induction n with
 |zero=>intro d e hn hk he;subst he;cases d <;> simp[kin] at hk <;> first|(simp[pln];done)|(rw[dep] at hn;lia)
 |succ n ih=>
  intro d e hn hk he;subst he;have go:∀ {ds:List D},Vm ds<=n->Zy ds ds=true->Wf ds=true:=by
   intro ds
   induction ds with
   |nil=>intro _ _;simp[Wf]
   |cons a as ih2=>
    intro hd hks;rw[Vm] at hd;rw[Zy,Yg] at hks;rw[Wf,ih ?A hks.1 rfl,ih2 ?A hks.2];rfl
  cases d <;> simp[kin] at hk <;> first
   | (simp[pln];done)
   | (rw[dep] at hn;rw[pln];exact go ?A hk)
theorem gT (I:?A6):∀ (n:Nat) (A:Around),A.units+n<cLine->∀ (x y:V) (d e:D) (u v:Value),dep d<=n->Is X.K H d x->Is X.K H e y->kin d e=true->YX x u->YX y v->SeqAt.EqAt A s u v (qy d e):=by
  intro n
  induction n with
  |zero=>
    intro A hA x y d e u v hn hx hy hk rx ry;rcases vB hk with ⟨rfl,rfl⟩|⟨_,_,rfl,rfl⟩|⟨_,_,rfl,rfl⟩|⟨_,_,rfl,rfl⟩|⟨_,_,rfl,rfl,hk⟩|⟨_,_,rfl,rfl,hk⟩ <;> simp only[Is] at hx hy <;> first
      | (subst hx hy;cases rx;cases ry;rw[qy];exact ?EX)
      | (subst hx hy;cases rx;cases ry;rw[qy];exact ?M3)
      | (subst hx hy;obtain⟨t,rfl⟩:=rx;obtain⟨t',rfl⟩:=ry;rw[qy];exact ?Li)
      | (subst hx hy;obtain⟨t,rfl⟩:=rx;obtain⟨t',rfl⟩:=ry;rw[qy];exact ?Lb)
      | (rw[dep] at hn;lia)
  |succ n ih=>
    intro A hA x y d e u v hn hx hy hk rx ry;have hu:A.units<cLine:=by lia
    have hA':A.in1.units+n<cLine:=by
      show A.units+1+n<cLine;lia
    by_cases hxy:d=e/\x=y
    . obtain⟨rfl,rfl⟩:=hxy;have hp:=gJ (n+1) hn hk rfl;rw[v7 hp];cases d <;> simp[kin] at hk <;> simp only[Is] at hx <;> first
        | (subst hx;cases rx;cases ry;exact ?EX)
        | (subst hx;obtain⟨t,rfl⟩:=rx;obtain⟨t',rfl⟩:=ry;have z:=SeqAt.EqAt.int_int (A:=A) (s:=s) (by assumption) t (by assumption) t';simpa using z)
        | (subst hx;rename_i i;obtain⟨t,rfl⟩:=rx;obtain⟨t',rfl⟩:=ry;have z:=SeqAt.EqAt.int_int (A:=A) (s:=s) i t i t';simpa using z)
        | (subst hx;rename_i i;obtain⟨t,rfl⟩:=rx;obtain⟨t',rfl⟩:=ry;have z:=SeqAt.EqAt.str_str (A:=A) (s:=s) i t i t';simpa using z)
        | (obtain⟨a,xs,rfl,_,_⟩:=hx;cases rx;cases ry;exact ?EX)
    . have key:=fun (x y:V) (d e:D) (u v:Value) p q r s' t w=>ih A.in1 hA' x y d e u v p q r s' t w;have sm:=fun (h:x=y)=>Is.same I (n+1) hn hk hx (h▸hy);rcases vB hk with ⟨rfl,rfl⟩|⟨_,_,rfl,rfl⟩|⟨_,_,rfl,rfl⟩|⟨_,_,rfl,rfl⟩|⟨_,_,rfl,rfl,hk⟩|⟨_,_,rfl,rfl,hk⟩ <;> simp only[Is] at hx hy <;> first
        | (subst hx hy;cases rx;cases ry;rw[qy];exact ?EX)
        | (subst hx hy;cases rx;cases ry;rw[qy];exact ?M3)
        | (subst hx hy;obtain⟨t,rfl⟩:=rx;obtain⟨t',rfl⟩:=ry;rw[qy];exact ?Li)
        | (subst hx hy;obtain⟨t,rfl⟩:=rx;obtain⟨t',rfl⟩:=ry;rw[qy];exact ?Lb)
        | (rw[dep] at hn
           obtain⟨a,xs,rfl,s1,i1⟩:=hx;obtain⟨b,ys,rfl,s2,i2⟩:=hy;cases rx;cases ry;have hab:a≠b:=fun z=>hxy ⟨sm (by rw[z]),by rw[z]⟩;rw[qy]
           first
           |exact SeqAt.EqAt.of_refs hab (lQ I s1 s2 i1 i2 hu hk ?A key)
           |exact SeqAt.EqAt.of_refs hab (mo I (.inl s1) (.inl s2) i1 i2 hu hk ?A key))
end
def Iz (K:?A0)(neg:Bool):R2:=fun x y H Q=>∃ d e,Is K H d x/\Is K H e y/\kin d e=true/\dep d<=60/\Q (.bl (if neg then !qy d e else qy d e)) H
section
theorem GM (hu:?Q):OpR X (compareOp .Eq) (Iz X.K false):=by
  intro pins s σ H x y v u Q I rx ry h;obtain⟨d,e,h1,h2,hk,hn,q⟩:=h;have hu0:X.A.units<cLine:=by lia
  have key:=fun (x y:V) (d e:D) (u v:Value) p q r s' t w=>gT (s:=s) I 60 X.A.in1 (by show X.A.units+1+60<cLine;lia) x y d e u v p q r s' t w;have sc:DQ x y=true->(decide (x=y))=qy d e->wpAny (model X.prog X.w) X.A (compareOp .Eq v u) (EP X pins σ Q) X.xe s:=fun hs hb=>
    Bo pins s σ H x y v u Q I rx ry ⟨hs,by rw[hb];exact q⟩
  rcases vB hk with ⟨rfl,rfl⟩|⟨_,_,rfl,rfl⟩|⟨_,_,rfl,rfl⟩|⟨_,_,rfl,rfl⟩|⟨_,_,rfl,rfl,hk⟩|⟨_,_,rfl,rfl,hk⟩ <;> simp only[Is] at h1 h2 <;> first
    | (subst h1 h2;exact sc rfl (by first|(simp[qy];done)|(rw[qy,YH];simp)))
    | (rw[dep] at hn
       obtain⟨a,xs,rfl,s1,i1⟩:=h1;obtain⟨b,ys,rfl,s2,i2⟩:=h2;cases rx;cases ry;simp only[qy,Y3,if_false] at q
       first
       |exact lQ (A:=X.A) I s1 s2 i1 i2 hu0 hk ?A key X.prog X.w X.xe _ ?Ge
       |exact mo (A:=X.A) I (.inl s1) (.inl s2) i1 i2 hu0 hk ?A key X.prog X.w X.xe _ ?Ge)
theorem GK (hu:?Q):OpR X (compareOp .NotEq) (Iz X.K true):=by
  intro pins s σ H x y v u Q I rx ry h;obtain⟨d,e,h1,h2,hk,hn,q⟩:=h;have hu0:X.A.units<cLine:=by lia
  have key:=fun (x y:V) (d e:D) (u v:Value) p q r s' t w=>gT (s:=s) I 60 X.A.in1 (by show X.A.units+1+60<cLine;lia) x y d e u v p q r s' t w;have sc:DQ x y=true->(decide (x=y))=qy d e->wpAny (model X.prog X.w) X.A (compareOp .NotEq v u) (EP X pins σ Q) X.xe s:=fun hs hb=>
    AC pins s σ H x y v u Q I rx ry ⟨hs,by rw[hb];exact q⟩
  rcases vB hk with ⟨rfl,rfl⟩|⟨_,_,rfl,rfl⟩|⟨_,_,rfl,rfl⟩|⟨_,_,rfl,rfl⟩|⟨_,_,rfl,rfl,hk⟩|⟨_,_,rfl,rfl,hk⟩ <;> simp only[Is] at h1 h2 <;> first
    | (subst h1 h2;exact sc rfl (by first|(simp[qy];done)|(rw[qy,YH];simp)))
    | (rw[dep] at hn
       obtain⟨a,xs,rfl,s1,i1⟩:=h1;obtain⟨b,ys,rfl,s2,i2⟩:=h2;cases rx;cases ry;simp only[qy,if_true] at q
       first
       |exact CS (A:=X.A) I s1 s2 i1 i2 hu0 hk ?A key X.prog X.w X.xe _ ?Ge
       |exact Dl (A:=X.A) I (.inl s1) (.inl s2) i1 i2 hu0 hk ?A key X.prog X.w X.xe _ ?Ge)
end
def C3 (X:Cx)(Γ:?C1)(a:Expr)(op:CmpOp)(b:Expr)(k:Bool):Prop:=∃ (r:R2) (ta tb:TE),OpR X (compareOp op) r/\PE X a ta/\PE X b tb/\
 ∀ (σ:L2.St) (H:Hp) (Q:VK),(∃ F,Yc F H/\Sl X.K F Γ σ/\∀ H' F',Pur F H F' H'->Q ?CK H')->tOp r ta tb σ H Q
section
theorem vZ (h:?JH)(hm:?wE:=by first|exact xb _|with_unfolding_all rfl):P3 X Γ ?vD ?CK:=by
 obtain⟨r,ta,tb,ho,ha,hb,q⟩:=h;exact PE.of (ol ho ha hb hm) fun σ H Q ⟨F,fh,sl,kk⟩=>q σ H Q ⟨F,fh,sl,fun H' F' p=>kk _ H' F' p (Uw _)⟩
theorem ql (h:?JH)(hm:?wE:=by first|exact xb _|with_unfolding_all rfl):PT3 X Γ ?vD k:=by
 obtain⟨r,ta,tb,ho,ha,hb,q⟩:=h;exact PT.of (b9 ho ha hb hm) fun σ H Q ⟨F,fh,sl,kk⟩=>q σ H _ ⟨F,fh,sl,fun H' F' p=>⟨k,rfl,kk H' F' p⟩⟩
theorem c_R(ho:?EQ)(ha:?CU)(hb:?Du)(hr:∀ x y H F Q,Yc F H->Is X.K F d x->Is X.K F d' y->Q ?CK H->r x y H Q):?JH:=
 ⟨r,_,_,ho,ha,hb,fun σ H Q ⟨F,fh,sl,q⟩=>tP2 ⟨F,fh,sl,fun x y H2 F2 p i1 i2=>hr x y H2 F2 Q p.fh i1 i2 (q H2 F2 p)⟩⟩
variable {i j:Int}
theorem c_I {g:Int->Int->Bool}(ho:OpR X (compareOp op) (rI0 fun i j=>?G7))(ha:?B2)(hb:?B0):C3 X Γ a op b ?Bu:=
 c_R ho ha hb fun x y H F Q fh i1 i2 q=>⟨i,j,isI i1,?Br,q⟩
theorem dX (ha:?B2)(hb:?B0):C3 X Γ a .Lt b (decide (i<j)):=c_I Fb ha hb
theorem o6 (ha:?B2)(hb:?B0):C3 X Γ a .Gt b (decide (j<i)):=c_I EN ha hb
theorem v8 (ha:?B2)(hb:?B0):C3 X Γ a .Eq b (decide (i=j)):=
 c_R Bo ha hb fun x y H F Q fh i1 i2 q=>by
  cases isI i1;cases isI i2;exact⟨rfl,by simpa only[V.int.injEq] using q⟩
theorem BL (ha:?B2)(hb:?B0):C3 X Γ a .NotEq b (!decide (i=j)):=
 c_R AC ha hb fun x y H F Q fh i1 i2 q=>by
  cases isI i1;cases isI i2;exact⟨rfl,by simpa only[V.int.injEq] using q⟩
theorem X4 {i j:Str}(ha:P3 X Γ a (.str i))(hb:P3 X Γ b (.str j)):C3 X Γ a .Eq b (decide (i=j)):=
 c_R Bo ha hb fun x y H F Q fh i1 i2 q=>by
  cases isS i1;cases isS i2;exact⟨rfl,by simpa only[V.str.injEq] using q⟩
theorem Hz {i j:Str}(ha:P3 X Γ a (.str i))(hb:P3 X Γ b (.str j)):C3 X Γ a .NotEq b (!decide (i=j)):=
 c_R AC ha hb fun x y H F Q fh i1 i2 q=>by
  cases isS i1;cases isS i2;exact⟨rfl,by simpa only[V.str.injEq] using q⟩
theorem XH (hu:?Q)(ha:?CU)(hb:?Du)(hk:kin d d'=true)(hd:dep d<=60):C3 X Γ a .Eq b (qy d d'):=
 c_R (GM hu) ha hb fun x y H F Q fh i1 i2 q=>?Kn
theorem fE (hu:?Q)(ha:?CU)(hb:?Du)(hk:kin d d'=true)(hd:dep d<=60):C3 X Γ a .NotEq b (!qy d d'):=
 c_R (GK hu) ha hb fun x y H F Q fh i1 i2 q=>?Kn
theorem jn(h:P3 X Γ e ?CK)(he:∀ whole,isTrue e X.env whole=(do let v ←whole;standAt e.pos;holding [v] (truthy v)):=by intro _;rfl):?HW:=
 PT.of (FW h he) fun σ H Q ⟨F,fh,sl,q⟩=>⟨F,fh,sl,fun v H' F' p i=>⟨k,isB i,q H' F' p⟩⟩
theorem vD (h:?Fx):PT3 X Γ ?Gl (!k):=PT.of (FU h) fun σ H Q ⟨F,fh,sl,q⟩=>⟨F,fh,sl,q⟩
def PW3 (X:Cx)(Γ:?C1)(e:Expr)(k:Bool):Prop:=PW X e (tPT X.K Γ k)
theorem PW.of {X:Cx}(h:PW X e t)(i:∀ σ H Q,?vI):PW X e u:=fun w pins s σ H Q I hq=>h w pins s σ H Q I ?Ew
theorem PW3.t(h:PW3 X Γ e k):?HW:=PW.pt h
theorem cJ (h:?Fx):PW3 X Γ (.BoolOp .And [a] pos) k:=DD h
theorem wj (h:?Fx):PW3 X Γ (.BoolOp .Or [a] pos) k:=FV h
theorem E2:PW X e fun _ _ _=>False:=fun _ _ _ _ _ _ _ h=>h.elim
theorem nS:PE X e fun _ _ _=>False:=fun _ _ _ _ _ _ h=>h.elim
theorem iT (ha:?Fx)(hb:k=true->PW3 X Γ ?kY k'):PW3 X Γ ?kT (k&&k'):=by
 cases k with
 |true=>exact PW.of (BC ha (hb rfl)) fun σ H Q ⟨F,fh,sl,q⟩=>⟨F,fh,sl,fun H' F' p=>by dsimp only;rw[yc rfl];exact⟨F',p.fh,sl.mono p.ff,fun H2 F2 p2=>q H2 F2 (p.trans p2)⟩⟩
 |false=>exact PW.of (BC ha E2) fun σ H Q ⟨F,fh,sl,q⟩=>⟨F,fh,sl,fun H' F' p=>by dsimp only;rw[yd yN];exact q H' F' p⟩
theorem ko (ha:?Fx)(hb:k=false->PW3 X Γ (.BoolOp .Or (b::rest) pos) k'):PW3 X Γ (.BoolOp .Or (a::b::rest) pos) (k||k'):=by
 cases k with
 |false=>exact PW.of (EY ha (hb rfl)) fun σ H Q ⟨F,fh,sl,q⟩=>⟨F,fh,sl,fun H' F' p=>by dsimp only;rw[yd yN];exact⟨F',p.fh,sl.mono p.ff,fun H2 F2 p2=>q H2 F2 (p.trans p2)⟩⟩
 |true=>exact PW.of (EY ha E2) fun σ H Q ⟨F,fh,sl,q⟩=>⟨F,fh,sl,fun H' F' p=>by dsimp only;rw[yc rfl];exact q H' F' p⟩
theorem wO {op:BoolOp}(h:?CU):P3 X Γ (.BoolOp op [a] pos) d:=AI h
theorem uY (ha:?Gy)(hb:k=true->P3 X Γ ?kY (.bl k')):P3 X Γ ?kT (.bl (k&&k')):=by
 cases k with
 |true=>exact PE.of (sT ha (hb rfl)) fun σ H Q ⟨F,fh,sl,q⟩=>⟨F,fh,sl,fun v H' F' p i=>⟨true,isB i,by rw[yc rfl];exact ?vU⟩⟩
 |false=>exact PE.of (sT ha nS) fun σ H Q ⟨F,fh,sl,q⟩=>⟨F,fh,sl,fun v H' F' p i=>⟨?AE,isB i,by dsimp only;rw[yd yN];exact ?Iv⟩⟩
theorem HR (ha:?Gy)(hb:k=false->P3 X Γ (.BoolOp .Or (b::rest) pos) (.bl k')):P3 X Γ (.BoolOp .Or (a::b::rest) pos) (.bl (k||k')):=by
 cases k with
 |false=>exact PE.of (sM ha (hb rfl)) fun σ H Q ⟨F,fh,sl,q⟩=>⟨F,fh,sl,fun v H' F' p i=>⟨?AE,isB i,by rw[yd yN];exact ?vU⟩⟩
 |true=>exact PE.of (sM ha nS) fun σ H Q ⟨F,fh,sl,q⟩=>⟨F,fh,sl,fun v H' F' p i=>⟨true,isB i,by dsimp only;rw[yc rfl];exact ?Iv⟩⟩
theorem HF (ha:?Gy):P3 X Γ ?Gl (.bl (!k)):=PE.of (Fv ha) fun σ H Q ⟨F,fh,sl,q⟩=>⟨F,fh,sl,fun v H' F' p i=>⟨k,isB i,?Iv⟩⟩
theorem fk (hc:?Fw)(ha:k=true->P3 X Γ a d)(hb:k=false->P3 X Γ b d):P3 X Γ (.IfExp c a b pos) d:=by
 cases k with
 |true=>exact PE.of (f6 hc (ha rfl) nS) fun σ H Q ⟨F,fh,sl,q⟩=>⟨F,fh,sl,fun H' F' p=>by dsimp only;rw[yc rfl];exact ?vU⟩
 |false=>exact PE.of (f6 hc nS (hb rfl)) fun σ H Q ⟨F,fh,sl,q⟩=>⟨F,fh,sl,fun H' F' p=>by dsimp only;rw[yd yN];exact ?vU⟩
end
def spP (K:?A0)(n:Nat)(C:?G):Sp:=fun vs H Q _=>∃ ds d F,C ds d/\ds.length=n/\Yc F H/\IsL K F ds vs/\∀ v H' F',Pur F H F' H'->Is K F' d v->Q v H'
theorem spP.len {K:?A0}{n:Nat}{C:?G}{vs:?AL}{H:Hp}{Q:VK}{E:XK}(h:spP K n C vs H Q E):vs.length=n:=by
 obtain⟨ds,d,F,_,l,_,i,_⟩:=h;rw[i.len,l]
section
theorem Yk (o:?KW)(hr:?Aw)(hg:?Af)(ha:?yP)(hC:C ds d)(hn:ds.length=n:=by rfl)(hdb:?L:=by decide)
  (he:?W:=by rfl) (hpl:?zD:=by rfl):?Jm:=
 PE.of (xZ o hr hg ha hdb he hpl) fun σ H Q ⟨F,fh,sl,q⟩=>⟨F,fh,sl,fun vs H' F' pu i=>by
  dsimp only;rw[Yq];exact⟨ds,d,F',hC,hn,pu.fh,i,fun v H2 F2 p2 i2=>?JK⟩⟩
theorem vC {id:?Ch}{r:List V->Hp->VK->Prop}(hc:Ve X ?Cx r)(hg:?Af)(hm:?jN)(hv:bootBuiltins x=some ?Cx)(ha:?yP)
  (hr:∀ vs H F Q,Yc F H->IsL X.K F ds vs->(∀ v H' F',Pur F H F' H'->Is X.K F' d v->Q v H')->r vs H Q) (hn:?jA :=by decide) (hdb:?L:=by decide)
  (he:?W:=by rfl) (hpl:?zD:=by rfl):?Jm:=
 PE.of (tF hc hg hm hv ha hn hdb he hpl) fun σ H Q ⟨F,fh,sl,q⟩=>⟨F,fh,sl,fun vs H' F' pu i=>hr vs H' F' Q pu.fh i fun v H2 F2 p2 i2=>?JK⟩
end
theorem tN(hc:Ve X ?FL r)(hg:?Af)(hm:?jN)(hv:bootBuiltins x=some ?FL)(ha:?yP)
  (hr:∀ vs H F Q,Yc F H->IsL X.K F ds vs->(∀ v H' F',Pur F H F' H'->Is X.K F' d v->Q v H')->r vs H Q) (hn:?jA :=by decide) (hdb:?L:=by decide)
  (he:?W:=by rfl) (hpl:?zD:=by rfl):?Jm:=
 PE.of (U8 hc hg hm hv ha hn hdb he hpl) fun σ H Q ⟨F,fh,sl,q⟩=>⟨F,fh,sl,fun vs H' F' pu i=>hr vs H' F' Q pu.fh i fun v H2 F2 p2 i2=>?JK⟩
theorem wn {K:?A0}{F:Hp}{d:D}{vs:?AL}(h:IsL K F [d] vs):∃ x,vs=[x]/\Is K F d x:=by
 simp only[IsL] at h;obtain⟨x,r,rfl,i,rfl⟩:=h;exact⟨x,rfl,i⟩
theorem oU {K:?A0}{F:Hp}{d e:D}{vs:?AL}(h:IsL K F [d,e] vs):∃ x y,vs=[x,y]/\Is K F d x/\Is K F e y:=by
 simp only[IsL] at h;obtain⟨x,r,rfl,i,y,r2,rfl,i2,rfl⟩:=h;exact⟨x,y,rfl,i,i2⟩
theorem sw:∀ (n:Nat) {d e:D},dep d<=n->kin d e=true->kin e d=true:=by
 intro n
 induction n with
 |zero=>intro d e hn hk;rcases vB hk with ⟨rfl,rfl⟩|⟨_,_,rfl,rfl⟩|⟨_,_,rfl,rfl⟩|⟨_,_,rfl,rfl⟩|⟨_,_,rfl,rfl,hk⟩|⟨_,_,rfl,rfl,hk⟩ <;> rw[kin] <;> (rw[dep] at hn;lia)
 |succ n ih=>
  intro d e hn hk;have go:∀ {ds es:List D},Vm ds<=n->Zy ds es=true->Zy es ds=true:=by
   intro ds
   induction ds with
   |nil=>intro es _ _;cases es <;> simp[Zy]
   |cons a as ih2=>
    intro es hd hks;cases es with
    |nil=>simp[Zy]
    |cons b bs=>
     rw[Vm] at hd;rw[Zy,Yg] at hks;rw[Zy,ih ?A hks.1,ih2 ?A hks.2];rfl
  rcases vB hk with ⟨rfl,rfl⟩|⟨_,_,rfl,rfl⟩|⟨_,_,rfl,rfl⟩|⟨_,_,rfl,rfl⟩|⟨_,_,rfl,rfl,hk⟩|⟨_,_,rfl,rfl,hk⟩ <;> rw[kin] <;> (rw[dep] at hn;exact go ?A hk)
def Hy (K:?A0):R2:=fun x y H Q=>∃ l b xs zs,x=.ref l/\y=.ref b/\SqL K H l xs/\SqL K H b zs/\xs.length+zs.length<=sizeLine/\∀ p,H p=none->Q ?Bd (upd H p (.lst (xs++zs)))
section
theorem D4:OpR X ?HQ (Hy X.K):=by
 intro pins s σ H x y v u Q I rx ry h;obtain⟨l,b,xs,zs,rfl,rfl,hH,hB,hz,q⟩:=h;cases rx;cases ry;obtain⟨its,r,⟨o,n,e,c,dd,d⟩,z⟩:=I.list hH;obtain⟨its2,r2,⟨o2,n2,e2,c2,dd2,d2⟩,z2⟩:=I.list hB;obtain⟨oc,od,odt,osl⟩:=o;obtain⟨oc2,od2,odt2,osl2⟩:=o2;dsimp only at c dd d c2 dd2 d2;subst c dd d c2 dd2 d2;have hl:=r.length;have hl2:=r2.length;have ea:its.toArray++its2.toArray=(its++its2).toArray:=by simp
 refine concat_meets ⟨_,e,rfl⟩ ⟨_,e2,rfl⟩ noFill_list_add seq_list_add PySem.F.slot_list_add PySem.F.entry_list_add (PySem.F.args_list_add_2 _ _) (list_addW l b its.toArray its2.toArray n n2 none none osl osl2 (by rw[yP,yP];lia)) ⟨e,e2,?_⟩;rw[ea];exact⟨.ref _,_,I.lnew (t':=?Ag) (r.append r2) (by rw[yI];lia),rfl,q _ I.fresh⟩
def dTy:D->Option Value
 |.non=>some (.type "NoneType")
 |.bl _=>some (.type "bool")
 |.int _=>some (.type "int")
 |.str _=>some (.type "str")
 |.tup _=>some ?zQ
 |.lst _=>some ?R
 |_=>none
theorem iJ:Ve X (.builtin "isinstance") (fun xs H Q=>∃ x c d t b,xs=[x,c]/\Is X.K H d x/\dTy d=some t/\W.kitOne X.K t (cV c)=some b/\cV c≠.none/\Q (.bl b) H):=by
 intro pins s σ H xs us Q I r h;obtain⟨x,c,d,t,b,rfl,hi,ht,hk,hc,q⟩:=h;obtain⟨u,v,rfl,r1,r2⟩:=HH r;rw[Fu r2 hc];have fin:∀ tk,EP X pins σ Q (.bool b) {s with toks:=tk}:=fun tk=>⟨.bl b,H,?B3,rfl,q⟩
 cases d with
 |non=>simp only[Is] at hi;subst hi;cases ht;exact KD I r1 .non hk fin
 |bl y=>simp only[Is] at hi;subst hi;cases ht;exact KD I r1 (.bl y) hk fin
 |int y=>simp only[Is] at hi;subst hi;cases ht;exact KD I r1 (.int y) hk fin
 |str y=>simp only[Is] at hi;subst hi;cases ht;exact KD I r1 (.str y) hk fin
 |raw y=>cases ht
 |obj C fs ds=>cases ht
 |exc C=>cases ht
 |scr ns=>cases ht
 |tup ds=>
  simp only[Is] at hi;obtain⟨a,xs,rfl,h1,_⟩:=hi;cases ht;cases r1;obtain⟨its,_,⟨o,e,c',_⟩,_⟩:=I.tuple h1;exact W.kia_one W.kitx_tuple I.kIn ⟨o,e,c'⟩ hk ?M fin
 |lst ds=>
  simp only[Is] at hi;obtain⟨a,xs,rfl,h1,_⟩:=hi;cases ht;cases r1;obtain⟨its,_,p,_⟩:=I.list (.inl h1);obtain⟨o,e,c',_⟩:=p.isList;exact W.kia_one W.kitx_list I.kIn ⟨o,e,c'⟩ hk ?M fin
 |dk ks ds=>
  simp only[Is] at hi;cases ht
 |dt ks ds=>
  simp only[Is] at hi;cases ht
theorem pQ (hc:?zB):Ve X (.builtin "sum") (fun xs H Q=>∃ (a:Addr) (ns:List Int),xs=[.ref a]/\SqL X.K H a ?C4/\Q (.int ns.sum) H):=by
 intro pins s σ H xs us Q I r h;obtain⟨a,ns,rfl,hl,q⟩:=h;obtain⟨u,rfl,rx⟩:=uK r;cases rx;obtain⟨its,rv,p,_⟩:=I.list hl;have hi:IntsAre its ns:=iC rv;obtain⟨ys,hx⟩:=hi.allInts.items;have hl':s.heap.IsList a (intItems ys):=hx▸p.isList;refine sum_intListG ?CB hl' fun h' tk t' hk=>?_;have e1:ns=ys.toList.map ?C:=by
  rw[←nums_intItems,←hx];exact(show numsOf its.toArray.toList=ns from hi.numsOf).symm
 have e2:preSum (numAt ys) ys.size=ns.sum:=by
  rw[preSum_eq,List.take_of_length_le (by simp),e1]
 rw[e2];exact⟨.int ns.sum,H,I.kept hk,?Bt,q⟩
def inD (x:D)(ds:?AD):Bool:=ds.any fun y=>qy y x
def IW (K:?A0)(neg:Bool):R2:=fun x y H Q=>∃ p xs d ds,y=.ref p/\(SqL K H p xs∨SqT K H p xs)/\IsL K H ds xs/\Is K H d x/\(∀ e∈ds,?xD)/\Q (.bl (if neg then !inD d ds else inD d ds)) H
open Classical in
def kj (K:W.Frag)(H:Hp)(d:D)(ds:List D)(u:Value):Bool:=decide (∃ (e:D) (x:V),e∈ds/\YX x u/\Is K H e x/\qy e d=true)
open Classical in
theorem oO {K:W.Frag}{H:Hp}{d:D}{ds:List D}{u:Value}:kj K H d ds u=true ↔ ∃ (e:D) (x:V),e∈ds/\YX x u/\Is K H e x/\qy e d=true:=by
 unfold kj;exact decide_eq_true_iff
theorem oB {K:?A0}{H:Hp}{d:D}{es:?AD}:∀ {ds:List D} {xs:List V} {us:List Value},(∀ e∈ds,e∈es)->IsL K H ds xs->qj xs us->(∀ e e' x,e∈es->e'∈es->Is K H e x->Is K H e' x->qy e d=qy e' d)->
  us.any (kj K H d es)=ds.any fun y=>qy y d
 |[],_,_,_,h,r,_=>by simp only[IsL] at h;subst h;cases r;rfl
 |e::ds,_,_,hm,h,r,hs=>by
  simp only[IsL] at h;obtain⟨x,xs,rfl,i,h⟩:=h;cases r with
  |cons r1 r=>
   rename_i u us;rw[zc,zc,oB (fun e' q=>hm e' (ye _ q)) h r hs];congr 1;rw[YH,oO];constructor
   .rintro⟨e',x',m,r2,i2,b⟩;cases r2.inj r1;rw[←b];exact hs _ _ _ (hm e (by simp)) m i i2
   .intro b;exact⟨e,x,hm e (by simp),r1,i,b⟩
theorem Wj(hu:?Q)(I:?A6)(rx:YX x v)(hi:?Ds)(hd:Is X.K H d x)
  (hk:∀ e∈ds,?xD) (r:qj xs its):(∀ w∈its,SeqAt.EqAt X.A.in1 s w v (kj X.K H d ds w))/\its.toArray.any ?Fu=inD d ds:=by
 have key:=fun (x y:V) (d e:D) (u v:Value) p q r s' t w=>gT (s:=s) I 60 X.A.in1 (by show X.A.units+1+60<cLine;lia) x y d e u v p q r s' t w;have one:∀ e e' x',e∈ds->e'∈ds->Is X.K H e x'->Is X.K H e' x'->qy e d=qy e' d:=fun e e' x' m m' i i'=>by
  obtain⟨k1,n1⟩:=hk e m;obtain⟨k2,n2⟩:=hk e' m';by_cases b:qy e d=true
  .have ee:=Wr b;subst ee;have k3:kin e e'=true:=sw 60 n2 k2;rw[Is.same I 60 n1 k3 i i']
  .by_cases b':qy e' d=true
   .have ee:=Wr b';subst ee;rw[Is.same I 60 n1 k1 i i']
   .rw[jh.mpr b,jh.mpr b']
 refine⟨fun w hw=>?_,?_⟩
 .obtain⟨i,hl,rfl⟩:=List.getElem_of_mem hw;have hx:i<xs.length:=by rw[r.length];exact hl
  have x1:xs[i]?=some xs[i]:=yj hx;obtain⟨w',e1,r1⟩:=r.get x1;rw[yj hl] at e1;cases e1;obtain⟨e,e2,i2⟩:=hi.get' x1;have m:=yr e2;have z:=key _ _ _ _ _ _ (hk e m).2 i2 hd (hk e m).1 r1 rx;have:kj X.K H d ds its[i]=qy e d:=by
   rw[YH,oO];constructor
   .rintro⟨e',x',m',r2,i3,b⟩;cases r2.inj r1;rw[←b];exact one _ _ _ m m' i2 i3
   .intro b;exact⟨e,_,m,r1,i2,b⟩
  rw[this];exact z
 .rw[show its.toArray.any (kj X.K H d ds)=its.any (kj X.K H d ds) by simp,oB (fun _ z=>z) hi r one];rfl
theorem FF (hu:?Q):OpR X (compareOp .In) (IW X.K false):=by
 intro pins s σ H x y v u Q I rx ry h;obtain⟨p,xs,d,ds,rfl,hq,hi,hd,hk,q⟩:=h;cases ry;rcases hq with hq|hq
 .obtain⟨its,r,pl,hz⟩:=I.list hq;obtain⟨c1,c2⟩:=Wj hu I rx hi hd hk r;refine SeqAt.in_listAt ?Fu pl.isList ?kK ?Gc;rw[c2];exact q
 .obtain⟨its,r,pl,hz⟩:=I.tuple hq;obtain⟨c1,c2⟩:=Wj hu I rx hi hd hk r;refine SeqAt.in_tupleAt ?Fu pl ?kK ?Gc;rw[c2];exact q
theorem pU (hu:?Q):OpR X (compareOp .NotIn) (IW X.K true):=by
 intro pins s σ H x y v u Q I rx ry h;obtain⟨p,xs,d,ds,rfl,hq,hi,hd,hk,q⟩:=h;cases ry;rcases hq with hq|hq
 .obtain⟨its,r,pl,hz⟩:=I.list hq;obtain⟨c1,c2⟩:=Wj hu I rx hi hd hk r;refine SeqAt.notIn_listAt ?Fu pl.isList ?kK ?Gc;rw[c2];exact q
 .obtain⟨its,r,pl,hz⟩:=I.tuple hq;obtain⟨c1,c2⟩:=Wj hu I rx hi hd hk r;refine SeqAt.notIn_tupleAt ?Fu pl ?kK ?Gc;rw[c2];exact q
def AD (K:?A0):R2:=fun x y H Q=>∃ a b xs ys,x=.ref a/\y=.ref b/\SqT K H a xs/\SqT K H b ys/\xs.length+ys.length<=sizeLine/\
 (xs=[]->Q ?Bf H)/\(ys=[]->Q ?AI H)/\∀ p,H p=none->Q ?Bd (upd H p (.tup (xs++ys)))
theorem fy:OpR X (binaryOp .Add) (AD X.K):=by
 intro pins s σ H x y v u Q I rx ry h;obtain⟨a,b,xs,ys,rfl,rfl,ha,hb,hz,q0,q1,q2⟩:=h;by_cases hx:xs=[]
 .cases rx;cases ry;obtain⟨its,r1,p1,_⟩:=I.tuple ha;obtain⟨its2,r2,p2,_⟩:=I.tuple hb;obtain⟨⟨cls,dd,data,sl⟩,ho,hc,n,hd⟩:=id p1;obtain⟨⟨cls2,dd2,data2,sl2⟩,ho2,hc2,n2,hd2⟩:=id p2;simp only at hc hd hc2 hd2;subst hc hd hc2 hd2;exact concat_meets ⟨_,ho,rfl⟩ ⟨_,ho2,rfl⟩ noFill_tuple_add seq_tuple_add PySem.F.slot_tuple_add PySem.F.entry_tuple_add (PySem.F.args_tuple_add_2 _ _)
   (tuple_addW0 a b its.toArray its2.toArray n n2 dd dd2 sl sl2 (by simp[r1.nil_iff.mpr hx])) ⟨ho,ho2,⟨.ref b,H,I,rfl,q0 hx⟩⟩
 .exact Eu pins s σ H _ _ v u Q I rx ry ⟨a,b,xs,ys,rfl,rfl,ha,hb,hx,hz,q1,fun _=>q2⟩
end
section
theorem isT {K:?A0}{F:Hp}{v:V}(h:Is K F ?CF v):∃ a xs,v=.ref a/\SqT K F a xs/\IsL K F ds xs:=by simpa only[Is] using h
theorem ig {K:?A0}{F:Hp}{v:V}(h:Is K F ?Bq v):∃ a xs,v=.ref a/\Rd F a ?Aa/\IsL K F ds xs:=by simpa only[Is] using h
theorem zy {K:?A0}{F:Hp}{v:V}(h:Is K F ?Bq v):∃ a xs,v=.ref a/\SqL K F a xs/\IsL K F ds xs:=by
 obtain⟨a,xs,e,r,i⟩:=ig h;exact⟨a,xs,e,.inl r,i⟩
theorem Is.tupI {K:?A0}{F:Hp}{a:Addr}{xs:?AL}(h:SqT K F a xs)(i:?El):Is K F ?CF ?AI:=by simp only[Is];exact⟨a,xs,rfl,h,i⟩
theorem Is.lstI {K:?A0}{F:Hp}{a:Addr}{xs:?AL}(h:Rd F a ?Aa)(i:?El):Is K F ?Bq ?AI:=by simp only[Is];exact⟨a,xs,rfl,h,i⟩
theorem GY (ha:?CO)(hb:?Ik)(hz:?wZ):PF3 X Γ ?EW (ds++es):=
 PE.of (uU D4 ha hb) fun σ H Q ⟨F,fh,sl,k⟩=>tP2 ⟨F,fh,sl,fun x y H2 F2 p i1 i2=>by
  obtain⟨l,xs,rfl,s1,j1⟩:=zy i1;obtain⟨l2,ys,rfl,s2,j2⟩:=zy i2;exact⟨l,l2,xs,ys,rfl,rfl,p.fh.seq s1,p.fh.seq s2,by rw[j1.len,j2.len];exact hz,fun q hq=>k q _ _ F2 (p.trans (Pur.layOwn p.fh hq)) (p.hh.free hq) (p.fh.free hq) yT (j1.append j2)⟩⟩
theorem aK (ha:?CO)(hb:?Ik)(hz:?wZ):P3 X Γ ?EW (.lst (ds++es)):=(GY ha hb hz).p
theorem tR (ha:?Do)(hb:P3 X Γ b (.tup es))(hz:?wZ):P3 X Γ ?EW (.tup (ds++es)):=
 m4 fy ha hb fun x y H F Q fh i1 i2 k=>by
  obtain⟨l,xs,rfl,s1,j1⟩:=isT i1;obtain⟨l2,ys,rfl,s2,j2⟩:=isT i2;have e1:=j1.len;have e2:=j2.len;refine⟨l,l2,xs,ys,rfl,rfl,qD fh s1,qD fh s2,by rw[j1.len,j2.len];exact hz,fun z=>?_,fun z=>?_,fun q hq=>k _ _ _ ?HJ (Is.tupI ?Cr ((j1.append j2).mono (?HJ).ff))⟩
  .have:ds=[]:=qr.mp (by rw[←e1,z];rfl);subst this;exact ?LU
  .have:es=[]:=qr.mp (by rw[←e2,z];rfl);subst this;rw[Yq] at k;exact ?LZ
theorem Gd(ha:?Fd)(hb:P3 X Γ b (.str y))(hz:x.length+y.length<=sizeLine):P3 X Γ ?EW (.str (x++y)):=
 m4 iQ ha hb fun v w H F Q fh i1 i2 k=>⟨x,y,isS i1,isS i2,hz,k _ _ _ ?AU (fu F)⟩
theorem zS (hm:X.mg "len" = none)(hg:Gl X "len")(ha:?CO)(he:?zW:=by rfl):?LP:=
 vC VN hg hm PySem.boot_len ?CR (fun vs H F Q fh i k=>by
  obtain⟨x,rfl,j0⟩:=wn i;obtain⟨l,xs,rfl,s1,j1⟩:=zy j0;exact⟨l,xs,rfl,?JI,k _ _ _ ?AU (by rw[j1.len];exact Jm F)⟩) ?B ?B he
theorem jb (hm:X.mg "len" = none)(hg:Gl X "len")(ha:?Do)(he:?zW:=by rfl):?LP:=
 vC VN hg hm PySem.boot_len ?CR (fun vs H F Q fh i k=>by
  obtain⟨x,rfl,j0⟩:=wn i;obtain⟨l,xs,rfl,s1,j1⟩:=isT j0;exact⟨l,xs,rfl,.inr (qD fh s1),k _ _ _ ?AU (by rw[j1.len];exact Jm F)⟩) ?B ?B he
theorem FN {ns:?CZ}(hm:X.mg "len" = none)(hg:Gl X "len")(ha:P3 X Γ a (.scr ns))(he:?zW:=by rfl):P3 X Γ ?xN (.int ns.length):=
 vC VN hg hm PySem.boot_len ?CR (fun vs H F Q fh i k=>by
  obtain⟨x,rfl,j0⟩:=wn i;simp only[Is] at j0;obtain⟨l,rfl,s1⟩:=j0;exact⟨l,_,rfl,?JI,k _ _ _ ?AU (by rw[yf];exact Jm F)⟩) ?B ?B he
theorem IY {ns:?CZ}{i n:Int}(ha:P3 X Γ a (.scr ns))(hb:?Gp)(he:atI ns i=some n)(hs:V0 b:=by exact ?yH):P3 X Γ ?Dq (.int n):=
 oo Ua ha hb (fun x y H F Q fh i1 i2 k=>by
  simp only[Is] at i1 i2;obtain⟨l,rfl,h1⟩:=i1;refine⟨l,_,i,.int n,rfl,i2,fh.seq h1,?_,k _ H F ?AU (Jm F)⟩;unfold atI at he ⊢;rw[yf];cases q:ixN ns.length i with
  |none=>rw[q] at he;cases he
  |some j=>
   rw[q] at he;have he':ns[j]?=some n:=he;show(?C4)[j]?=_;rw[yC,he'];rfl) hs
theorem Gh {x:Str}(hm:X.mg "len" = none)(hg:Gl X "len")(ha:?Fd)(hz:x.length<=sizeLine)(he:?zW:=by rfl):P3 X Γ ?xN (.int x.length):=
 vC bj hg hm PySem.boot_len ?CR (fun vs H F Q fh i k=>by
  obtain⟨v,rfl,j0⟩:=wn i;exact⟨x,by rw[isS j0],hz,k _ _ _ (Pur.refl fh) (Jm F)⟩) ?B ?B he
theorem tI:bootBuiltins "int" = some (.type "int"):=by decide +kernel
theorem DT:bootBuiltins "bool" = some (.type "bool"):=by decide +kernel
theorem VX:bootBuiltins "str" = some (.type "str"):=by decide +kernel
theorem CO:bootBuiltins "dict" = some ?jJ:=by decide +kernel
theorem kG:bootBuiltins "tuple" = some ?zQ:=by decide +kernel
theorem DJ:bootBuiltins "list" = some ?R:=by decide +kernel
theorem XE:bootBuiltins "isinstance" = some (.builtin "isinstance"):=by decide +kernel
theorem Gx:bootBuiltins "sum" = some (.builtin "sum"):=by decide +kernel
theorem Vy (hm:X.mg "list" = none)(hg:Gl X "list")(ha:?CU)(hd:d=.lst ds∨d=.tup ds)(he:?zW:=by rfl):PF3 X Γ (.Call (.Name "list" p) [a] [] pos) ds:=
 PE.of (U8 bS hg hm DJ ?CR ?B ?B he) fun σ H Q ⟨F,fh,sl,q⟩=>⟨F,fh,sl,fun vs H' F' pu i=>by
  obtain⟨x,rfl,j0⟩:=wn i;rcases hd with rfl|rfl
  .obtain⟨l,xs,rfl,s1,j1⟩:=zy j0;exact⟨l,xs,rfl,.inl (pu.fh.seq s1),fun l' hl=>?KH⟩
  .obtain⟨l,xs,rfl,s1,j1⟩:=isT j0;exact⟨l,xs,rfl,.inr (qD pu.fh s1),fun l' hl=>?KH⟩⟩
theorem Io {ns:?CZ}(hc:?zB)(hm:X.mg "sum" = none)(hg:Gl X "sum")(ha:P3 X Γ a (.lst ?GG))(he:?zW:=by rfl):P3 X Γ (.Call (.Name "sum" p) [a] [] pos) (.int ns.sum):=
 vC (pQ hc) hg hm Gx ?CR (fun vs H F Q fh i k=>by
  obtain⟨x,rfl,j0⟩:=wn i;obtain⟨l,xs,rfl,s1,j1⟩:=zy j0;have e:=IsL.of_ints j1;subst e;exact⟨l,ns,rfl,fh.seq s1,k _ _ _ ?AU (Jm F)⟩) ?B ?B he
theorem J8 {cv:V}{k:Bool}(hm:X.mg "isinstance" = none)(hg:Gl X "isinstance")(ha:?CU)(hb:P3 X Γ b (.raw cv))(ht:dTy d=some t)(hk:W.kitOne X.K t (cV cv)=some k)(hc:cV cv≠.none)
  (he:starEach [a,b] X.env=?qZ::starEach [b] X.env:=by rfl) (he2:starEach [b] X.env=(?AE,?Em)::starEach [] X.env:=by rfl) (hpl:(backTo pos (starEach [b] X.env)).any ?C=false:=by rfl):P3 X Γ (.Call (.Name "isinstance" p) [a,b] [] pos) ?CK:=
 vC iJ hg hm XE ?M6 (fun vs H F Q fh i q=>by
  obtain⟨x,y,rfl,i1,i2⟩:=oU i;cases isR i2;exact⟨x,_,d,t,k,rfl,?Ho,ht,hk,hc,q _ _ _ ?AU (Uw F)⟩) ?B ?B he hpl
theorem DG (hu:?Q)(ha:?CU)(hb:?Du)(hd:d'=.lst ds∨d'=.tup ds)(hk:∀ e∈ds,?xD):C3 X Γ a .In b (inD d ds):=
 c_R (FF hu) ha hb fun x y H F Q fh i1 i2 q=>by
  rcases hd with rfl|rfl
  .obtain⟨l,xs,rfl,s1,j1⟩:=zy i2;exact ?KN
  .obtain⟨l,xs,rfl,s1,j1⟩:=isT i2;exact ?KR
theorem Ue (hu:?Q)(ha:?CU)(hb:?Du)(hd:d'=.lst ds∨d'=.tup ds)(hk:∀ e∈ds,?xD):C3 X Γ a .NotIn b (!inD d ds):=
 c_R (pU hu) ha hb fun x y H F Q fh i1 i2 q=>by
  rcases hd with rfl|rfl
  .obtain⟨l,xs,rfl,s1,j1⟩:=zy i2;exact ?KN
  .obtain⟨l,xs,rfl,s1,j1⟩:=isT i2;exact ?KR
end
structure Bs where
 M:List Addr
 F:Hp
 H:Hp
abbrev Ow:=Hp->HO->Prop
abbrev Om:=List (Addr×Ow)
abbrev Ga:=List (Option D)
def QO (K:?A0)(ds:?AD):Ow:=fun F o=>∃ xs,o=.lst xs/\IsL K F ds xs
structure Sat (K:?A0)(B:Bs)(Γ:Ga)(Ω:Om)(F:Hp)(σ:?An)(H:Hp):Prop where
 f0:Yc B.F F
 fh:Yc F H
 fr:∀ b,F b≠none->B.F b≠none∨B.H b=none∨b∈B.M
 kp:∀ b o,b∉B.M->B.H b=some o->H b=some o
 nd:(Ω.map ?C).Nodup
 od:∀ p∈Ω,p.1∈B.M∨B.H p.1=none
 own:∀ p∈Ω,F p.1=none/\∃ o,H p.1=some o/\∀ F',Yc F F'->p.2 F' o
 sl:Sl K F Γ σ
section
variable {K:?A0}{B:Bs}{Γ Γ':Ga}{Ω:Om}{F F':Hp}{σ σ':?An}{H H':Hp}
theorem Sat.freeB (S:?BJ)(h:H b=none):B.H b=none∨b∈B.M:=by
 by_cases hb:b∈B.M
 .exact .inr hb
 .refine .inl ?_;cases q:B.H b with
  |none=>rfl
  |some o=>rw[S.kp b o hb q] at h;cases h
theorem Sat.pur (S:?BJ)(p:?Ju):Sat K B Γ Ω F' σ H' where
 f0:=S.f0.trans p.ff
 fh:=p.fh
 fr:=fun b q=>(p.new b q).elim (fun z=>S.fr b z) fun z=>(S.freeB z).elim (fun w=>?Jr) fun w=>.inr (.inr w)
 kp:=fun b o hb e=>p.hh _ _ (S.kp b o hb e)
 nd:=S.nd
 od:=S.od
 own:=fun q hq=>by
  obtain⟨h1,o,h2,h3⟩:=S.own q hq;refine⟨?_,o,p.hh _ _ h2,fun F2 e=>h3 F2 (p.ff.trans e)⟩;cases z:F' q.1 with
  |none=>rfl
  |some u=>
   rcases p.new q.1 (by rw[z];simp) with w|w
   .exact absurd h1 w
   .rw[h2] at w;cases w
 sl:=S.sl.mono p.ff
theorem Sat.slots (S:?BJ)(h:Sl K F Γ' σ'):Sat K B Γ' Ω F σ' H:=⟨S.f0,S.fh,S.fr,S.kp,S.nd,S.od,S.own,h⟩
theorem Sl.set(h:?Ha)(hi:i<σ.length)(hv:?GA):Sl K F ?Fl ?Gw:=fun j e q=>by
 by_cases hj:i=j
 .subst hj;rw[qQ] at q;split at q
  .split at q
   .cases q;exact⟨v,by rw[qQ];simp[hi],hv⟩
   .cases q
  .contradiction
 .rw[qA hj] at q;obtain⟨u,h1,h2⟩:=h j e q;exact⟨u,by rw[qA hj];exact h1,h2⟩
theorem Sl.nil:Sl K F [] σ:=fun j e q=>by simp at q
theorem Sat.toPur (S:?BJ)(hM:B.M=[]):Pur B.F B.H F H:=⟨S.f0,S.fh,fun b o e=>S.kp b o (by rw[hM];simp) e,fun b q=>(?GM).elim .inl fun z=>z.elim .inr fun w=>by rw[hM] at w;cases w⟩
end
structure E3 where
 nx:Ga->Om->Prop
 rt:D->Om->Prop
 bk:Ga->Om->Prop:=fun _ _=>False
 ct:Ga->Om->Prop:=fun _ _=>False
inductive nX (K:?A0)(B:Bs)(F0:Hp)(N:Ga->Om->Prop)(σ:?An)(H:Hp):Prop
 |mk (Γ:Ga) (Ω:Om) (F:Hp) (S:?BJ) (f:Yc F0 F) (n:N Γ Ω)
inductive rX (K:?A0)(B:Bs)(F0:Hp)(R:?yK)(v:V)(H:Hp):Prop
 |mk (d:D) (Ω:Om) (F:Hp) (S:∃ σ,Sat K B [] Ω F σ H) (f:Yc F0 F) (i:?GA) (r:R d Ω)
def E3.to (K:?A0)(B:Bs)(F0:Hp)(E:E3):Ends:=⟨nX K B F0 E.nx,rX K B F0 E.rt,nX K B F0 E.bk,nX K B F0 E.ct⟩
theorem nX.mono {K:?A0}{B:Bs}{F0 F1:Hp}{N:Ga->Om->Prop}{σ:?An}{H:Hp}(e:Yc F0 F1)(h:nX K B F1 N σ H):nX K B F0 N σ H:=by
 obtain⟨Γ,Ω,F,S,f,n⟩:=h;exact⟨Γ,Ω,F,S,e.trans f,n⟩
def WS (X:Cx)(sts:?BM):TS:=fun D σ H=>∀ (pins:List (Addr×Obj)) (s:Shared),Inv X pins σ H s->wpAny ?AF X.A (execs sts X.env) (SP X pins D) X.xe s
def WE (X:Cx)(e:Expr):TE:=fun σ H Q=>∀ (pins:List (Addr×Obj)) (s:Shared),Inv X pins σ H s->wpAny ?AF X.A ?C6 ?Bj X.xe s
def WT (X:Cx)(e:Expr):TT:=fun σ H Q=>∀ (pins:List (Addr×Obj)) (s:Shared),Inv X pins σ H s->wpAny ?AF X.A (isTrue e X.env ?C6) ?Fn X.xe s
theorem Qb:PSs X sts (WS X sts):=fun pins s σ H D I h=>h pins s I
theorem j6:PE X e (WE X e):=fun pins s σ H Q I h=>h pins s I
theorem FK:PT X e (WT X e):=fun pins s σ H Q I h=>h pins s I
theorem PT3.wt(h:?HW)(q:tPT X.K Γ k σ H Q):WT X e σ H Q:=fun pins s I=>h pins s σ H Q I q
theorem P3.we(h:?Cw)(q:tP X.K Γ d σ H Q):WE X e σ H Q:=fun pins s I=>h pins s σ H Q I q
def W3 (X:Cx)(B:Bs)(sts:?BM)(Γ:Ga)(Ω:Om)(E:E3):Prop:=∀ F σ H,Sat X.K B Γ Ω F σ H->WS X sts ?Ct σ H
section
variable {X:Cx}{B:Bs}{Γ:Ga}{Ω:Om}{E:E3}{rest body:?BM}{e c:Expr}{d:D}{pos pos':Pos}{k:Bool}
theorem Qa {D D':Ends}(hn:∀ σ H,D.nx σ H->D'.nx σ H)(hr:∀ v H,D.rt v H->D'.rt v H)(hb:∀ σ H,D.bk σ H->D'.bk σ H)(hc:∀ σ H,D.ct σ H->D'.ct σ H)(h:WS X body D σ H):WS X body D' σ H:=fun pins s I=>
 thn ?Hp fun f s' q=>by
  cases f with
  |next=>obtain⟨σ',H',I',q⟩:=q;exact⟨σ',H',I',hn _ _ q⟩
  |brk=>obtain⟨σ',H',I',q⟩:=q;exact⟨σ',H',I',hb _ _ q⟩
  |cont=>obtain⟨σ',H',I',q⟩:=q;exact⟨σ',H',I',hc _ _ q⟩
  |ret u=>obtain⟨v,σ',H',I',r,q⟩:=q;exact⟨v,σ',H',I',r,hr _ _ q⟩
theorem qp(e:Yc F0 F1)(h:WS X body (E.to X.K B F1) σ H):WS X body (E.to X.K B F0) σ H:=
 Qa (D:=E.to X.K B F1) (D':=E.to X.K B F0) (fun _ _ q=>q.mono e) (fun v H ⟨d,Ω,F,S,f,i,r⟩=>⟨d,Ω,F,S,e.trans f,i,r⟩) (fun _ _ q=>q.mono e) (fun _ _ q=>q.mono e) h
theorem y8 (h:E.nx Γ Ω):W3 X B [] Γ Ω E:=fun F σ H S pins s I=>Et pins s σ H _ I ⟨Γ,Ω,F,S,?AH,h⟩
theorem YM(hN:?CC)(hi:?zN)(hx:?DI)(he:?Cw)(h:W3 X B rest ?Fl Ω E)(hs:?kB:=by rfl)
  (hf:?yX:=by first|exact .inl rfl|exact .inr rfl|assumption):?xW:=fun F σ H S pins s I=>
 qm (lg hN hi hx he hs hf) Qb pins s σ H _ I ⟨F,S.fh,S.sl,fun v H' F' p i'=>qp p.ff (h F' _ H' ((?Bo).slots (Sl.set (S.sl.mono p.ff) (by rw[I.len];exact(?GN).1) i')))⟩
theorem YK (he:?Cw)(h:E.rt d Ω):W3 X B (.Return ?D8 pos::rest) Γ Ω E:=fun F σ H S pins s I=>
 qm (cH he) KL pins s σ H _ I ⟨F,S.fh,S.sl,fun v H' F' p i'=>⟨d,Ω,F',⟨σ,(?Bo).slots Sl.nil⟩,p.ff,i',h⟩⟩
theorem cX (he:?Cw)(h:W3 X B rest Γ Ω E)(hs:?uF:=by rfl):W3 X B (.Expr e pos::rest) Γ Ω E:=fun F σ H S pins s I=>
 qm (uJ he hs) Qb pins s σ H _ I ⟨F,S.fh,S.sl,fun v H' F' p i'=>qp p.ff (h F' _ H' ?Bo)⟩
abbrev E3.then (E:E3)(X:Cx)(B:Bs)(rest:?BM):E3:={E with nx:=fun Γ' Ω'=>?CP}
theorem uL(h:nX X.K B F (fun Γ' Ω'=>?CP) σ H):WS X rest ?Ct σ H:=by
 obtain⟨Γ',Ω',F',S,f,w⟩:=h;exact qp f (w F' σ H S)
theorem uN(h:WS X body ((?Eg).to X.K B F) σ H):WS X body {?Ct with nx:=?DK} σ H:=
 Qa (D:=(?Eg).to X.K B F) (D':={?Ct with nx:=?DK}) (fun _ _ q=>uL q) ?zT ?zT ?zT h
theorem QT(hc:?Fw)(ht:k=true->W3 X B a Γ Ω ?Eg)(hf:k=false->W3 X B b Γ Ω ?Eg):W3 X B (.If c a b pos::rest) Γ Ω E:=fun F σ H S pins s I=>by
 cases k with
 |true=>exact qm (sP hc Qb KL) Qb pins s σ H _ I ⟨F,S.fh,S.sl,fun H' F' p=>rN (uN (qp p.ff (ht rfl F' σ H' ?Bo)))⟩
 |false=>exact qm (sP hc KL Qb) Qb pins s σ H _ I ⟨F,S.fh,S.sl,fun H' F' p=>Cb (uN (qp p.ff (hf rfl F' σ H' ?Bo)))⟩
theorem cf (hp:?ET)(J:Ga->Om->Prop)(μ:Ga->Om->Nat)(h0:J Γ Ω)
  (step:∀ Γ Ω,J Γ Ω->∃ k,PT3 X Γ c k/\(k=true->W3 X B body Γ Ω {E with nx:=fun Γ' Ω'=>?qV,ct:=fun Γ' Ω'=>?qV,bk:=fun Γ' Ω'=>?CP})/\(k=false->W3 X B rest Γ Ω E)) :
  W3 X B (.While c body [] pos::rest) Γ Ω E:=fun F σ H S pins s I=>by
 refine qm (fF hp FK Qb) Qb pins s σ H _ I ⟨fun m σ H=>∃ Γ Ω F1,Sat X.K B Γ Ω F1 σ H/\Yc F F1/\J Γ Ω/\μ Γ Ω=m,⟨_,Γ,Ω,F,S,Yc.refl _,h0,rfl⟩,?_⟩;rintro m σ H ⟨Γ,Ω,F1,S,f1,j,rfl⟩;obtain⟨k,hc,ht,hf⟩:=step Γ Ω j;refine hc.wt ⟨F1,S.fh,S.sl,fun H' F' p=>?_⟩;cases k with
 |true=>
  refine rN ⟨nX X.K B F fun Γ' Ω'=>?qV,?_,Qa (D:=E3.to X.K B F {E with nx:=fun Γ' Ω'=>?qV,ct:=fun Γ' Ω'=>?qV,bk:=fun Γ' Ω'=>?CP})
   (D':={nx:=nX X.K B F fun Γ' Ω'=>?qV,rt:=(?Ct).rt,bk:=?DK,ct:=nX X.K B F fun Γ' Ω'=>?qV}) ?zT ?zT (fun _ _ q=>uL q) ?zT (qp (f1.trans p.ff) (ht rfl F' σ H' ?Bo))⟩
  rintro σ' H' ⟨Γ',Ω',F',S',f',j',l⟩;exact⟨_,l,Γ',Ω',F',S',f',j',rfl⟩
 |false=>exact Cb (qp (f1.trans p.ff) (hf rfl F' σ H' ?Bo))
end
def G3 (X:Cx)(tg:Expr)(Γ:Ga)(d:D)(Γ':Ga):Prop:=∃ g,PG X tg g/\∀ (F:Hp) (σ:L2.St) (H:Hp) (v:V) (Q:L2.St->Hp->Prop),Yc F H->Is X.K F d v->Sl X.K F Γ σ->σ.length=X.N.length->(∀ σ',Sl X.K F Γ' σ'->σ'.length=X.N.length->Q σ' H)->g v σ H Q
def GL3 (X:Cx)(tg:?Ai)(Γ:Ga)(ds:?AD)(Γ':Ga):Prop:=∃ g,PGs X tg g/\∀ (F:Hp) (σ:L2.St) (H:Hp) (vs:List V) (Q:L2.St->Hp->Prop),Yc F H->IsL X.K F ds vs->Sl X.K F Γ σ->σ.length=X.N.length->(∀ σ',Sl X.K F Γ' σ'->σ'.length=X.N.length->Q σ' H)->g vs σ H Q
section
theorem Yn(hN:?CC)(hi:?zN)(hx:?DI)(hf:?yX:=by first|exact .inl rfl|exact .inr rfl|assumption):G3 X ?Co Γ d ?Fl:=
 ⟨_,C1 hN hi hx hf,fun F σ H v Q fh iv sl hl q=>q _ (sl.set (by rw[hl];exact(?GN).1) iv) (by rw[List.length_set];exact hl)⟩
theorem vb:GL3 X [] Γ [] Γ:=⟨_,D2,fun F σ H vs Q fh iv sl hl q=>by
 simp only[IsL] at iv;exact⟨iv,q σ sl hl⟩⟩
theorem qR (h1:G3 X tg Γ d Γ1)(h2:GL3 X tgs Γ1 ds Γ2)(hs:∀ {g:TG} {u:TGs},PG X tg g->PGs X tgs u->PGs X (tg::tgs) (EV g u):=by exact fun a b=>tT a b):GL3 X (tg::tgs) Γ (d::ds) Γ2:=by
 obtain⟨g,p1,q1⟩:=h1;obtain⟨u,p2,q2⟩:=h2;refine⟨_,hs p1 p2,fun F σ H vs Q fh iv sl hl q=>?_⟩;simp only[IsL] at iv;obtain⟨x,r,rfl,i1,i2⟩:=iv;exact⟨x,r,rfl,q1 F σ H x _ fh i1 sl hl fun σ' sl' hl'=>q2 F σ' H r _ fh i2 sl' hl' q⟩
theorem kL {k:Nat}(hc:?zB)(h:GL3 X tgs Γ ds Γ1)(hn:(assignEach tgs X.env).length=ds.length:=by rfl)(hst:(assignEach tgs X.env).findIdx? ?C=none:=by rfl):G3 X (.Tuple tgs k pos) Γ ?CF Γ1:=by
 obtain⟨g,p,q⟩:=h;refine⟨_,G5 hc p hn hst,fun F σ H v Q fh iv sl hl k=>?_⟩;obtain⟨a,xs,rfl,h1,h2⟩:=isT iv;exact⟨a,xs,rfl,qD fh h1,h2.len,q F σ H xs Q fh h2 sl hl k⟩
end
def ny (K:?A0)(F0:Hp)(J:It)(ds:?AD):Prop:=∀ (i:Nat) (F H:Hp),Yc F0 F->Yc F H->
 (∀ d,ds[i]?=some d->J.go i H/\∀ x H',J.yld i H x H'->∃ F',Pur F H F' H'/\Is K F' d x)/\(ds.length<=i->J.stop i H)
def I3 (X:Cx)(Γ:Ga)(tg iter:Expr)(ds:?AD):Prop:=PI X tg iter fun σ H R=>∃ F,Yc F H/\Sl X.K F Γ σ/\∀ J H' F',Pur F H F' H'->ny X.K F' J ds->R J H'
theorem PI.of(h:PI X tg e t)(i:∀ σ H R,u σ H R->t σ H R):PI X tg e u:=fun pins s σ H Q I hq=>h pins s σ H Q I ?Ew
section
theorem Qy (hl:?CO):I3 X Γ tg a ds:=PI.of (l7 hl) fun σ H R ⟨F,fh,sl,q⟩=>⟨F,fh,sl,fun v H' F' p i=>by
 obtain⟨l,xs,rfl,s1,j1⟩:=zy i;refine⟨l,rfl,⟨xs,p.fh.seq s1⟩,q _ H' F' p fun n F2 H2 e1 e2=>⟨fun d w=>?_,fun w=>⟨xs,?jL,by rw[j1.len];exact w⟩⟩⟩;obtain⟨x,hx,ix⟩:=j1.get w;refine⟨⟨xs,x,?jL,hx⟩,fun y H3 ⟨z,w'⟩=>?_⟩;subst z;have:=w' xs ?jL;rw[hx] at this;cases this;exact ?I6⟩
theorem oP (hl:?Do):I3 X Γ tg a ds:=PI.of (G4 hl) fun σ H R ⟨F,fh,sl,q⟩=>⟨F,fh,sl,fun v H' F' p i=>by
 obtain⟨l,xs,rfl,s1,j1⟩:=isT i;refine⟨l,rfl,⟨xs,qD p.fh s1⟩,q _ H' F' p fun n F2 H2 e1 e2=>⟨fun d w=>?_,fun w=>⟨xs,qD ?BS s1,by rw[j1.len];exact w⟩⟩⟩;obtain⟨x,hx,ix⟩:=j1.get w;refine⟨⟨xs,x,qD ?BS s1,hx⟩,fun y H3 ⟨z,w'⟩=>?_⟩;subst z;have:=w' xs (qD ?BS s1);rw[hx] at this;cases this;exact ?I6⟩
def wW (lo:Int)(n:Nat):?AD:=(?BU).map fun (j:Nat)=>.int (lo+(j:Int))
theorem WK {K:?A0}{F0:Hp}{lo:Int}{n:Nat}:ny K F0 (Itr lo n) (wW lo n):=fun i F H e1 e2=>
 ⟨fun d q=>by
  unfold wW at q;rw[yC] at q;have hi:i<n:=by
   by_cases h:i<n
   .exact h
   .rw[yG.mpr (by simpa using h)] at q;cases q
  rw[jk hi] at q;cases q;refine⟨hi,fun x H' ⟨z,w⟩=>?_⟩;subst z w;exact⟨F,?G4,Jm F⟩,fun q=>by
  unfold wW at q;have q':n<=i:=by simpa using q
  exact q'⟩
theorem BI {j:Int}(hm:?qY)(hg:?jI)(ha:P3 X Γ a (.int j))(h1:-(2 ^ 62)<=j)(h2:j<2 ^ 62)(hs:?jV:=by rfl):I3 X Γ tg ?kN (wW 0 j.toNat):=
 PI.of (aS hg hm (yb ha yq hs) hs) fun σ H R ⟨F,fh,sl,q⟩=>⟨F,fh,sl,fun vs H' F' pu i=>by
  obtain⟨x,rfl,j0⟩:=wn i;exact⟨j,by rw[isI j0],h1,h2,q _ H' F' pu WK⟩⟩
theorem B7 {i j:Int}(hm:?qY)(hg:?jI)(ha:?B2)(hb:?B0)(h1:-(2 ^ 62)<=i/\i<2 ^ 62/\-(2 ^ 62)<=j/\j<2 ^ 62)(hs:?yY:=by rfl)(hs2:?qA:=by rfl) :
  I3 X Γ tg (.Call (.Name "range" p) [a,b] [] pos) (wW i (?I).toNat):=
 PI.of (rB hg hm (yb ha ?HZ (hs.trans (by rw[hs2]))) hs hs2) fun σ H R ⟨F,fh,sl,q⟩=>⟨F,fh,sl,fun vs H' F' pu iv=>by
  obtain⟨x,y,rfl,j0,j1⟩:=oU iv;exact⟨i,j,by rw[isI j0,isI j1],h1,q _ H' F' pu WK⟩⟩
def aD (ds:?AD):?AD:=ds.mapIdx fun i d=>.tup [.int (i:Int),d]
theorem FM(hm:X.mg "enumerate" = none)(hg:Gl X "enumerate")(ha:?CO)(hs:?jV:=by rfl) :
  I3 X Γ ?J5 (.Call (.Name "enumerate" p) [a] [] pos) (aD ds):=
 PI.of (Dg hg hm (yb ha yq hs) hs) fun σ H R ⟨F,fh,sl,q⟩=>⟨F,fh,sl,fun vs H' F' pu iv=>by
  obtain⟨x,rfl,j0⟩:=wn iv;obtain⟨l,xs,rfl,s1,j1⟩:=ig j0;refine⟨l,xs,rfl,zC pu.fh s1,fun K=>q _ H' F' pu fun n F2 H2 e1 e2=>?kX⟩
  .unfold aD at w;rw[List.getElem?_mapIdx] at w;cases z:ds[n]? with
   |none=>rw[z] at w;cases w
   |some d0=>
    rw[z] at w;cases w;obtain⟨y,hy,iy⟩:=j1.get z;have hl:SqL K H2 l xs:=.inl (zC ?BS s1);refine⟨⟨xs,y,hl,hy⟩,fun v H3 ⟨T,y',hT,hv,hy',e3⟩=>?_⟩;subst hv e3;have:=hy' xs hl;rw[hy] at this;cases this;refine⟨_,?EZ,Is.tupI ?Cr (IsL.cons (Jm _) ?uD)⟩
  .unfold aD at w;rw[List.length_mapIdx] at w;exact⟨xs,.inl (zC ?BS s1),by rw[j1.len];exact w⟩⟩
def V6 (ds es:?AD):?AD:=(ds.zip es).map fun p=>.tup [p.1,p.2]
theorem tY(hm:?vO)(hg:Gl X "zip")(ha:?CO)(hb:?Ik)(hs:?yY:=by rfl)(hs2:?qA:=by rfl) :
  I3 X Γ ?J5 ?kL (V6 ds es):=
 PI.of (GF hg hm (yb ha ?HZ (hs.trans (by rw[hs2]))) hs hs2) fun σ H R ⟨F,fh,sl,q⟩=>⟨F,fh,sl,fun vs H' F' pu iv=>by
  obtain⟨x,y,rfl,j0,j00⟩:=oU iv;obtain⟨l,xs,rfl,s1,j1⟩:=zy j0;obtain⟨l2,ys,rfl,s2,j2⟩:=zy j00;refine⟨l,l2,xs,ys,rfl,pu.fh.seq s1,pu.fh.seq s2,q _ H' F' pu fun n F2 H2 e1 e2=>?kX⟩
  .unfold V6 at w;rw[yC] at w;cases z:(ds.zip es)[n]? with
   |none=>rw[z] at w;cases w
   |some d0=>
    rw[z] at w;cases w;obtain⟨z1,z2⟩:=qw.mp z;obtain⟨x,hx,ix⟩:=j1.get z1;obtain⟨y,hy,iy⟩:=j2.get z2;have h1:=(?BS).seq s1;have h2:=(?BS).seq s2;refine⟨?Lg,fun v H3 ⟨T,x',y',hT,hv,hx',hy',e3⟩=>?_⟩;subst hv e3;have t1:=hx' xs h1;have t2:=hy' ys h2;rw[hx] at t1;rw[hy] at t2;cases t1;cases t2;refine⟨_,?EZ,Is.tupI ?Cr (IsL.cons (ix.mono (e1.trans (?EZ).ff)) ?uD)⟩
  .unfold V6 at w;rw[yf,YZ] at w;refine⟨xs,ys,?jL,(?BS).seq s2,?_⟩;rw[j1.len,j2.len];lia⟩
theorem jo(hp:?ET)(hc:?zB)(hi:?Gq)(J:Nat->Ga->Om->Prop)(h0:J 0 Γ Ω)
  (step:∀ i d Γ Ω,ds[i]?=some d->J i Γ Ω->∃ Γ1,G3 X tg Γ d Γ1/\W3 X B body Γ1 Ω {E with nx:=J (i+1),ct:=J (i+1),bk:=fun Γ' Ω'=>?CP})
  (hd:∀ Γ Ω,J ds.length Γ Ω->W3 X B rest Γ Ω E) (hs:∀ x,foldedSetIterable iter X.env x=pure x:=by intro _;rfl):W3 X B (.For tg iter body [] pos::rest) Γ Ω E:=fun F σ H S pins s I=>by
 have hgw:PG X tg (fun v σ H Q=>∀ (pins:List (Addr×Obj)) (s:Shared) (u:Value),Inv X pins σ H s->YX v u->wpAny ?AF X.A (assign tg X.env u) ?kC X.xe s):=fun pins s σ H v u Q I r h=>h pins s u I r;refine qm (Cn hp hc hi hgw Qb hs) Qb pins s σ H _ I ⟨F,S.fh,S.sl,fun Jt H1 F1 p w=>⟨fun i m σ H=>i+m=ds.length/\nX X.K B F1 (J i) σ H,⟨?GH,?A,Γ,Ω,F1,?Bo,?AH,h0⟩,?_⟩⟩;rintro i m σ H ⟨hm,Γ,Ω,F2,S,f1,j⟩;obtain⟨w1,w2⟩:=w i F2 H f1 S.fh;cases z:ds[i]? with
 |none=>
  have hl:ds.length<=i:=yG.mp z;have e:i=ds.length:=by lia
  subst e;exact .inl ⟨w2 hl,qp (p.ff.trans f1) (hd Γ Ω j F2 σ H S)⟩
 |some d=>
  have hl:i<ds.length:=(yk.mp z).1;obtain⟨go,y⟩:=w1 d z;obtain⟨Γ1,⟨g,pg,gq⟩,wb⟩:=step i d Γ Ω z j;refine .inr ⟨go,?wG,?_,fun x H' hy pins s u I2 r=>?_⟩
  .rintro σ' H' n;exact⟨m - 1,?A,?A,n⟩
  .obtain⟨F3,p2,ix⟩:=y x H' hy;refine pg pins s σ H' x u _ I2 r (gq F3 σ H' x _ p2.fh ix (S.sl.mono p2.ff) I2.len fun σ' sl' _=>?_);have f3:Yc F1 F3:=f1.trans p2.ff;exact Qa (D:=E3.to X.K B F3 {E with nx:=J (i+1),ct:=J (i+1),bk:=fun Γ' Ω'=>?CP}) (D':={nx:=?wG,rt:=(?Ct).rt,bk:=?DK,ct:=?wG})
    (fun _ _ q=>q.mono f3) (fun v H ⟨d,Ω,F,S,f,i,r⟩=>⟨d,Ω,F,S,(p.ff.trans f3).trans f,i,r⟩) (fun _ _ q=>uL (q.mono (p.ff.trans f3))) (fun _ _ q=>q.mono f3) (wb F3 σ' H' ((S.pur p2).slots sl'))
end
def uV (nt:Nat)(caps:?DY)(Γ:Ga):Ga:=List.replicate nt none++caps.map fun i=>Γ.getD i none
def Sub (Γ Γ1:Ga):Prop:=∀ (i:Nat) (e:D),Γ[i]?=some ?D8->Γ1[i]?=some ?D8
theorem Sub.set(h:Γ[i]?=some none):Sub Γ (Γ.set i d):=fun j e q=>by
 have:i≠j:=fun z=>by subst z;rw[h] at q;cases q
 rw[qA this];exact q
theorem Sub.trans(a:Sub Γ Γ1)(b:Sub Γ1 Γ2):Sub Γ Γ2:=fun i e q=>b i e (a i e q)
theorem Sl.sub {K:?A0}{F:Hp}{Γ Γ1:Ga}{σ:?An}(h:Sl K F Γ1 σ)(s:Sub Γ Γ1):?Ha:=fun i d q=>h i d (s i d q)
theorem Sl.cap {K:?A0}{F:Hp}{Γ:Ga}{σ:?An}{nt:Nat}{caps:?DY}(h:?Ha):Sl K F ?DN ?HP:=fun j d q=>by
 unfold uV at q;unfold xF;by_cases hj:j<nt
 .rw[qZ (by simpa using hj),ja] at q;split at q <;> cases q
 .rw[qO (by simpa using hj),QS,yC] at q;rw[qO (by simpa using hj),QS,yC];cases ec:caps[j - nt]? with
  |none=>rw[ec] at q;cases q
  |some ci=>
   rw[ec] at q;have q':Γ.getD ci none=some d:=by simpa using q
   rw[yv] at q';have e:Γ[ci]?=some (some d):=by
    cases z:Γ[ci]? with
    |none=>rw[z] at q';cases q'
    |some w=>rw[z] at q';exact congrArg some q'
   obtain⟨v,h1,h2⟩:=h ci d e;refine⟨v,?_,h2⟩;simp[yv,h1]
def Ay (X:Cx)(Γ:Ga)(ifs:?Ai)(k:Bool):Prop:=PTs X ifs (tPT X.K Γ k)
theorem zB:Ay X Γ [] true:=fun pins s σ H Q I ⟨F,fh,sl,q⟩=>aY (c:=⟨0,s,H,[]⟩) pins s σ H Q I (q H F ?AU)
theorem ud(h:?Fw):Ay X Γ [c] k:=DY h
def gW (X:Cx)(tg:Expr):TG:=fun v σ H Q=>∀ (pins:List (Addr×Obj)) (s:Shared) (u:Value),Inv X pins σ H s->YX v u->wpAny ?AF X.A (assign tg X.env u) ?kC X.xe s
def WTs (X:Cx)(ifs:?Ai):TT:=fun σ H Q=>∀ (pins:List (Addr×Obj)) (s:Shared),Inv X pins σ H s->
 wpAny ?AF X.A (forIn ifs true fun c r=>if r=true then do let ok ←isTrue c X.env (eval c X.env);pure ?J2 else pure ?Gz) ?Fn X.xe s
theorem rg:PG X tg (gW X tg):=fun pins s σ H v u Q I r h=>h pins s u I r
theorem Fh:PTs X ifs (WTs X ifs):=fun pins s σ H Q I h=>h pins s I
def Bd (X:Cx)(sc:?BH)(N:?A1)(tg elt:Expr)(ifs:?Ai)(G:Ga)(ds:?AD)(pre:Nat->List D):Prop:=∀ (c:CArg) (i:Nat) (d:D),ds[i]?=some d->∃ Γ1,G3 ?Au tg G d Γ1/\Sub G Γ1/\
 ((∃ e,Ay ?Au Γ1 ifs true/\P3 ?Au Γ1 elt e/\pre (i+1)=pre i++[e])∨(Ay ?Au Γ1 ifs false/\pre (i+1)=pre i))
section
theorem X9 (hz:∀ i,i<=ds.length->(pre i).length<sizeLine)(h0:pre 0=[])(step:Bd X sc N tg elt ifs (uV nt caps Γ) ds pre)
  (h:∃ F,Yc F H/\Sl X.K F Γ σ/\∀ p xs H' F',Pur F H F' H'->H p=none->F' p=none->H' p=some (.lst xs)->IsL X.K F' (pre ds.length) xs->Q (.ref p) H') :
  nv nt caps (fun σ H R=>∃ F,Yc F H/\Sl X.K F Γ σ/\∀ J H' F',Pur F H F' H'->ny X.K F' J ds->R J H') (fun c=>gW (X.comp sc N c) tg) (fun c=>WTs (X.comp sc N c) ifs) (fun c=>WE (X.comp sc N c) elt) σ H Q:=by
 obtain⟨F,fh,sl,q⟩:=h;refine⟨F,fh,sl,fun J H1 F1 p1 wk D hD c=>⟨fun i m σ' ys H'=>i+m=ds.length/\∃ F',Pur F1 H1 F' H'/\F' D=none/\H' D=some (.lst ys)/\IsL X.K F' (pre i) ys/\Sl X.K F' (uV nt caps Γ) σ',?_,?_⟩⟩
 .exact⟨ds.length,by lia,F1,Pur.layOwn p1.fh hD,p1.fh.free hD,yT,by rw[h0];exact IsL.nil,Sl.cap (sl.mono p1.ff)⟩
 .rintro i m σ' ys H' ⟨hm,F',pu,fD,hH,il,sl'⟩;refine⟨hH,by rw[il.len];exact hz i (by lia),?_⟩;obtain⟨w1,w2⟩:=wk i F' H' pu.ff pu.fh;cases z:ds[i]? with
  |none=>
   have hl:ds.length<=i:=yG.mp z;have e:i=ds.length:=by lia
   subst e;exact .inl ⟨w2 hl,q D ys H' F' (p1.trans pu) (p1.hh.free hD) fD hH il⟩
  |some d=>
   have hl:i<ds.length:=(yk.mp z).1;obtain⟨go,y⟩:=w1 d z;obtain⟨Γ1,⟨g,pg,gq⟩,sub,alt⟩:=step c i d z;refine .inr ⟨go,fun x H2 hy pins s u I2 r=>?_⟩;obtain⟨F2,p2,ix⟩:=y x H2 hy;have keepD:∀ {F3 H3 F4 H4:Hp},Pur F3 H3 F4 H4->F3 D=none->(∃ o,H3 D=some o)->F4 D=none:=fun {F3 H3 F4 H4} pp f3 h3=>by
    cases zz:F4 D with
    |none=>rfl
    |some o=>
     rcases pp.new D (by rw[zz];simp) with w|w
     .exact absurd f3 w
     .obtain⟨o',h3⟩:=h3;rw[h3] at w;cases w
   have fD2:=keepD p2 fD ⟨_,hH⟩;have hH2:=p2.hh _ _ hH;refine pg pins s σ' H2 x u _ I2 r (gq F2 σ' H2 x _ p2.fh ix (sl'.mono p2.ff) I2.len fun σ3 sl3 _=>?_);rcases alt with ⟨e,ht,he,hpre⟩|⟨ht,hpre⟩
   .refine fun pins s I3=>ht pins s σ3 H2 _ I3 ⟨F2,p2.fh,sl3,fun H4 F4 p4=>rN ?_⟩;refine fun pins s I4=>he pins s σ3 H4 _ I4 ⟨F4,p4.fh,sl3.mono p4.ff,fun v H5 F5 p5 iv=>?_⟩;have fD5:=keepD p5 (keepD p4 fD2 ⟨_,hH2⟩) ⟨_,p4.hh _ _ hH2⟩;have hH5:=p5.hh _ _ (p4.hh _ _ hH2);have P5:=((pu.trans p2).trans p4).trans p5;refine⟨ys,hH5,by rw[il.len];exact hz i (by lia),m - 1,by lia,by lia,F5,⟨P5.ff,fun b o w=>?_,fun b o w=>?_,P5.new⟩,fD5,yT,?_,(sl3.mono (p4.ff.trans p5.ff)).sub sub⟩
    .rw[yX (Ys w fD5)];exact P5.fh _ _ w
    .rw[yX (Ys w hD)];exact P5.hh _ _ w
    .rw[hpre];exact(il.mono ((p2.ff.trans p4.ff).trans p5.ff)).append (IsL.cons iv IsL.nil)
   .refine fun pins s I3=>ht pins s σ3 H2 _ I3 ⟨F2,p2.fh,sl3,fun H4 F4 p4=>Cb ?_⟩;have P4:=(pu.trans p2).trans p4;refine⟨ys,m - 1,by lia,by lia,F4,P4,keepD p4 fD2 ⟨_,hH2⟩,p4.hh _ _ hH2,?_,(sl3.mono p4.ff).sub sub⟩;rw[hpre];exact il.mono (p2.ff.trans p4.ff)
theorem jX (S:?Cq)(hi:?Gq)(hz:∀ i,i<=ds.length->(pre i).length<sizeLine)(h0:pre 0=[])(step:?I9)(hc:?zB:=by rfl)(hX:?yQ:=by rfl)(hN:X.N=XN:=by rfl)
  (hs:∀ x,foldedSetIterable iter X.env x=pure x:=by intro _;rfl):PF3 X Γ ?qU ?Js:=
 PE.of (ox S hi (fun c=>rg) (fun c=>Fh) (fun c=>j6) hc hX hN hs) fun σ H Q h=>X9 hz h0 step h
theorem gS(S:?Cq)(hnd:?CC)(hix:X.N[i]?=some y)(hy:?JF)(hi:?Gq)(hz:∀ i,i<=ds.length->(pre i).length<sizeLine)(h0:pre 0=[])
  (step:?I9) (h:W3 X B rest (Γ.set i (some (.lst ?Js))) Ω E)
  (hsw:swapsWith ?qU (some ?G1) spos.line X.env=pure true:=by rfl) (hc:?zB:=by rfl) (hX:?yQ:=by rfl) (hN:X.N=XN:=by rfl)
  (hs:∀ x,foldedSetIterable iter X.env x=pure x:=by intro _;rfl) (hf:?xU:=by first|exact .inl rfl|exact ?D7):W3 X B (.Assign [.Name y py] ?qU spos::rest) Γ Ω E:=fun F σ H S' pins s I=>by
 refine qm (ma S hnd hix hy hi (fun c=>rg) (fun c=>Fh) (fun c=>j6) hsw hc hX hN hs hf) Qb pins s σ H _ I (X9 (Q:=fun x H1=>X7 i x σ H1 ?DK) hz h0 step ⟨F,S'.fh,S'.sl,fun p xs H' F' pu hp fp e il=>?_⟩);have w:Yc F' (upd F' p (.lst xs)):=fun b u q=>by rw[yX (Ys q fp)];exact q
 have wf:Yc (upd F' p (.lst xs)) H':=fun b u q=>by
  by_cases hb:b=p
  .subst hb;rw[yT] at q;cases q;exact e
  .rw[yX hb] at q;exact pu.fh _ _ q
 have w2:Pur F H (upd F' p (.lst xs)) H':=by
  refine⟨?Jj,wf,pu.hh,fun b q=>?_⟩;by_cases hb:b=p
  .subst hb;exact .inr hp
  .rw[yX hb] at q;exact pu.new b q
 exact qp w2.ff (h _ _ H' ((S'.pur w2).slots (Sl.set (S'.sl.mono w2.ff) (by rw[I.len];exact(yk.mp hix).1) ?IS)))
end
def vt (ds:?AD)(lo hi:?B7):?AD:=(ds.drop (HT.sIx ds.length 0 lo)).take (HT.sIx ds.length ds.length hi - HT.sIx ds.length 0 lo)
theorem iz {K:?A0}{F:Hp}{ds:?AD}{xs:?AL}{lo hi:?B7}(h:?El):IsL K F (vt ds lo hi) ?Er:=by
 unfold vt gc;rw[h.len];exact(h.drop _).take _
def PO3 (X:Cx)(Γ:Ga)(e:?Cv)(i:?B7):Prop:=PO X e fun σ H Q=>∃ F,Yc F H/\Sl X.K F Γ σ/\∀ H' F',Pur F H F' H'->Q i H'
section
variable {X:Cx}{Γ:Ga}{a e:Expr}{lo hi:?Cv}{i j:?B7}{d:D}{ds:?AD}{pos p2:Pos}
theorem PO.of {e:?Cv}(h:PO X e t)(i:∀ σ H Q,?vI):PO X e u:=fun pins s σ H Q I hq=>h pins s σ H Q I ?Ew
theorem Kg:PO3 X Γ none none:=PO.of mD fun σ H Q ⟨F,fh,sl,q⟩=>q H F ?AU
theorem vH {n:Int}(h:P3 X Γ e (.int n)):PO3 X Γ ?D8 (some n):=PO.of (Wk h) fun σ H Q ⟨F,fh,sl,q⟩=>⟨F,fh,sl,fun v H' F' p i=>⟨n,isI i,q H' F' p⟩⟩
theorem FE {K:?A0}{σ:?An}{H:Hp}{R:?jS}{Q:VK}(h:∃ F,Yc F H/\Sl K F Γ σ/\∀ x H2 F2,Pur F H F2 H2->Is K F2 d x->R x i j H2 Q) :
  tSl R (tP K Γ d) (fun σ H Q=>∃ F,Yc F H/\Sl K F Γ σ/\∀ H' F',Pur F H F' H'->Q i H') (fun σ H Q=>∃ F,Yc F H/\Sl K F Γ σ/\∀ H' F',Pur F H F' H'->Q j H') σ H Q:=by
 obtain⟨F,fh,sl,q⟩:=h;exact⟨F,fh,sl,fun x H1 F1 p1 i1=>⟨F1,?BF,?C3,fun H2 F2 p2=>⟨F2,p2.fh,?GT,fun H3 F3 p3=>q x H3 F3 ((?Bl).trans p3) (i1.mono ?JD)⟩⟩⟩
theorem Kc (ha:?CO)(hl:?Jl)(hh:?Jv):PF3 X Γ ?KK (vt ds i j):=
 PE.of (kQ bV ha hl hh) fun σ H Q ⟨F,fh,sl,q⟩=>FE ⟨F,fh,sl,fun x H2 F2 p i1=>by
  obtain⟨l,xs,rfl,s1,j1⟩:=zy i1;exact⟨l,xs,rfl,p.fh.seq s1,fun b hb=>q b _ _ F2 (p.trans (Pur.layOwn p.fh hb)) (p.hh.free hb) (p.fh.free hb) yT (iz j1)⟩⟩
theorem uT (ha:?Do)(hl:?Jl)(hh:?Jv)(hw:¬ (HT.sIx ds.length 0 i=0/\HT.sIx ds.length ds.length j=ds.length)):?LH:=
 PE.of (kQ G2 ha hl hh) fun σ H Q ⟨F,fh,sl,q⟩=>FE ⟨F,fh,sl,fun x H2 F2 p i1=>by
  obtain⟨l,xs,rfl,s1,j1⟩:=isT i1;exact⟨l,xs,rfl,qD p.fh s1,by rw[j1.len];exact hw,fun b hb=>q _ _ _ (p.trans (Pur.lay p.fh hb)) (Is.tupI ?Cr ((iz j1).mono (Pur.lay p.fh hb).ff))⟩⟩
end
def jD (N:?A1)(ds:?AD):Ga:=ds.map some++List.replicate (N.length - ds.length) none
theorem Sl.start {K:?A0}{F:Hp}{N:?A1}{ds:?AD}{vs:?AL}(h:IsL K F ds vs):Sl K F ?D6 ?DO:=fun i d q=>by
 unfold jD at q;unfold L2.start;have hl:=h.len;by_cases hi:i<ds.length
 .rw[qZ (by simpa using hi),yC] at q;rw[qZ (by rw[yf,hl];exact hi),yC];cases e:ds[i]? with
  |none=>rw[e] at q;cases q
  |some d'=>
   rw[e] at q;cases q;obtain⟨v,h1,h2⟩:=h.get e;exact⟨v,by rw[h1];rfl,h2⟩
 .rw[qO (by simpa using hi),ja] at q;split at q <;> cases q
theorem Sat.entry {K:?A0}{F H:Hp}{N:?A1}{ds:?AD}{vs:?AL}(fh:Yc F H)(h:IsL K F ds vs):Sat K ?yA ?D6 [] F ?DO H:=
 ⟨?AH,fh,fun _ q=>?Ck,fun _ _ _ e=>e,Qw,(fun _ q=>absurd q (by simp)),(fun _ q=>absurd q (by simp)),Sl.start h⟩
abbrev cx0 (P:?AA)(w:?A9)(K:?A0)(mg:?J)(base:Heap)(N:?A1)(x:Str)(st:Stmt)(f:Addr)(cdv:?AJ)(A:?BD)(outer:?D5)(s:?AN)(H:Hp)(E:XK):Cx:=(?KZ).nox
section
variable {P:?AA}{w:?A9}{K:?A0}{mg:?J}{base:Heap}{x:Str}{st:Stmt}{N ps:?A1}{k n:Nat}
theorem YJ(d:?F2)(S:?BW)(hn:?qQ)
  (body:∀ (f:Addr) (cdv:Value) (A:Around) (outer:List Env) (s:Shared) (H:Hp) (E:XK),Room k ?FV->∀ (ds:List D) (r:D),C ds r->∀ B:Bs,B.M=[]->
   W3 ?GW B ?Ar ?D6 [] ?wU):OkF P w K mg base CX0 (k+1) x ps (spP K n C):=by
 refine d.ok S (fun vs H Q E h=>h.len.trans hn.symm) fun f cdv A outer s H vs Q E hr h=>?DS
 obtain⟨ds,r,F,hC,hl,fh,il,q⟩:=h;refine Qa (D:=E3.to K ?yA F ?wU) (D':={nx:=fun _ H'=>?Ay,rt:=Q}) ?_ ?_ ?_ ?_ (body f cdv A outer s H E hr ds r hC ?yA rfl F ?DO H ?G3)
 .rintro σ' H' ⟨Γ',Ω',F',S',f',e⟩;subst e;exact q _ _ _ ?E6 (BJ F')
 .rintro v H' ⟨d',Ω',F',⟨σ',S'⟩,f',i',e⟩;subst e;exact q _ _ _ ?E6 i'
 .rintro σ' H' ⟨_,_,_,_,_,z⟩;exact ?AQ
 .rintro σ' H' ⟨_,_,_,_,_,z⟩;exact ?AQ
end
section
end
section
theorem wR(hN:?CC)(hi:?zN)(hx:?DI)(he:?Jw)(h:∀ a,W3 X B rest (Γ.set i ?DE) ((a,?CD)::Ω) E)(hs:?kB:=by rfl)
  (hf:?yX:=by first|exact .inl rfl|exact .inr rfl|assumption):?xW:=fun F σ H S pins s I=>
 qm (lg hN hi hx he hs hf) Qb pins s σ H _ I ⟨F,S.fh,S.sl,fun a xs H' F' pu ha fa hH il=>by
  have S1:=S.pur pu;have nin:a∉Ω.map ?C:=fun z=>by
   obtain⟨q,hq,e⟩:=yA.mp z;obtain⟨_,o,h2,_⟩:=S.own q hq;rw[e,ha] at h2;cases h2
  refine qp pu.ff (h a F' _ H' ⟨S1.f0,S1.fh,S1.fr,S1.kp,yR.mpr ⟨nin,S1.nd⟩,fun q hq=>?_,fun q hq=>?_,Sl.set (S.sl.mono pu.ff) (by rw[I.len];exact(?GN).1) (Vg F')⟩)
  .rcases yB.mp hq with z|z
   .subst z;exact(S.freeB ha).symm
   .exact S1.od q z
  .rcases yB.mp hq with z|z
   .subst z;exact⟨fa,_,hH,fun F2 e=>⟨xs,rfl,il.mono e⟩⟩
   .exact S1.own q z⟩
theorem Sat.perm {K:?A0}{Ω':Om}{F:Hp}{σ:?An}{H:Hp}(S:?BJ)(p:Ω'.Perm Ω):Sat K B Γ Ω' F σ H:=
 ⟨S.f0,S.fh,S.fr,S.kp,(p.map _).nodup_iff.mpr S.nd,fun q hq=>S.od q (p.mem_iff.mp hq),fun q hq=>S.own q (p.mem_iff.mp hq),S.sl⟩
theorem aZ(p:Ω'.Perm Ω)(h:W3 X B sts Γ Ω' E):W3 X B sts Γ Ω E:=fun F σ H S=>h F σ H (S.perm p)
theorem Sat.turn {K:?A0}{F:Hp}{σ:?An}{H:Hp}{a:Addr}{w w':Ow}{o:HO}(S:Sat K B Γ ((a,w)::Ω) F σ H)(h:∀ F',Yc F F'->w' F' o):Sat K B Γ ((a,w')::Ω) F σ ?E1:=by
 obtain⟨fa,o0,ha,_⟩:=S.own (a,w) (by simp);have nin:=(?D1).1;refine⟨S.f0,fun b u e=>?_,S.fr,fun b u hb e=>?_,S.nd,fun q hq=>?_,fun q hq=>?_,S.sl⟩
 .rw[yX (Ys e fa)];exact S.fh _ _ e
 .by_cases z:b=a
  .subst z;rcases S.od (b,w) (by simp) with y|y
   .exact ?Hk
   .have y':B.H b=none:=y;rw[y'] at e;cases e
  .rw[yX z];exact S.kp b u hb e
 .rcases yB.mp hq with z|z
  .subst z;exact S.od (a,w) (by simp)
  .exact S.od q ?Db
 .rcases yB.mp hq with z|z
  .subst z;exact⟨fa,o,yT,h⟩
  .obtain⟨h1,o',h2,h3⟩:=S.own q ?Db;have ne:q.1≠a:=fun e=>nin (yA.mpr ⟨q,z,e⟩);exact⟨h1,o',by rw[yX ne];exact h2,h3⟩
theorem Va {i:Nat}{d:D}(hi:?zN)(hv:?Ed)(hΓ:Γ[i]?=some ?DE)(he:?Cw)(hz:ds.length<sizeLine)(h:W3 X B rest Γ ((a,QO X.K (ds++[d]))::Ω) E)
  (hs:∀ {t:TE},PE X ?yW t->PS X (.Expr ?yW pos) (nB t):=by exact fun h=>uJ h)
  (hd:?L:=by decide) (hcd:?wA:=by decide) (hst:?xZ:=by rfl)
  (hp:∀ {to:TE} {ta:TA},PE X ?GB to->PA X [e] ta->PE X ?yW (tBM X.K "list" bC to ta):=by exact fun a b=>?KM) :
  W3 X B (.Expr ?yW pos::rest) Γ ((a,?CD)::Ω) E:=fun F σ H S pins s I=>by
 obtain⟨v,e1,e2⟩:=S.sl i _ hΓ;cases isR e2;obtain⟨fa,o0,ha,ho⟩:=S.own (a,?CD) (by simp);obtain⟨xs,rfl,il⟩:=ho F ?AH;refine qm (hs (hp ?JU (yb he yq hst))) Qb pins s σ H _ I ⟨_,e1,?II,F,S.fh,S.sl,fun vs H' F' pu iv=>?_⟩;obtain⟨y,rfl,iy⟩:=wn iv;have S1:=S.pur pu;refine⟨a,xs,y,rfl,rfl,pu.hh _ _ ha,by rw[il.len];exact hz,qp pu.ff (h F' σ _ (S1.turn fun F2 e2=>⟨_,rfl,(?Lp).append (IsL.cons (iy.mono e2) IsL.nil)⟩))⟩
theorem Zv(hΓ:Γ[i]?=some ?DE)(h:W3 X B sts (Γ.set i (some ?Bq)) Ω E):W3 X B sts Γ ((a,?CD)::Ω) E:=fun F σ H S=>by
 obtain⟨v,e1,e2⟩:=S.sl i _ hΓ;cases isR e2;obtain⟨fa,o0,ha,ho⟩:=S.own (a,?CD) (by simp);obtain⟨xs,rfl,il⟩:=ho F ?AH;have nin:=(?D1).1;have w:Yc F (upd F a (.lst xs)):=fun b u q=>by rw[yX (Ys q fa)];exact q
 refine qp w (h (upd F a ?Aa) σ H ⟨?Hg,fun b u q=>?_,fun b q=>?_,S.kp,(?D1).2,fun q hq=>?GC,fun q hq=>?_,fun j d q=>?_⟩)
 .by_cases hb:b=a
  .subst hb;rw[yT] at q;cases q;exact ha
  .rw[yX hb] at q;exact ?Ht
 .by_cases hb:b=a
  .subst hb;exact(S.od (b,?CD) (by simp)).elim ?wN fun z=>.inr ?Ap
  .rw[yX hb] at q;exact ?GM
 .obtain⟨h1,o',h2,h3⟩:=S.own q ?BY;have ne:q.1≠a:=fun e=>nin ?Fj;exact ?vW
 .by_cases hj:i=j
  .subst hj;rw[qQ] at q;split at q
   .split at q
    .cases q;exact⟨_,e1,?IS⟩
    .cases q
   .contradiction
  .rw[qA hj] at q;obtain⟨u,h1,h2⟩:=S.sl j d q;exact ?Iq
end
inductive VR (K:?A0)(B:Bs)(Γ:Ga)(F:Hp)(σ:?An)(R:?yK)(v:V)(H':Hp):Prop
 |mk (d:D) (Ω':Om) (F':Hp) (S:?Gb) (f:?FJ) (i:Is K F' d v) (r:R d Ω')
inductive VTR (K:?A0)(B:Bs)(Γ:Ga)(F:Hp)(σ:?An)(R:Bool->Om->Prop)(k:Bool)(H':Hp):Prop
 |mk (Ω':Om) (F':Hp) (S:?Gb) (f:?FJ) (r:R k Ω')
inductive VLR (K:?A0)(B:Bs)(Γ:Ga)(F:Hp)(σ:?An)(R:?vP)(vs:?AL)(H':Hp):Prop
 |mk (ds:?AD) (Ω':Om) (F':Hp) (S:?Gb) (f:?FJ) (i:IsL K F' ds vs) (r:R ds Ω')
def V3 (X:Cx)(B:Bs)(e:Expr)(Γ:Ga)(Ω:Om)(R:?yK):Prop:=∀ F σ H,Sat X.K B Γ Ω F σ H->WE X e σ H (VR X.K B Γ F σ R)
def VT3 (X:Cx)(B:Bs)(e:Expr)(Γ:Ga)(Ω:Om)(R:Bool->Om->Prop):Prop:=∀ F σ H,Sat X.K B Γ Ω F σ H->WT X e σ H (VTR X.K B Γ F σ R)
def WL (X:Cx)(es:?Ai):TA:=fun σ H Q=>∀ (pos:Pos) (pins:List (Addr×Obj)) (s:Shared),Inv X pins σ H s->wpAny ?AF X.A (spliced ?JY) (AP X pins σ Q) X.xe s
theorem Ea:PA X es (WL X es):=fun pos pins s σ H Q I h=>h pos pins s I
def VL3 (X:Cx)(B:Bs)(es:?Ai)(Γ:Ga)(Ω:Om)(R:?vP):Prop:=∀ F σ H,Sat X.K B Γ Ω F σ H->WL X es σ H (VLR X.K B Γ F σ R)
theorem WE.mono(h:WE X e σ H Q)(i:∀ v H,Q v H->Q' v H):WE X e σ H Q':=fun pins s I=>thn ?Hp fun u s' ⟨v,H',I',r,q⟩=>?M5
theorem WT.mono(h:WT X e σ H Q)(i:∀ v H,Q v H->Q' v H):WT X e σ H Q':=fun pins s I=>thn ?Hp fun u s' ⟨H',I',q⟩=>⟨H',I',i _ _ q⟩
theorem WL.mono(h:WL X e σ H Q)(i:∀ v H,Q v H->Q' v H):WL X e σ H Q':=fun p pins s I=>thn (h p pins s I) fun u s' ⟨v,H',I',r,q⟩=>?M5
theorem Sat.turnIn {K:?A0}{B:Bs}{Γ:Ga}{Ω:Om}{F:Hp}{σ:?An}{H:Hp}{a:Addr}{w:Ow}{o:HO}(S:?BJ)(m:(a,w)∈Ω)(h:∀ F',Yc F F'->w F' o):Sat K B Γ Ω F σ ?E1:=by
 obtain⟨fa,o0,ha,_⟩:=S.own (a,w) m;refine⟨S.f0,fun b u e=>?_,S.fr,fun b u hb e=>?_,S.nd,S.od,fun q hq=>?_,S.sl⟩
 .rw[yX (Ys e fa)];exact S.fh _ _ e
 .by_cases z:b=a
  .subst z;rcases S.od (b,w) m with y|y
   .exact ?Hk
   .have y':B.H b=none:=y;rw[y'] at e;cases e
  .rw[yX z];exact S.kp b u hb e
 .obtain⟨h1,o',h2,h3⟩:=S.own q hq;by_cases z:q.1=a
  .have e:q=(a,w):=by
    have nd:=S.nd
    clear h1 h2 h3 ha fa h
    induction Ω with
    |nil=>cases hq
    |cons r Ω ih=>
     rw[yD,yR] at nd;rcases yB.mp hq with y|y
     .rcases yB.mp m with y2|y2
      .rw[y,y2]
      .exact absurd (yA.mpr ⟨(a,w),y2,by rw[←y,z]⟩) nd.1
     .rcases yB.mp m with y2|y2
      .exact absurd (yA.mpr ⟨q,y,by rw[z,←y2]⟩) nd.1
      .exact ih ⟨S.f0,S.fh,S.fr,S.kp,nd.2,fun q hq=>?GC,fun q hq=>S.own q ?BY,S.sl⟩ y2 y nd.2
   subst e;exact⟨fa,o,yT,h⟩
  .exact⟨h1,o',by rw[yX z];exact h2,h3⟩
section
variable {X:Cx}{B:Bs}{Γ:Ga}{Ω:Om}{E:E3}{rest body:?BM}{a b c e:Expr}{es:?Ai}{d:D}{ds:?AD}{pos pos' p:Pos}{R:?yK}{RL:?vP}{RT:Bool->Om->Prop}{k:Bool}
theorem YI (h:?Cw)(r:R d Ω):?Dr:=fun F σ H S=>h.we ⟨F,S.fh,S.sl,fun v H' F' p i=>⟨d,Ω,F',?Bo,p.ff,i,r⟩⟩
theorem V3.imp(h:?Dr)(i:∀ d Ω',R d Ω'->R' d Ω'):V3 X B e Γ Ω R':=fun F σ H S=>(?AV).mono fun v H' ⟨d,Ω',F',S',f,iv,r⟩=>⟨d,Ω',F',S',f,iv,i _ _ r⟩
theorem DA (h:?HW)(r:RT k Ω):?Ix:=fun F σ H S=>h.wt ⟨F,S.fh,S.sl,fun H' F' p=>⟨Ω,F',?Bo,p.ff,r⟩⟩
theorem HB(ho:?IX)(h:V3 X B a Γ Ω fun d Ω1=>V3 X B b Γ Ω1 fun d' Ω2=>∃ d3,(∀ x y H F Q,?xK)/\R d3 Ω2):V3 X B ?J9 Γ Ω R:=fun F σ H S pins s I=>
 uU ho j6 j6 pins s σ H _ I ((?AV).mono fun x H1 ⟨d,Ω1,F1,S1,f1,i1,h1⟩=>(?DM).mono fun y H2 ⟨d',Ω2,F2,S2,f2,i2,d3,hr,q⟩=>
  hr x y H2 F2 _ S2.fh ?Ev i2 fun v H' F' p i=>⟨d3,Ω2,F',S2.pur p,(?Dv).trans p.ff,i,q⟩)
theorem XV (h:V3 X B a Γ Ω fun d Ω1=>∃ i,d=.int i/\V3 X B b Γ Ω1 fun d' Ω2=>∃ j,d'=.int j/\R (.int (i+j)) Ω2):V3 X B ?EW Γ Ω R:=
 HB hZ (h.imp fun d Ω1 ⟨i,e,h⟩=>h.imp fun d' Ω2 ⟨j,e',r⟩=>⟨_,fun x y H F Q fh i1 i2 k=>by subst e e';exact⟨i,j,isI i1,?Br,k _ _ _ ?AU (Jm F)⟩,r⟩)
theorem VE (h:?Fo)(r:RL ds Ω):VL3 X B es Γ Ω RL:=fun F σ H S pos pins s I=>h pos pins s σ H _ I ⟨F,S.fh,S.sl,fun v H' F' p i=>⟨ds,Ω,F',?Bo,p.ff,i,r⟩⟩
theorem jY (h:V3 X B e Γ Ω fun d Ω1=>VL3 X B es Γ Ω1 fun ds Ω2=>RL (d::ds) Ω2)(hs:?W:=by rfl):VL3 X B (e::es) Γ Ω RL:=fun F σ H S pos pins s I=>
 vx j6 Ea hs pos pins s σ H _ I ((?AV).mono fun x H1 ⟨d,Ω1,F1,S1,f1,i1,h1⟩=>(?DM).mono fun xs H2 ⟨ds,Ω2,F2,S2,f2,i2,r⟩=>⟨d::ds,Ω2,F2,S2,?Dv,IsL.cons ?Ev i2,r⟩)
theorem oJ(h:VL3 X B es Γ Ω fun ds Ω1=>ds.length<=sizeLine/\R ?CF Ω1):V3 X B ?JJ Γ Ω R:=fun F σ H S pins s I=>
 W9 Ea pins s σ H _ I ((?AV).mono fun xs H1 ⟨ds,Ω1,F1,S1,f1,i1,hz,r⟩=>⟨by rw[i1.len];exact hz,fun q hq=>⟨?CF,Ω1,_,S1.pur ?Eb,f1.trans (?Eb).ff,Is.tupI ?Cr (i1.mono (?Eb).ff),r⟩⟩)
theorem FC {n k:Nat}(o:?KW)(hr:?Aw)(hg:?Af)(h:VL3 X B (e::es) Γ Ω fun ds Ω1=>∃ d,C ds d/\ds.length=n/\R d Ω1)(hdb:?L:=by decide)
  (he:?W:=by rfl) (hpl:?zD:=by rfl):?Iy:=fun F σ H S pins s I=>
 xZ o hr hg Ea hdb he hpl pins s σ H _ I ((?AV).mono fun vs H1 ⟨ds,Ω1,F1,S1,f1,i1,d,hC,hn,r⟩=>by
  rw[Yq];exact⟨ds,d,F1,hC,hn,S1.fh,i1,fun v H2 F2 p2 i2=>⟨d,Ω1,F2,?GI,f1.trans p2.ff,i2,r⟩⟩)
theorem lX (h:V3 X B a Γ Ω fun d Ω1=>∃ ds,d=.lst ds/\V3 X B b Γ Ω1 fun d' Ω2=>∃ i e,d'=.int i/\atI ds i=some e/\R e Ω2)(hs:V0 b:=by exact ?yH):V3 X B ?Dq Γ Ω R:=fun F σ H S pins s I=>
 nQ Ua j6 j6 hs pins s σ H _ I ((?AV).mono fun x H1 ⟨d,Ω1,F1,S1,f1,i1,ds,e1,h1⟩=>(?DM).mono fun y H2 ⟨d',Ω2,F2,S2,f2,i2,j,e,e2,e3,q⟩=>by
  subst e1 e2;obtain⟨l,xs,rfl,s1,j1⟩:=zy ?Ev;obtain⟨v,v1,v2⟩:=ls j1 e3;exact⟨l,xs,j,v,rfl,?Br,S2.fh.seq s1,v1,e,Ω2,F2,S2,?Dv,v2,q⟩)
theorem IN(ho:?EQ)(h:V3 X B a Γ Ω fun d Ω1=>V3 X B b Γ Ω1 fun d' Ω2=>∃ k,(∀ x y H F Q,Yc F H->Is X.K F d x->Is X.K F d' y->Q ?CK H->r x y H Q)/\R ?CK Ω2)
  (hm:?wE:=by first|exact xb _|with_unfolding_all rfl):V3 X B ?vD Γ Ω R:=fun F σ H S pins s I=>
 ol ho j6 j6 hm pins s σ H _ I ((?AV).mono fun x H1 ⟨d,Ω1,F1,S1,f1,i1,h1⟩=>(?DM).mono fun y H2 ⟨d',Ω2,F2,S2,f2,i2,k,hr,q⟩=>hr x y H2 F2 _ S2.fh ?Ev i2 ⟨?CK,Ω2,F2,S2,?Dv,Uw F2,q⟩)
theorem pS {g:Int->Int->Bool}{i j:Int}:∀ (x y:V) (H F:Hp) (Q:VK),Yc F H->Is X.K F ?Bs x->Is X.K F (.int j) y->Q ?G7 H->rI0 (fun i j=>?G7) x y H Q:=fun x y H F Q fh i1 i2 q=>⟨i,j,isI i1,?Br,q⟩
theorem QB(hN:?CC)(hi:?zN)(hx:?DI)(h:V3 X B e Γ Ω fun d Ω1=>W3 X B rest ?Fl Ω1 E)(hs:?kB:=by rfl)
  (hf:?yX:=by first|exact .inl rfl|exact .inr rfl|assumption):?xW:=fun F σ H S pins s I=>
 qm (lg hN hi hx j6 hs hf) Qb pins s σ H _ I ((?AV).mono fun v H1 ⟨d,Ω1,F1,S1,f1,i1,h1⟩=>qp f1 (h1 F1 _ H1 (S1.slots (Sl.set S1.sl (by rw[I.len];exact(?GN).1) i1))))
theorem Gv(h:V3 X B e Γ Ω fun d Ω1=>∃ Γ1,G3 X tg Γ d Γ1/\W3 X B rest Γ1 Ω1 E)(hs:swapsWithSole [tg] e spos.line X.env=pure false:=by rfl)(hw:swappedStores [tg] e X.env=pure none:=by rfl)
  (h1:(assignEach [tg] X.env).map ?zC=[assign tg X.env]:=by rfl):W3 X B (.Assign [tg] e spos::rest) Γ Ω E:=fun F σ H S pins s I=>
 qm (gO j6 rg hs hw h1) Qb pins s σ H _ I ((?AV).mono fun v H1 ⟨d,Ω1,F1,S1,f1,i1,Γ1,⟨g,pg,gq⟩,h1⟩=>fun pins s u I2 r=>pg pins s σ H1 v u _ I2 r (gq F1 σ H1 v _ S1.fh i1 S1.sl I2.len fun σ' sl' _=>qp f1 (h1 F1 σ' H1 (S1.slots sl'))))
theorem ZG (h:V3 X B e Γ Ω E.rt):W3 X B (.Return ?D8 pos::rest) Γ Ω E:=fun F σ H S pins s I=>
 qm (cH j6) KL pins s σ H _ I ((?AV).mono fun v H1 ⟨d,Ω1,F1,S1,f1,i1,h1⟩=>⟨d,Ω1,F1,⟨σ,S1.slots Sl.nil⟩,f1,i1,h1⟩)
theorem wL {a b:?BM}(h:VT3 X B c Γ Ω fun k Ω1=>(k=true->W3 X B a Γ Ω1 ?Eg)/\(k=false->W3 X B b Γ Ω1 ?Eg)):W3 X B (.If c a b pos::rest) Γ Ω E:=fun F σ H S pins s I=>
 qm (sP FK Qb Qb) Qb pins s σ H _ I ((?AV).mono fun k H1 ⟨Ω1,F1,S1,f1,h1,h2⟩=>by
  cases k with
  |true=>exact rN (uN (qp f1 (h1 rfl F1 σ H1 S1)))
  |false=>exact Cb (uN (qp f1 (h2 rfl F1 σ H1 S1))))
end
theorem Sat.freeze {K:?A0}{B:Bs}{Γ:Ga}{Ω:Om}{F:Hp}{σ:?An}{H:Hp}{a:Addr}{ds:?AD}(S:Sat K B Γ ((a,QO K ds)::Ω) F σ H):∃ F',Sat K B Γ Ω F' σ H/\Yc F F'/\Is K F' ?Bq ?AI:=by
 obtain⟨fa,o0,ha,ho⟩:=S.own (a,QO K ds) (by simp);obtain⟨xs,rfl,il⟩:=ho F ?AH;have nin:=(?D1).1;have w:Yc F (upd F a (.lst xs)):=fun b u q=>by rw[yX (Ys q fa)];exact q
 refine⟨upd F a ?Aa,⟨?Hg,fun b u q=>?_,fun b q=>?_,S.kp,(?D1).2,fun q hq=>?GC,fun q hq=>?_,S.sl.mono w⟩,w,?IS⟩
 .by_cases hb:b=a
  .subst hb;rw[yT] at q;cases q;exact ha
  .rw[yX hb] at q;exact ?Ht
 .by_cases hb:b=a
  .subst hb;exact(S.od (b,QO K ds) (by simp)).elim ?wN fun z=>.inr ?Ap
  .rw[yX hb] at q;exact ?GM
 .obtain⟨h1,o',h2,h3⟩:=S.own q ?BY;have ne:q.1≠a:=fun e=>nin ?Fj;exact ?vW
theorem Sat.new {K:?A0}{B:Bs}{Γ:Ga}{Ω:Om}{F F':Hp}{σ:?An}{H H':Hp}{a:Addr}{w:Ow}{o:HO}(S:?BJ)(pu:?Ju)(ha:H a=none)(fa:F' a=none)(hH:H' a=some o)(h:∀ F2,Yc F' F2->w F2 o):Sat K B Γ ((a,w)::Ω) F' σ H':=by
 have S1:=S.pur pu;have nin:a∉Ω.map ?C:=fun z=>by
  obtain⟨q,hq,e⟩:=yA.mp z;obtain⟨_,o,h2,_⟩:=S.own q hq;rw[e,ha] at h2;cases h2
 refine⟨S1.f0,S1.fh,S1.fr,S1.kp,yR.mpr ⟨nin,S1.nd⟩,fun q hq=>?_,fun q hq=>?_,S1.sl⟩
 .rcases yB.mp hq with z|z
  .subst z;exact(S.freeB ha).symm
  .exact S1.od q z
 .rcases yB.mp hq with z|z
  .subst z;exact⟨fa,_,hH,h⟩
  .exact S1.own q z
def WI (X:Cx)(tg iter:Expr):TI:=fun σ H R=>∀ (pins:List (Addr×Obj)) (s:Shared),Inv X pins σ H s->wpAny ?AF X.A (eval iter X.env) (fun v s1=>?KY) X.xe s
theorem Fp:PI X tg iter (WI X tg iter):=fun pins s σ H R I h=>h pins s I
theorem WI.mono(h:WI X tg iter σ H R)(i:∀ J H,R J H->R' J H):WI X tg iter σ H R':=fun pins s I=>thn ?Hp fun v s1 h1=>thn h1 fun itv s2 ⟨it,fp,tn,J,H',e,I',T,t0,f,r⟩=>⟨it,fp,tn,J,H',e,I',T,t0,f,i _ _ r⟩
inductive IVR (K:?A0)(B:Bs)(Γ:Ga)(F:Hp)(σ:?An)(R:?vP)(J:It)(H':Hp):Prop
 |mk (ds:?AD) (Ω':Om) (F':Hp) (S:?Gb) (f:?FJ) (i:ny K F' J ds) (r:R ds Ω')
def IV3 (X:Cx)(B:Bs)(tg iter:Expr)(Γ:Ga)(Ω:Om)(R:?vP):Prop:=∀ F σ H,Sat X.K B Γ Ω F σ H->WI X tg iter σ H (IVR X.K B Γ F σ R)
section
theorem DM (h:?Gq)(r:RL ds Ω):IV3 X B tg iter Γ Ω RL:=fun F σ H S pins s I=>h pins s σ H _ I ⟨F,S.fh,S.sl,fun J H' F' p w=>⟨ds,Ω,F',?Bo,p.ff,w,r⟩⟩
theorem KN (hm:?qY)(hg:?jI)(h:V3 X B a Γ Ω fun d Ω1=>∃ j:Int,d=.int j/\-(2 ^ 62)<=j/\j<2 ^ 62/\RL (wW 0 j.toNat) Ω1)(hs:?jV:=by rfl):IV3 X B tg ?kN Γ Ω RL:=fun F σ H S pins s I=>
 aS hg hm (vx j6 UA hs) hs pins s σ H _ I ((?AV).mono fun v H1 ⟨d,Ω1,F1,S1,f1,i1,j,e,b1,b2,r⟩=>by
  subst e;exact⟨j,by rw[isI i1],b1,b2,_,Ω1,F1,S1,f1,WK,r⟩)
theorem xP (hp:?ET)(hc:?zB)
  (h:IV3 X B tg iter Γ Ω fun ds Ω1=>∃ J:Nat->Ga->Om->Prop,J 0 Γ Ω1/\(∀ i d Γ Ω,ds[i]?=some d->J i Γ Ω->∃ Γ1,G3 X tg Γ d Γ1/\W3 X B body Γ1 Ω {E with nx:=J (i+1),ct:=J (i+1),bk:=fun Γ' Ω'=>?CP})/\∀ Γ Ω,J ds.length Γ Ω->W3 X B rest Γ Ω E)
  (hs:∀ x,foldedSetIterable iter X.env x=pure x:=by intro _;rfl):W3 X B (.For tg iter body [] pos::rest) Γ Ω E:=fun F σ H S pins s I=>by
 refine qm (Cn hp hc Fp rg Qb hs) Qb pins s σ H _ I ((?AV).mono fun Jt H1 ⟨ds,Ω1,F1,S1,p1,w,J,h0,step,hd⟩=>⟨fun i m σ H=>i+m=ds.length/\nX X.K B F1 (J i) σ H,⟨?GH,?A,Γ,Ω1,F1,S1,?AH,h0⟩,?_⟩);rintro i m σ H ⟨hm,Γ,Ω,F2,S,f1,j⟩;obtain⟨w1,w2⟩:=w i F2 H f1 S.fh;cases z:ds[i]? with
 |none=>
  have hl:ds.length<=i:=yG.mp z;have e:i=ds.length:=by lia
  subst e;exact .inl ⟨w2 hl,qp (p1.trans f1) (hd Γ Ω j F2 σ H S)⟩
 |some d=>
  have hl:i<ds.length:=(yk.mp z).1;obtain⟨go,y⟩:=w1 d z;obtain⟨Γ1,⟨g,pg,gq⟩,wb⟩:=step i d Γ Ω z j;refine .inr ⟨go,?wG,?_,fun x H' hy pins s u I2 r=>?_⟩
  .rintro σ' H' n;exact⟨m - 1,?A,?A,n⟩
  .obtain⟨F3,p2,ix⟩:=y x H' hy;refine pg pins s σ H' x u _ I2 r (gq F3 σ H' x _ p2.fh ix (S.sl.mono p2.ff) I2.len fun σ' sl' _=>?_);have f3:Yc F1 F3:=f1.trans p2.ff;exact Qa (D:=E3.to X.K B F3 {E with nx:=J (i+1),ct:=J (i+1),bk:=fun Γ' Ω'=>?CP}) (D':={nx:=?wG,rt:=(?Ct).rt,bk:=?DK,ct:=?wG})
    (fun _ _ q=>q.mono f3) (fun v H ⟨d,Ω,F,S,f,i,r⟩=>⟨d,Ω,F,S,(p1.trans f3).trans f,i,r⟩) (fun _ _ q=>uL (q.mono (p1.trans f3))) (fun _ _ q=>q.mono f3) (wb F3 σ' H' ((S.pur p2).slots sl'))
theorem bc (h:?Jw)(r:∀ a,R ?Bg ((a,?CD)::Ω)):?Dr:=fun F σ H S pins s I=>h pins s σ H _ I ⟨F,S.fh,S.sl,fun a xs H' F' pu ha fa hH il=>⟨_,_,F',S.new pu ha fa hH (fun F2 e=>⟨xs,rfl,il.mono e⟩),pu.ff,Vg F',r a⟩⟩
theorem FG {sc SX:?BH}{N XN:?A1}{nt:Nat}{caps:?DY}(S:?Cq)
  (h:IV3 X B tg iter Γ Ω fun ds Ω1=>∃ J:Nat->List D->Om->Prop,J 0 [] Ω1/\?uE/\
   (∀ c i d gs Ω',ds[i]?=some d->J i gs Ω'->∃ Γ1,G3 ?Au tg ?DN d Γ1/\Sub ?DN Γ1/\∀ q:Addr×Ow,V3 ?Au B elt Γ1 (q::Ω') fun e Ω2=>∃ Ω3,Ω2.Perm (q::Ω3)/\J (i+1) (gs++[e]) Ω3)/\
   ∀ a gs Ω',J ds.length gs Ω'->R ?Bg ((a,?BN)::Ω'))
  (hc:?zB:=by rfl) (hX:?yQ:=by rfl) (hN:X.N=XN:=by rfl) (hs:∀ x,foldedSetIterable iter X.env x=pure x:=by intro _;rfl):V3 X B (.ListComp elt [⟨tg,iter,[],0⟩] sc pos) Γ Ω R:=fun F σ H S0 pins s I=>by
 refine ox S Fp (fun c=>rg) (fun c=>aY (c:=c)) (fun c=>j6) hc hX hN hs pins s σ H _ I ((h F σ H S0).mono fun Jt H1 ⟨ds,Ω1,F1,S1,p1,w,J,h0,hz,step,hd⟩ D hD c=>
  ⟨fun i m σ' ys H'=>i+m=ds.length/\∃ gs Ω' F',Yc F1 F'/\Sat X.K B (uV nt caps Γ) ((D,?BN)::Ω') F' σ' H'/\H' D=some (.lst ys)/\IsL X.K F' gs ys/\J i gs Ω',?_,?_⟩)
 .refine⟨?GH,?A,[],Ω1,F1,?AH,?_,yT,?CG,h0⟩;exact(S1.new (Pur.layOwn S1.fh hD) hD (S1.fh.free hD) yT fun F2 e=>⟨[],rfl,?CG⟩).slots (Sl.cap S1.sl)
 .rintro i m σ' ys H' ⟨hm,gs,Ω',F',f',S',hH,il,j⟩;refine⟨hH,by rw[il.len];exact ?HN,?_⟩;obtain⟨w1,w2⟩:=w i F' H' f' S'.fh;cases z:ds[i]? with
  |none=>
   have hl:ds.length<=i:=yG.mp z;have e:i=ds.length:=by lia
   subst e;exact .inl ⟨w2 hl,.raw (.ref D),_,F',?MH,p1.trans f',Vg F',hd D gs Ω' j⟩
  |some d=>
   have hl:i<ds.length:=(yk.mp z).1;obtain⟨go,y⟩:=w1 d z;obtain⟨Γ1,⟨g,pg,gq⟩,sub,he⟩:=step c i d gs Ω' z j;refine .inr ⟨go,fun x H2 hy pins s u I2 r=>?_⟩;obtain⟨F2,p2,ix⟩:=y x H2 hy;refine pg pins s σ' H2 x u _ I2 r (gq F2 σ' H2 x _ p2.fh ix (S'.sl.mono p2.ff) I2.len fun σ3 sl3 _=>?_);unfold nM;dsimp only;rw[yc rfl];refine WE.mono (he (D,?BN) F2 σ3 H2 ((S'.pur p2).slots sl3)) fun v H5 ⟨e,Ω2,F5,S5,f5,iv,Ω3,pm,j5⟩=>?_;have S5':=S5.perm pm.symm;obtain⟨fD,o,hD5,ho⟩:=S5'.own (D,?BN) (by simp);obtain⟨ys',rfl,il'⟩:=ho F5 ?AH;refine⟨ys',hD5,by rw[il'.len];exact ?HN,m - 1,?A,?A,gs++[e],Ω3,F5,?ME,?_,yT,il'.append ?Gt,j5⟩;exact(S5'.turn fun F6 e6=>⟨_,rfl,(il'.mono e6).append ?LN⟩).slots (S5'.sl.sub sub)
theorem V3.frozen (h:V3 X B e Γ Ω fun d Ω'=>∃ a gs Ω2,d=.raw ?AI/\Ω'=(a,?BN)::Ω2/\R (.lst gs) Ω2):?Dr:=fun F σ H S=>(?AV).mono fun v H' ⟨d,Ω',F',S',f,iv,a,gs,Ω2,e1,e2,r⟩=>by
 subst e1 e2;obtain⟨F2,S2,f2,i2⟩:=S'.freeze;cases isR iv;exact⟨_,Ω2,F2,S2,f.trans f2,i2,r⟩
theorem pZ {i:Nat}(hi:?zN)(hv:?Ed)(hΓ:Γ[i]?=some (some ?Ak))(hm:(l,w)∈Ω)(hw:∀ F o,w F o->∃ xs,o=.lst xs)
  (h:V3 X B e Γ Ω fun d Ω1=>∃ ds Ω2,Ω1.Perm ((l,?CD)::Ω2)/\ds.length<sizeLine/\W3 X B rest Γ ((l,QO X.K (ds++[d]))::Ω2) E)
  (hs:∀ {t:TE},PE X ?yW t->PS X (.Expr ?yW pos) (nB t):=by exact fun h=>uJ h)
  (hd:?L:=by decide) (hcd:?wA:=by decide) (hst:?xZ:=by rfl)
  (hp:∀ {to:TE} {ta:TA},PE X ?GB to->PA X [e] ta->PE X ?yW (tBM X.K "list" bC to ta):=by exact fun a b=>?KM) :
  W3 X B (.Expr ?yW pos::rest) Γ Ω E:=fun F σ H S pins s I=>by
 obtain⟨v,e1,e2⟩:=S.sl i _ hΓ;cases isR e2;obtain⟨fa,o0,ha,ho⟩:=S.own _ hm;obtain⟨xs0,rfl⟩:=hw F o0 (ho F ?AH);refine qm (hs (hp ?JU (vx j6 UA hst))) Qb pins s σ H _ I ⟨_,e1,?II,(?AV).mono fun y H1 ⟨d,Ω1,F1,S1,f1,i1,ds,Ω2,pm,hz,h1⟩=>?_⟩;have S2:=S1.perm pm.symm;obtain⟨fa',o',ha',ho'⟩:=S2.own (l,?CD) (by simp);obtain⟨xs,rfl,il⟩:=ho' F1 ?AH;exact⟨l,xs,y,rfl,rfl,ha',by rw[il.len];exact hz,qp f1 (h1 F1 σ _ (S2.turn fun F2 e2=>⟨_,rfl,(il.mono e2).append (IsL.cons (i1.mono e2) IsL.nil)⟩))⟩
end
def sh (q:Rat):D:=.tup [.int q.num,.int (q.den:Int)]
def Sz (n:Nat)(q:Rat):Prop:=q.num.natAbs<2 ^ n/\q.den<2 ^ n
theorem Sz.mono {q:Rat}(h:Sz m q)(l:m<=n):?Cg:=
 ⟨yW h.1 (YD ?B l),yW h.2 (YD ?B l)⟩
theorem xS {x:Int}(h:x.natAbs<2 ^ n):Builtin.Int.intBits x<=n:=PySem.intBits_le_iff.mpr h
theorem zw {a b:Int}(ha:a.natAbs<2 ^ m)(hb:b.natAbs<2 ^ n)(h:m+n<=134217728):IntMulOk a b:=PySem.IntMulOk.of_le (xS ha) (xS hb) h
theorem Bw (m n:Nat):2 ^ (m+n)=2 ^ m*2 ^ n:=Nat.pow_add 2 m n
theorem qB {a b:Int}{m n:Nat}(ha:a.natAbs<2 ^ m)(hb:b.natAbs<2 ^ n):(a*b).natAbs<2 ^ (m+n):=by
 rw[Int.natAbs_mul,Bw];exact Nat.mul_lt_mul'' ha hb
theorem zh {t b:Int}(hb:0<b)(h1:t.natAbs<2 ^ n)(h2:b.natAbs<2 ^ n):Sz n ?Cp:=by
 constructor
 .rw[Rat.num_divInt,Int.sign_eq_one_of_pos hb,Int.one_mul];refine jm ?_ h1;rw[Int.natAbs_ediv_of_dvd (Int.gcd_dvd_right _ _)];exact Nat.div_le_self _ _
 .rw[Rat.den_divInt,yd ?A];exact jm (Nat.div_le_self _ _) h2
theorem Bv {p q:Rat}(hp:Sz m p)(hq:?Cg):Sz (m+n+1) (p+q):=by
 rw[←My.q_add];have a1:=qB hp.1 ?jT;have a2:=qB hq.1 ?jU;have a3:=qB ?jU ?jT;rw[Nat.add_comm n m] at a2;have e:2 ^ (m+n+1)=2 ^ (m+n)+2 ^ (m+n):=by rw[QW];lia
 refine zh (JE ?BT ?BK) ?_ ?_
 .rw[e];refine jm (Int.natAbs_add_le _ _) ?_;lia
 .rw[e];lia
theorem lm {p q:Rat}(hp:Sz m p)(hq:?Cg):Sz (m+n+1) (p - q):=by
 rw[←My.q_sub];have a1:=qB hp.1 ?jT;have a2:=qB hq.1 ?jU;have a3:=qB ?jU ?jT;rw[Nat.add_comm n m] at a2;have e:2 ^ (m+n+1)=2 ^ (m+n)+2 ^ (m+n):=by rw[QW];lia
 refine zh (JE ?BT ?BK) ?_ ?_
 .rw[e];refine jm (Int.natAbs_sub_le _ _) ?_;lia
 .rw[e];lia
theorem ZF {p q:Rat}(hp:Sz m p)(hq:?Cg):Sz (m+n) (p*q):=by
 rw[←My.q_mul];exact zh (JE ?BT ?BK) (qB hp.1 hq.1) (qB ?jU ?jT)
theorem rM {p q:Rat}(hp:Sz m p)(hq:?Cg)(h0:0<q):Sz (m+n) (p / q):=by
 rw[←My.q_div];exact zh (JE ?BT (My.q_num_pos h0)) (qB hp.1 ?jT) (qB ?jU hq.1)
theorem Uq:Sz 1 0:=by constructor <;> decide
theorem wX:Sz 1 1:=by constructor <;> decide
theorem xX {p q:Rat}(a:0<=p)(b:0<=q):0<=p+q:=by grind
theorem Qo {p q:Rat}(a:0<=p)(b:0<=q):0<=p*q:=Rat.mul_nonneg a b
theorem xx {p q:Rat}(a:0<=p)(b:0<q):0<=p / q:=by
 rw[Rat.div_def];exact Rat.mul_nonneg a (Yx (Rat.inv_pos.mpr b))
abbrev big:Nat:=67108864
def IX:?G:=fun ds d=>∃ a b:Int,ds=[.int a,.int b]/\d=.int (My.G a b)/\0<=a/\0<=b
def mC:?G:=fun ds d=>∃ t b:Int,ds=[.int t,.int b]/\d=sh ?Cp/\0<=t/\0<b
def DH (f:Rat->Rat->Rat)(C:Rat->Rat->Prop):?G:=fun ds d=>∃ (p q:Rat) (m n:Nat),ds=[sh p,sh q]/\d=sh (f p q)/\0<=p/\0<=q/\Sz m p/\Sz n q/\m<=big/\n<=big/\C p q
abbrev C9:=DH (fun p q=>p+q) fun _ _=>True
abbrev mF:=DH (fun p q=>p*q) fun _ _=>True
abbrev lC:=DH (fun p q=>p - q) fun p q=>q<=p
abbrev CA:=DH (fun p q=>p / q) fun _ q=>0<q
def Hb:?G:=fun ds d=>∃ (p q:Rat) (m n:Nat),ds=[sh p,sh q]/\d=.bl (decide (p<q))/\Sz m p/\Sz n q/\m<=big/\n<=big
theorem jW {q:Rat}(h:?Cg):((q.den:Int)).natAbs<2 ^ n:=h.2
theorem kK {p q:Rat}(hp:Sz m p)(hq:?Cg)(h1:m<=big)(h2:n<=big):IntMulOk p.num q.den:=zw hp.1 (jW hq) (by have:big=67108864:=rfl;lia)
theorem Aq {p q:Rat}(hp:Sz m p)(hq:?Cg)(h1:m<=big)(h2:n<=big):IntMulOk p.num q.num:=zw hp.1 hq.1 (by have:big=67108864:=rfl;lia)
theorem h7 {p q:Rat}(hp:Sz m p)(hq:?Cg)(h1:m<=big)(h2:n<=big):IntMulOk p.den q.den:=zw (jW hp) (jW hq) (by have:big=67108864:=rfl;lia)
theorem sJ {p q:Rat}(h:sh p=sh q):p=q:=by
 unfold sh at h;simp only[D.tup.injEq,List.cons.injEq,D.int.injEq,and_true] at h;exact My.q_inj h.1 h.2
theorem JB {p q:Rat}:qy (sh p) (sh q)=decide (p=q):=by
 by_cases h:p=q
 .subst h;rw[v7 (by rfl)];simp
 .rw[bw (fun z=>h (sJ z)),yu h]
theorem zD {p q:Rat}:kin (sh p) (sh q)=true:=by rfl
theorem zA {p:Rat}:dep (sh p)<=60:=by
 show max 0 (max 0 0)+1<=60;decide
def Zq:Ow:=fun _ o=>∃ x:Int,o=.lst [.int x]/\0<=x/\x<2147483647
def Bg:Sp:=fun vs H Q _=>∃ (a:Addr) (m x:Int),vs=[.ref a,.int m]/\0<m/\m<1073741824/\H a=some (.lst [.int x])/\0<=x/\x<2147483647/\∀ x' r:Int,0<=x'->x'<2147483647->0<=r->r<m->Q (.int r) (upd H a (.lst [.int x']))
theorem VM {m:Int}(o:OkF X.prog X.w X.K X.mg X.base CX0 k x ps Bg)(hr:?Aw)(hg:?Af)(ha:P3 X Γ a ?Ak)(hm:(l,Zq)∈Ω)(hb:P3 X Γ b (.int m))(h1:0<m)(h2:m<1073741824)
  (h:∀ r:Int,0<=r->r<m->R (.int r) Ω) (hdb:?L:=by decide)
  (he:starEach [a,b] X.env=?qZ::starEach [b] X.env:=by rfl) (he2:starEach [b] X.env=(?AE,?Em)::starEach [] X.env:=by rfl) (hpl:(backTo pos (starEach [b] X.env)).any ?C=false:=by rfl):V3 X B (.Call ?GJ [a,b] [] pos) Γ Ω R:=fun F σ H S pins s I=>
 xZ o hr hg ?M6 hdb he hpl pins s σ H _ I ⟨F,S.fh,S.sl,fun vs H' F' pu i=>by
  dsimp only;rw[Yq];obtain⟨x,y,rfl,i1,i2⟩:=oU i;cases isR i1;cases isI i2;have S1:=S.pur pu;obtain⟨fa,o',ha',ho⟩:=S1.own _ hm;obtain⟨x0,rfl,b1,b2⟩:=ho F' ?AH;exact⟨l,m,x0,rfl,h1,h2,ha',b1,b2,fun x' r c1 c2 c3 c4=>⟨.int r,Ω,F',S1.turnIn hm (fun F2 _=>⟨x',rfl,c1,c2⟩),pu.ff,Jm F',h r c3 c4⟩⟩⟩
def qV (K:?A0)(mg:?J)(x:Str)(d:D):Prop:=∃ (v:V) (u:Value),mg x=some u/\YX v u/\∀ F,Is K F d v
theorem qo(h:qV X.K X.mg x d)(hg:?Af)(hd:?L:=by decide):?Fv:=by
 obtain⟨v,u,hm,r,i⟩:=h;exact G7 hg hm r i hd
structure Zs (mg:?J):Prop where
 len:mg "len" = none
 range:mg "range" = none
 list:mg "list" = none
 tuple:mg "tuple" = none
 int:mg "int" = none
 bool:mg "bool" = none
 str:mg "str" = none
 dict:mg "dict" = none
 isinstance:mg "isinstance" = none
 sum:mg "sum" = none
 enumerate:mg "enumerate" = none
 zip:mg "zip" = none
 ValueError:mg "ValueError" = none
 all:mg "all" = none
 any:mg "any" = none
 reversed:mg "reversed" = none
theorem ZU {a b:Int}(p:0<b):0<=a % b/\a % b<b:=⟨Int.emod_nonneg a ?A,Int.emod_lt_of_pos a p⟩
theorem nR {a b:Int}(ha:0<=a)(hb:0<b):My.G b (a % b)=My.G a b:=by
 rw[←jc a (yQ hb)];exact My.G_turn ha hb
theorem AA {p q:Rat}:(0:Int)<p.den*q.den:=JE ?BT ?BK
theorem GI {p q:Rat}(h:q<=p):0<=p.num*q.den - q.num*p.den:=by
 have:=(Rat.le_iff q p).mp h;lia
theorem jS(h:P3 X Γ e d')(q:d'=d):?Cw:=q▸h
def GT:?G:=fun ds d=>∃ (ns:List Int) (k:Nat),ds=[.scr ns,.int (k:Int)]/\d=.int ?Hd
def Dp:?G:=fun ds d=>∃ i:Int,ds=[.int i]/\d=.bl true
def Bz:Sp:=fun vs H Q _=>∃ c:Int,vs=[.int c]/\∀ (p:Addr) (x:Int),H p=none->0<=x->x<2147483647->Q ?Bd (upd H p (.lst [.int x]))
theorem aC {a b:Int}(h:b.natAbs<2 ^ 64):IntMulOk a b:=IntMulOk.of_right (xS h)
theorem BM {X:Cx}{B:Bs}{Γ:Ga}{Ω:Om}{x:Str}{ps:?A1}{k:Nat}{a:Expr}{p pos:Pos}{c:Int}{R:?yK}(o:OkF X.prog X.w X.K X.mg X.base CX0 k x ps Bz)(hr:?Aw)(hg:?Af)(ha:P3 X Γ a (.int c))(h:∀ l,R ?Ak ((l,Zq)::Ω))(hdb:?L:=by decide)
  (he:?zW:=by rfl):V3 X B (.Call ?GJ [a] [] pos) Γ Ω R:=fun F σ H S pins s I=>
 xZ o hr hg ?CR hdb he (by rfl) pins s σ H _ I ⟨F,S.fh,S.sl,fun vs H' F' pu i=>by
  dsimp only;rw[Yq];obtain⟨y,rfl,i1⟩:=wn i;cases isI i1;refine⟨c,rfl,fun l x0 hl b1 b2=>⟨?Ak,(l,Zq)::Ω,F',?_,pu.ff,Vg F',h l⟩⟩;exact S.new ?LE (pu.hh.free hl) (pu.fh.free hl) yT fun F2 _=>⟨x0,rfl,b1,b2⟩⟩
def YV:Nat->?N->Rat
 |0,_=>0
 |n+1,f=>YV n f+f n
theorem qc {f g:?N}(h:∀ j,j<n->f j=g j):YV n f=YV n g:=by
 induction n with
 |zero=>rfl
 |succ n ih=>rw[YV,YV,ih (fun j hj=>h j ?A),h n ?A]
theorem Zu {f g:?N}:YV n (fun j=>f j+g j)=YV n f+YV n g:=by
 induction n with
 |zero=>simp only[YV];grind
 |succ n ih=>rw[YV,YV,YV,ih];grind
theorem Vc {c:Rat}{f:?N}:YV n (fun j=>c*f j)=c*YV n f:=by
 induction n with
 |zero=>simp only[YV];grind
 |succ n ih=>rw[YV,YV,ih];grind
theorem jO {f:?N}(h:∀ j,j<n->f j=0):YV n f=0:=by
 induction n with
 |zero=>rfl
 |succ n ih=>rw[YV,ih (fun j hj=>h j ?A),h n ?A];grind
theorem uX {f:?N}(hk:k<n):YV n (fun j=>if j=k then 0 else f j)=YV n f - f k:=by
 induction n with
 |zero=>lia
 |succ n ih=>
  rw[YV,YV];by_cases h:k=n
  .subst h;rw[yc rfl,qc (g:=f) fun j hj=>yd ?A];grind
  .rw[yd (fun z=>h z.symm),ih ?A];grind
def tb(n:Nat)(f:Nat->α):?B4:=(?BU).map f
theorem JU(h:k<n):(?Dd)[k]?=some (f k):=by
 unfold tb;rw[yC,jk h];rfl
theorem Y1:(?Dd).length=n:=by unfold tb;simp
theorem kY(h:∀ j,j<n->f j=g j):tb n f=tb n g:=jl fun j hj=>h j (qk.mp hj)
theorem nA(h:k<=n):(?Dd).take k=tb k f:=by
 unfold tb;rw[←List.map_take,List.take_range,Nat.min_eq_left h]
theorem J2:tb (n+1) f=tb n f++[f n]:=by
 unfold tb;rw[YC,yH];rfl
theorem GC:(?Dd).set k x=tb n fun j=>if j=k then x else f j:=by
 refine Qj fun i=>?_;by_cases h:i<n
 .rw[JU h,qQ];by_cases hk:k=i
  .subst hk;rw[yc rfl,yc rfl,yc (by rw[Y1];exact h)]
  .rw[yd hk,JU h,yd (fun z=>hk z.symm)]
 .rw[yG.mpr (by rw[List.length_set,Y1];lia),yG.mpr ?jH]
theorem pc:(?Dd).mapIdx g=tb n fun j=>g j (f j):=by
 refine Qj fun i=>?_;rw[List.getElem?_mapIdx];by_cases h:i<n
 .rw[JU h,JU h];rfl
 .rw[yG.mpr ?jH,yG.mpr ?jH];rfl
theorem iK:(?Dd).zip (tb n g)=tb n fun j=>(f j,g j):=by
 refine Qj fun i=>?_;by_cases h:i<n
 .rw[JU h];exact qw.mpr ⟨JU h,JU h⟩
 .rw[yG.mpr (by rw[YZ,Y1,Y1];lia),yG.mpr ?jH]
theorem uk(h:k<n):atI ?Dd (k:Int)=some (f k):=by
 unfold atI ixN;rw[Y1,yc ?A,yc ?A];show(?Dd)[((k:Int)).toNat]?=_;rw[qG];exact JU h
def shR (m:Nat)(f:?N):D:=.lst (tb m fun j=>sh (f j))
def shM (n m:Nat)(E:?H):D:=.lst (tb n fun i=>shR m (E i))
theorem KC {f g:?N}(h:∀ j,j<m->f j=g j):shR m f=shR m g:=by
 unfold shR;rw[kY fun j hj=>by rw[h j hj]]
def zW (E:?H)(k:Nat):?H:=fun i j=>
 if i=k then (if j=k then 0 else E k j / ?yM) else (if j=k then 0 else E i j+E i k*?qF)
def EK (E:?H):Nat->Nat->Nat->Rat
 |0=>E
 |k+1=>zW (EK E k) k
def kR (n m s:Nat)(E:?H):Prop:=∀ i j,i<n->j<m->0<=E i j/\Sz s (E i j)
theorem v9 {q:Rat}(h:q<1):0<1 - q:=by grind
theorem kR.step {n m s k:Nat}{E:?H}(h:kR n m s E)(hk:k<n)(hm:k<m)(h1:E k k<1):kR n m (4*s+3) (zW E k):=fun i j hi hj=>by
 have a:=h k k hk hm;have b:=h k j hk hj;have c:=h i j hi hj;have e:=h i k hi hm;have p:=v9 h1;have z:Sz (4*s+3) (0:Rat):=Uq.mono ?A;have g0:0<=E k j / (1 - E k k):=xx b.1 p;have gs:Sz (s+(1+s+1)) (E k j / (1 - E k k)):=rM b.2 (lm wX a.2) p;unfold zW;by_cases h1:i=k
 .rw[yc h1];by_cases h2:j=k
  .rw[yc h2];exact⟨?B,z⟩
  .rw[yd h2];exact⟨g0,gs.mono ?A⟩
 .rw[yd h1];by_cases h2:j=k
  .rw[yc h2];exact⟨?B,z⟩
  .rw[yd h2];exact⟨xX c.1 (Qo e.1 g0),(Bv c.2 (ZF e.2 gs)).mono ?A⟩
def Piv (n:Nat)(E:?H):Prop:=∀ k,k<n->EK E k k k<1
def sK (s:Nat):Nat->Nat
 |0=>s
 |k+1=>4*sK s k+3
theorem oj(h:j<=k):sK s j<=sK s k:=by
 induction k with
 |zero=>rw[Jq.mp h];exact yg _
 |succ k ih=>
  rcases Ql j (k+1) with h1|h1
  .have:=ih ?A;rw[sK];lia
  .rw[show j=k+1 by lia];exact yg _
theorem kR.at {E:?H}(h:kR n m s E)(hm:n<=m):∀ k,k<=n->(∀ j,j<k->EK E j j j<1)->kR n m (sK s k) (EK E k)
 |0,_,_=>h
 |k+1,hk,hp=>(kR.at h hm k ?A fun j hj=>hp j ?A).step ?A ?A (hp k ?A)
theorem cP {E:?H}:∀ k i j,j<k->EK E k i j=0
 |0,_,_,h=>by lia
 |k+1,i,j,h=>by
  rw[EK];unfold zW;by_cases h2:j=k
  .rw[yc h2,yc h2];simp
  .rw[yd h2,yd h2,cP k k j ?A,cP k i j ?A];split <;> grind
def Slv (n:Nat)(E:?H)(x:?N):Prop:=∀ i,i<n->x i=YV n (fun j=>E i j*x j)+E i n
theorem Slv.back {n k:Nat}{E:?H}{x:?N}(hk:k<n)(h1:E k k<1)(h:Slv n (zW E k) x):Slv n E x:=by
 have p:=v9 h1;have ne:1 - E k k≠0:=by grind
 have hn:¬ n=k:=by lia
 have row:∀ c:Nat->Rat,YV n (fun j=>(if j=k then 0 else c j)*x j)=YV n (fun j=>c j*x j) - c k*x k:=fun c=>by
  rw[←uX (f:=fun j=>c j*x j) hk];refine qc fun j _=>?_;by_cases hj:j=k
  .rw[yc hj,yc hj];grind
  .rw[yd hj,yd hj]
 have g:YV n (fun j=>E k j / ?yM*x j)=YV n (fun j=>E k j*x j) / (1 - E k k):=by
  have:YV n (fun j=>E k j / ?yM*x j)=YV n (fun j=>(1 / ?yM)*(E k j*x j)):=qc fun j _=>by grind
  rw[this,Vc];grind
 have hx:x k=YV n (fun j=>E k j*x j)+E k n:=by
  have e:=h k hk;have e1:(fun j=>zW E k k j*x j)=fun j=>(if j=k then 0 else E k j / ?yM)*x j:=by
   funext j;unfold zW;rw[yc rfl]
  have e2:zW E k k n=E k n / (1 - E k k):=by unfold zW;rw[yc rfl,yd hn]
  rw[e1,e2,row (fun j=>?qF),g] at e;grind
 intro i hi;by_cases hik:i=k
 .subst hik;exact hx
 .have e:=h i hi;have e1:(fun j=>zW E k i j*x j)=fun j=>(if j=k then 0 else E i j+E i k*?qF)*x j:=by
   funext j;unfold zW;rw[yd hik]
  have e2:zW E k i n=E i n+E i k*(E k n / (1 - E k k)):=by unfold zW;rw[yd hik,yd hn]
  have e3:YV n (fun j=>(E i j+E i k*?qF)*x j)=YV n (fun j=>E i j*x j)+E i k*(YV n (fun j=>E k j*x j) / (1 - E k k)):=by
   rw[←g,←Vc,←Zu];exact qc fun j _=>by grind
  rw[e1,e2,row (fun j=>E i j+E i k*?qF),e3] at e;grind
theorem Slv.all {E:?H}(hp:Piv n E):Slv n E fun i=>EK E n i n:=by
 have last:Slv n (EK E n) fun i=>EK E n i n:=fun i hi=>by
  rw[jO fun j hj=>by rw[cP n i j hj];grind];grind
 have go:∀ k,k<=n->Slv n (EK E (n - k)) fun i=>EK E n i n:=fun k=>by
  induction k with
  |zero=>intro _;exact last
  |succ k ih=>
   intro hk;have e:=ih ?A;rw[show n - k=(n - (k+1))+1 by lia,EK] at e;exact Slv.back ?A (hp _ ?A) e
 have:=go n ?AC
 rwa [Nat.sub_self] at this
theorem bu {E E':?H}(h:∀ i j,i<n->j<n->E i j=E' i j):∀ k,k<=n->∀ i j,i<n->j<n->EK E k i j=EK E' k i j
 |0,_,i,j,hi,hj=>h i j hi hj
 |k+1,hk,i,j,hi,hj=>by
  have ih:=bu h k ?A;rw[EK,EK];unfold zW;rw[ih k j (by lia) hj,ih k k ?A ?A,ih i j hi hj,ih i k hi ?A]
def nnR (m s:Nat)(f:?N):Prop:=∀ j,j<m->0<=f j/\Sz s (f j)
def oV:?G:=fun ds d=>∃ (m k:Nat) (f:Nat->Rat),ds=[shR m f,.int k]/\d=shR m (fun j=>if j=k then 0 else f j)/\k<m/\m<=10000
def oQ:?G:=fun ds d=>∃ (m k s:Nat) (f:Nat->Rat),ds=[shR m f,.int k]/\d=shR m (fun j=>if j=k then 0 else f j / (1 - f k))/\k<m/\m<=10000/\nnR m s f/\4*s+3<=big/\f k<1
def HS:?G:=fun ds d=>∃ (m k s:Nat) (f g:Nat->Rat),ds=[shR m f,.int k,shR m g]/\d=shR m (fun j=>if j=k then 0 else f j+f k*g j)/\k<m/\m<=10000/\nnR m s f/\nnR m (2*s+2) g/\4*s+3<=big/\g k=0
theorem Up(h:k<=n):HT.sIx n d (some (k:Int))=k:=by rw[HT.CP];lia
theorem WN {k:Nat}(h:k<=ds.length):vt ds none (some (k:Int))=ds.take k:=by
 unfold vt;rw[HT.dI,Up h];simp
theorem uD {k:Nat}(h:k<=ds.length):vt ds (some (k:Int)) none=ds.drop k:=by
 unfold vt;rw[HT.dI,Up h,List.take_of_length_le (by rw[Qx];lia)]
theorem Gq(h:k<m):(tb m f).take k++[x]++(tb m f).drop (k+1)=tb m fun j=>if j=k then x else f j:=by
 rw[←GC,List.set_eq_take_append_cons_drop,yc (by rw[Y1];exact h)];simp
theorem cj {m k:Nat}{f:Nat->D}(h:k<=m):vt (tb m f) none (some (k:Int))=(tb m f).take k:=WN (by rw[Y1];exact h)
theorem nG {m k:Nat}{f:Nat->D}(h:k+1<=m):vt (tb m f) (some ((k:Int)+1)) none=(tb m f).drop (k+1):=by
 rw[show((k:Int)+1)=((k+1:Nat):Int) by lia,uD (by rw[Y1];exact h)]
theorem Hf {m k:Nat}{f:?N}{x:Rat}:(tb m fun j=>if j=k then sh x else sh (f j))=tb m fun j=>sh (if j=k then x else f j):=kY fun j _=>by
 by_cases h:j=k
 .rw[yc h,yc h]
 .rw[yd h,yd h]
def gX (lo n:Nat):?AD:=tb n fun j=>.int ((lo+j:Nat):Int)
theorem jF {lo n:Nat}:(gX lo n).length=n:=Y1
theorem zu {lo n i:Nat}(h:(gX lo n)[i]?=some d):i<n/\d=.int ((lo+i:Nat):Int):=by
 have hi:=(?FE).1;rw[jF] at hi;unfold gX at h;rw[JU hi] at h;cases h;exact⟨hi,rfl⟩
theorem ah {lo n:Nat}:wW (lo:Int) n=gX lo n:=by
 unfold wW gX;refine kY fun j _=>?_;congr 1
theorem Vw {j:Int}{n:Nat}(hm:?qY)(hg:?jI)(ha:P3 X Γ a (.int j))(hj:j=(n:Int))(hn:n<2 ^ 62)(hs:?jV:=by rfl):I3 X Γ tg ?kN (gX 0 n):=by
 subst hj;have h:=BI (tg:=tg) (p:=p) (pos:=pos) hm hg ha ?A ?A hs;rw[qG,show(0:Int)=((0:Nat):Int) from rfl,ah] at h;exact h
theorem kZ {i j:Int}{lo n:Nat}(hm:?qY)(hg:?jI)(ha:?B2)(hb:?B0)(hi:i=(lo:Int))(hj:(?I).toNat=n)(hn:lo<2 ^ 61/\-(2 ^ 61)<=j/\j<2 ^ 61)
  (hs:?yY:=by rfl) (hs2:?qA:=by rfl):I3 X Γ tg (.Call (.Name "range" p) [a,b] [] pos) (gX lo n):=by
 subst hi hj;have h:=B7 (tg:=tg) (p:=p) (pos:=pos) hm hg ha hb ⟨?A,?A,?A,?A⟩ hs hs2;rw[ah] at h;exact h
section
theorem gN {nt:Nat}{R:?yK}
  (h:IV3 X B tg iter Γ Ω fun ds Ω1=>∃ J:Nat->List D->Om->Prop,J 0 [] Ω1/\?uE/\
   (∀ c i d gs Ω',ds[i]?=some d->J i gs Ω'->∃ Γ1,G3 ?Au tg ?DN d Γ1/\Sub ?DN Γ1/\∀ q:Addr×Ow,V3 ?Au B elt Γ1 (q::Ω') fun e Ω2=>∃ Ω3,Ω2.Perm (q::Ω3)/\J (i+1) (gs++[e]) Ω3)/\
   ∀ a gs Ω',J ds.length gs Ω'->R ?Bg ((a,?BN)::Ω'))
  (S0:?IU) (hQ:∀ v H',VR X.K B Γ F σ R v H'->Q v H') :
  nv nt caps (WI X tg iter) (fun c=>gW ?Au tg) nM (fun c=>WE ?Au elt) σ H Q:=by
 refine(h F σ H S0).mono fun Jt H1 ⟨ds,Ω1,F1,S1,p1,w,J,h0,hz,step,hd⟩ D hD c=>
  ⟨fun i m σ' ys H'=>i+m=ds.length/\∃ gs Ω' F',Yc F1 F'/\Sat X.K B (uV nt caps Γ) ((D,?BN)::Ω') F' σ' H'/\H' D=some (.lst ys)/\IsL X.K F' gs ys/\J i gs Ω',?_,?_⟩
 .refine⟨?GH,?A,[],Ω1,F1,?AH,?_,yT,?CG,h0⟩;exact(S1.new (Pur.layOwn S1.fh hD) hD (S1.fh.free hD) yT fun F2 e=>⟨[],rfl,?CG⟩).slots (Sl.cap S1.sl)
 .rintro i m σ' ys H' ⟨hm,gs,Ω',F',f',S',hH,il,j⟩;refine⟨hH,by rw[il.len];exact ?HN,?_⟩;obtain⟨w1,w2⟩:=w i F' H' f' S'.fh;cases z:ds[i]? with
  |none=>
   have hl:ds.length<=i:=yG.mp z;have e:i=ds.length:=by lia
   subst e;exact .inl ⟨w2 hl,hQ _ _ ⟨.raw (.ref D),_,F',?MH,p1.trans f',Vg F',hd D gs Ω' j⟩⟩
  |some d=>
   have hl:i<ds.length:=(yk.mp z).1;obtain⟨go,y⟩:=w1 d z;obtain⟨Γ1,⟨g,pg,gq⟩,sub,he⟩:=step c i d gs Ω' z j;refine .inr ⟨go,fun x H2 hy pins s u I2 r=>?_⟩;obtain⟨F2,p2,ix⟩:=y x H2 hy;refine pg pins s σ' H2 x u _ I2 r (gq F2 σ' H2 x _ p2.fh ix (S'.sl.mono p2.ff) I2.len fun σ3 sl3 _=>?_);unfold nM;dsimp only;rw[yc rfl];refine WE.mono (he (D,?BN) F2 σ3 H2 ((S'.pur p2).slots sl3)) fun v H5 ⟨e,Ω2,F5,S5,f5,iv,Ω3,pm,j5⟩=>?_;have S5':=S5.perm pm.symm;obtain⟨fD,o,hD5,ho⟩:=S5'.own (D,?BN) (by simp);obtain⟨ys',rfl,il'⟩:=ho F5 ?AH;refine⟨ys',hD5,by rw[il'.len];exact ?HN,m - 1,?A,?A,gs++[e],Ω3,F5,?ME,?_,yT,il'.append ?Gt,j5⟩;exact(S5'.turn fun F6 e6=>⟨_,rfl,(il'.mono e6).append ?LN⟩).slots (S5'.sl.sub sub)
theorem Dd {nt:Nat}{i:Nat}(S:?Cq)(hnd:?CC)(hix:X.N[i]?=some y)(hy:?JF)
  (h:IV3 X B tg iter Γ Ω fun ds Ω1=>∃ J:Nat->List D->Om->Prop,J 0 [] Ω1/\?uE/\
   (∀ c i d gs Ω',ds[i]?=some d->J i gs Ω'->∃ Γ1,G3 ?Au tg ?DN d Γ1/\Sub ?DN Γ1/\∀ q:Addr×Ow,V3 ?Au B elt Γ1 (q::Ω') fun e Ω2=>∃ Ω3,Ω2.Perm (q::Ω3)/\J (i+1) (gs++[e]) Ω3)/\
   ∀ a gs Ω',J ds.length gs Ω'->W3 X B rest (Γ.set i ?DE) ((a,?BN)::Ω') E)
  (hsw:swapsWith (.ListComp elt [⟨tg,iter,[],0⟩] sc pos) (some ?G1) spos.line X.env=pure true:=by rfl) (hc:?zB:=by rfl) (hX:?yQ:=by rfl) (hN:X.N=XN:=by rfl)
  (hs:∀ x,foldedSetIterable iter X.env x=pure x:=by intro _;rfl) (hf:?xU:=by first|exact .inl rfl|exact ?D7):W3 X B (.Assign [.Name y py] (.ListComp elt [⟨tg,iter,[],0⟩] sc pos) spos::rest) Γ Ω E:=fun F σ H S' pins s I=>by
 refine qm (ma S hnd hix hy Fp (fun c=>rg) (fun c=>aY (c:=c)) (fun c=>j6) hsw hc hX hN hs hf) Qb pins s σ H _ I (gN (R:=fun d Ω'=>W3 X B rest ?Fl Ω' E) (Q:=fun x H1=>X7 i x σ H1 ?DK) h S' ?_);rintro v H' ⟨d,Ω',F',S1,f1,iv,w⟩;exact qp f1 (w F' _ H' (S1.slots (Sl.set S1.sl (by rw[I.len];exact(yk.mp hix).1) iv)))
end
theorem BH:tb (n+1) f=f 0::tb n fun i=>f (i+1):=by
 unfold tb;rw[List.range_succ_eq_map,yD,qd];rfl
theorem AV {Ω:Om}(nd:(Ω.map ?C).Nodup):∀ {a:Addr} {w w':Ow},(a,w)∈Ω->(a,w')∈Ω->w=w':=by
 induction Ω with
 |nil=>intro a w w' h;cases h
 |cons r Ω ih=>
  intro a w w' h h';rw[yD,yR] at nd;rcases yB.mp h with z|z
  .rcases yB.mp h' with z' | z'
   .rw[←z] at z';injection z' with _ e;exact e.symm
   .exact absurd (yA.mpr ⟨(a,w'),z',by rw[←z]⟩) nd.1
  .rcases yB.mp h' with z' | z'
   .exact absurd (yA.mpr ⟨(a,w),z,by rw[←z']⟩) nd.1
   .exact ih nd.2 z z'
def spD (K:?A0)(n:Nat)(C0:?zL)(C:?G):Sp:=fun vs H Q _=>∃ (a:Addr) (us:List V) (ds:List D) (F:Hp) (x:Int),vs=.ref a::us/\ds.length+1=n/\Yc F H/\F a=none/\H a=some (.lst [.int x])/\0<=x/\x<2147483647/\IsL K F ds us/\C0 ds/\
 ∀ d,C ds d->∀ (v:V) (H' F':Hp) (x':Int),Yc F F'->Yc F' H'->(∀ b o,b≠a->H b=some o->H' b=some o)->?kG->F' a=none->H' a=some (.lst [.int x'])->0<=x'->x'<2147483647->Is K F' d v->Q v H'
theorem spD.len {K:?A0}{n:Nat}{C0:?zL}{C:?G}{vs:?AL}{H:Hp}{Q:VK}{E:XK}(h:spD K n C0 C vs H Q E):vs.length=n:=by
 obtain⟨a,us,ds,F,x,rfl,l,_,_,_,_,_,i,_⟩:=h;rw[yi,i.len,l]
section
variable {P:?AA}{w:?A9}{K:?A0}{mg:?J}{base:Heap}{x:Str}{st:Stmt}{N ps:?A1}{k n:Nat}
theorem fj {C0:?zL}{C:?G}(d:?F2)(S:?BW)(hn:?qQ)
  (body:∀ (f:Addr) (cdv:Value) (A:Around) (outer:List Env) (s:Shared) (H:Hp) (E:XK),Room k ?FV->∀ (a:Addr) (ds:List D),C0 ds->∀ B:Bs,
   W3 ?GW B ?Ar (jD N (.raw ?AI::ds)) [(a,Zq)] ⟨fun _ _=>?AB,fun r Ω=>C ds r/\Ω=[(a,Zq)],fun _ _=>?AB,fun _ _=>?AB⟩) :
  OkF P w K mg base CX0 (k+1) x ps (spD K n C0 C):=by
 refine d.ok S (fun vs H Q E h=>(spD.len h).trans hn.symm) fun f cdv A outer s H vs Q E hr h=>?DS
 obtain⟨a,us,ds,F,x0,rfl,hl,fh,fa,ha,b1,b2,il,c0,q⟩:=h;have il':IsL K F (.raw (.ref a)::ds) (.ref a::us):=IsL.cons (Vg F) il;have S0:Sat K ⟨[a],F,H⟩ (jD N (.raw (.ref a)::ds)) [(a,Zq)] F (L2.start N (.ref a::us)) H:=by
  refine ?xQ
  .rw[yE.mp hp];exact .inl (by simp)
  .rw[yE.mp hp];exact⟨fa,_,ha,fun _ _=>⟨x0,rfl,b1,b2⟩⟩
 refine Qa (D:=E3.to K ?wQ F ⟨fun _ _=>?AB,fun r Ω=>C ds r/\Ω=[(a,Zq)],fun _ _=>?AB,fun _ _=>?AB⟩) (D':={nx:=fun _ H'=>?Ay,rt:=Q}) ?_ ?_ ?_ ?_ (body f cdv A outer s H E hr a ds c0 ?wQ F _ H S0)
 .rintro σ' H' ⟨_,_,_,_,_,z⟩;exact ?AQ
 .rintro v H' ⟨r,Ω',F',⟨σ',S'⟩,f',iv,hC,rfl⟩;obtain⟨fa',o',ha',ho⟩:=S'.own (a,Zq) (by simp);obtain⟨x',rfl,c1,c2⟩:=ho F' ?AH;refine q r hC v H' F' x' S'.f0 S'.fh ?uB ?jO fa' ha' c1 c2 iv;rcases S'.fr b hb with z|z|z
  .exact ?Ap
  .exact ?BR
  .have e:b=a:=by simpa using z
   subst e;exact ?Jt
 .rintro σ' H' ⟨_,_,_,_,_,z⟩;exact ?AQ
 .rintro σ' H' ⟨_,_,_,_,_,z⟩;exact ?AQ
end
theorem m9 {k n:Nat}{C0:?zL}{C:?G}{R:?yK}(o:OkF X.prog X.w X.K X.mg X.base CX0 k x ps (spD X.K n C0 C))(hr:?Aw)(hg:?Af)(ha:P3 X Γ a ?Ak)(hm:(l,Zq)∈Ω)
  (h:VL3 X B es Γ Ω fun ds Ω1=>Ω1=Ω/\ds.length+1=n/\C0 ds/\∀ d,C ds d->R d Ω) (hdb:?L:=by decide)
  (he:starEach (a::es) X.env=?qZ::starEach es X.env:=by rfl) (hpl:?zD:=by rfl):V3 X B (.Call ?GJ (a::es) [] pos) Γ Ω R:=fun F σ H S pins s I=>
 xZ o hr hg (vx ha Ea he) hdb he hpl pins s σ H _ I ⟨F,S.fh,S.sl,fun v H1 F1 p1 i1=>(?IW).mono fun us H2 ⟨ds,Ω2,F2,S2,f2,il,e2,hn,c0,q⟩=>by
  dsimp only;rw[Yq];subst e2;cases isR i1;obtain⟨fa,o',ha',ho⟩:=S2.own _ hm;obtain⟨x0,rfl,b1,b2⟩:=ho F2 ?AH;refine⟨l,us,ds,F2,x0,rfl,hn,S2.fh,fa,ha',b1,b2,il,c0,fun d hd v H' F' x' g1 g2 g3 g4 g5 g6 g7 g8 iv=>⟨d,Ω2,F',?_,p1.ff.trans (f2.trans g1),iv,q d hd⟩⟩;have od:=S2.od _ hm;refine⟨S2.f0.trans g1,g2,fun b hb=>?_,fun b o hb e=>?_,S2.nd,S2.od,fun r hr=>?_,S2.sl.mono g1⟩
  .rcases g4 b hb with z|z
   .exact S2.fr b z
   .exact(S2.freeB z).elim (fun w=>?Jr) fun w=>.inr (.inr w)
  .by_cases hbl:b=l
   .subst hbl;rcases od with z|z
    .exact absurd z hb
    .have z':B.H b=none:=z;rw[z'] at e;cases e
   .exact g3 b o hbl (S2.kp b o hb e)
  .obtain⟨h1,o2,h2,h3⟩:=S2.own r hr;by_cases hrl:r.1=l
   .have er:r=(l,Zq):=by
     obtain⟨r1,r2⟩:=r;dsimp only at hrl;subst hrl;have:=AV S2.nd hr hm;rw[this]
    subst er;exact⟨g5,_,g6,fun _ _=>⟨x',rfl,g7,g8⟩⟩
   .refine⟨?_,o2,g3 _ _ hrl h2,fun F3 e3=>h3 F3 (g1.trans e3)⟩;cases zz:F' r.1 with
    |none=>rfl
    |some u=>
     rcases g4 r.1 (by rw[zz];simp) with z|z
     .exact absurd h1 z
     .rw[h2] at z;cases z⟩
end L3
namespace L2
open PySem PySem.Spec PySem.Calls PyProof.Rows
section
theorem aH:OpR X (compareOp .LtE) (fun x y H Q=>∃ i j,x=.str i/\y=.str j/\Q (.bl (!decide (j.cps.toList<i.cps.toList))) H):=by
 rintro pins s σ H x y v u Q I rx ry ⟨i,j,rfl,rfl,q⟩;obtain⟨t1,rfl⟩:=rx;obtain⟨t2,rfl⟩:=ry;exact PySem.P.le_str (qS I q rfl)
def Its (x:Str):It:=⟨fun i _=>i<x.cps.size,fun i H v H'=>H'=H/\∃ c,x.cps[i]?=some c/\v=.str ⟨#[c]⟩,fun i _=>x.cps.size<=i⟩
theorem B3 {P:?AA}{w:?A9}{K:?A0}{tg:Expr}(x:Str)(tk:Tok)(it:Addr):Turn P w K tg (Its x) [it] it (fun i h=>h.IsStrIter it "str_ascii_iterator" x tk i) where
 mem:=by simp
 obj:=fun i h st b hb=>by
  obtain⟨o,e1,c1,d1⟩:=st;rw[yE.mp hb];exact⟨o,e1,fun v z=>by rw[d1] at z;cases z⟩
 keep:=fun i h h' ⟨o,e1,r1⟩ k=>⟨o,k it (by simp) o e1,r1⟩
 item:=by
  intro X hP hw hK hc i pins s σ H E I hf st hg;subst hP hw hK;obtain⟨f0,f1,f2,f3,f4,f5⟩:=hf it (by simp);have hi:i<x.cps.size:=hg;have hx:x.cps[i]?=some x.cps[i]:=Array.getElem?_eq_getElem hi;refine wpAny_pyNext_ascii_item st hx fun h' st' sb=>?_;have I1:Inv X pins σ H {s with heap:=h',toks:=?yC}:=I.turned ?kP f0 f1 f3 f4 f5;obtain⟨o,e1,c1,d1⟩:=id st';exact⟨_,rfl,lU (s:={s with heap:=h',toks:=?yC}) e1 c1 d1 ?B ⟨.str ⟨#[x.cps[i]]⟩,H,I1,?Bt,⟨rfl,_,hx,rfl⟩,st',fun b hb=>?qP⟩⟩
 done:=by
  intro X hP hw hK hc i pins s σ H E I hf st hg;subst hP hw hK;obtain⟨f0,f1,f2,f3,f4,f5⟩:=hf it (by simp);have hi:x.cps.size<=i:=hg;exact wpAny_pyNext_ascii_end ?CB st (Array.getElem?_eq_none_iff.mpr hi) fun h' eb=>?wT
 self:=fun _ _ _ _ _ st h=>wpAny_pyIter_striter_ascii st h
def LC (tl:TE):TI:=fun σ H R=>tl σ H fun v H1=>∃ x:Str,v=.str x/\x.cps.all (·<128)=true/\R (Its x) H1
theorem G8 {tl:TE}(hl:PE X l tl):PI X tg l (LC tl):=by
 intro pins s σ H R I h;refine thn ?Gi fun v s1 ⟨y,H1,I1,r1,x,e1,ha,q⟩=>?_;subst e1;obtain⟨tk,rfl⟩:=r1;refine wpAny_pyIter_ascii ha ⟨?Gx,[s1.heap.objs.size],_,_,H1,rfl,I1.kept (t':=?EH) fun b o e=>?At,B3 x tk _,?ER,fun b hb=>?_,q⟩;rw[yE.mp hb];exact ?FS
theorem oI {bs:List Bool}{us:?AY}(r:qj (bs.map V.bl) us)(i:Nat)(v:?AJ)(h:us.toArray[i]?=some v):v=.bool ?DJ:=by
 have hl:=r.length;rw[yf] at hl;have h':us[i]?=some v:=by simpa using h
 have hi:i<bs.length:=by rw[hl];exact(yk.mp h').1
 have e1:(bs.map V.bl)[i]?=some (V.bl bs[i]):=by rw[yC,yj hi];rfl
 obtain⟨u,hu,ru⟩:=r.get e1;rw[h'] at hu;cases hu;rw[yv,yj hi];exact ru
theorem aU (bs:List Bool):(?FZ).map (fun i=>?DJ)=bs:=by
 refine Qj fun i=>?_;rw[yC];by_cases hi:i<bs.length
 .rw[jk hi,yj hi];simp[yv,yj hi]
 .rw[yG.mpr (by simpa using hi),yG.mpr ?A];rfl
theorem pe (hc:?zB):Ve X (.builtin "all") (fun xs H Q=>∃ (a:Addr) (bs:List Bool),xs=[.ref a]/\SqL X.K H a (bs.map V.bl)/\Q ?JW H):=by
 rintro pins s σ H xs us Q I r ⟨a,bs,rfl,hl,q⟩;obtain⟨u,rfl,rx⟩:=uK r;cases rx;obtain⟨its,rv,p,_⟩:=I.list hl;have hz:its.toArray.size=bs.length:=by have:=rv.length;rw[yf] at this;simpa using this.symm
 refine call_all_walk (wpAny_pyIter_list p.isList ⟨?C8,_,_,_,_,_,fun i=>?DJ,rfl,Walks.list (show X.A.in1.handled=none from I.ok.hd hc) s.heap.objs.size a (Yb (let ⟨_,e,_⟩:=p.isList;yn e)) its.toArray,⟨?ER,p.isList.at fun o e=>?At⟩,?_,?_⟩)
 .intro i v s' Q' E' hv hq;rw[oI rv i v hv];exact YS hq
 .intro h' tk hk;refine⟨?JW,H,I.kept fun b o e=>hk b o (fun z=>absurd (yn e) (by rw[yE.mp z];exact jj _)) ?At,?_,q⟩;show Value.bool _=Value.bool _;rw[hz,show(?FZ).all (fun i=>?DJ)=((?FZ).map fun i=>?DJ).all id by rw[List.all_map];rfl,aU]
theorem pN (hc:?zB):Ve X (.builtin "any") (fun xs H Q=>∃ (a:Addr) (bs:List Bool),xs=[.ref a]/\SqL X.K H a (bs.map V.bl)/\Q ?JV H):=by
 rintro pins s σ H xs us Q I r ⟨a,bs,rfl,hl,q⟩;obtain⟨u,rfl,rx⟩:=uK r;cases rx;obtain⟨its,rv,p,_⟩:=I.list hl;have hz:its.toArray.size=bs.length:=by have:=rv.length;rw[yf] at this;simpa using this.symm
 refine call_any_walk (wpAny_pyIter_list p.isList ⟨?C8,_,_,_,_,_,fun i=>?DJ,rfl,Walks.list (show X.A.in1.handled=none from I.ok.hd hc) s.heap.objs.size a (Yb (let ⟨_,e,_⟩:=p.isList;yn e)) its.toArray,⟨?ER,p.isList.at fun o e=>?At⟩,?_,?_⟩)
 .intro i v s' Q' E' hv hq;rw[oI rv i v hv];exact YS hq
 .intro h' tk hk;refine⟨?JV,H,I.kept fun b o e=>hk b o (fun z=>absurd (yn e) (by rw[yE.mp z];exact jj _)) ?At,?_,q⟩;show Value.bool _=Value.bool _;rw[hz,show(?FZ).any (fun i=>?DJ)=((?FZ).map fun i=>?DJ).any id by rw[List.any_map];rfl,aU]
end
end L2
namespace L3
open PySem PySem.Spec PySem.Calls PyProof.Rows L2
theorem IsL.of_bls {K:?A0}{H:Hp}:∀ {bs:List Bool} {xs:List V},IsL K H (bs.map D.bl) xs->xs=bs.map V.bl
 |[],_,h=>by simp only[Q6,IsL] at h;subst h;rfl
 |n::ns,_,h=>by
  simp only[yD,IsL] at h;obtain⟨x,r,rfl,h1,h2⟩:=h;simp only[Is] at h1;rw[h1,IsL.of_bls h2];rfl
def W8 (x:Str):?AD:=x.cps.toList.map fun c=>D.str ?zS
def leS (i j:Str):Bool:=!decide (j.cps.toList<i.cps.toList)
theorem GL:bootBuiltins "all" = some (.builtin "all"):=by decide +kernel
theorem FQ:bootBuiltins "any" = some (.builtin "any"):=by decide +kernel
section
variable {X:Cx}{Γ:Ga}{tg a b c:Expr}{pos p:Pos}{x y z:Str}{bs:List Bool}
theorem FD (h:?Fd)(ha:x.cps.all (·<128)=true):I3 X Γ tg a (W8 x):=PI.of (G8 h) fun σ H R ⟨F,fh,sl,q⟩=>⟨F,fh,sl,fun v H' F' p i=>by
 refine⟨x,isS i,ha,q _ H' F' p fun n F2 H2 e1 e2=>?kX⟩
 .unfold W8 at w;rw[yC] at w;obtain⟨c,hc,rfl⟩:=Yt.mp w;rw[Array.getElem?_toList] at hc;have hi:n<x.cps.size:=(Array.getElem?_eq_some_iff.mp hc).1;refine⟨hi,?_⟩;rintro v' H3 ⟨rfl,c',hc',rfl⟩;rw[hc] at hc';cases hc';exact⟨F2,?G4,fu F2⟩
 .unfold W8 at w;rw[yf,Array.length_toList] at w;exact w⟩
theorem fZ (ha:?Fd)(hb:P3 X Γ b (.str y))(hc:P3 X Γ c (.str z))(hm:lastMarks [.LtE,.LtE] [b,c]=false:=by with_unfolding_all rfl):P3 X Γ (.Compare a [.LtE,.LtE] [b,c] pos) (.bl (leS x y&&leS y z)):=
 PE.of (dJ aH aH ha hb hc hm) fun σ H Q ⟨F,fh,sl,k⟩=>⟨F,fh,sl,fun v1 H1 F1 p1 i1=>⟨F1,?BF,?C3,fun v2 H2 F2 p2 i2=>⟨x,y,isS i1,isS i2,leS x y,rfl,by
  cases q:leS x y with
  |true=>
   rw[yc rfl];exact⟨F2,p2.fh,?GT,fun v3 H3 F3 p3 i3=>⟨y,z,isS i2,isS i3,k _ _ _ ((?Bl).trans p3) (by rw[q];exact Uw F3)⟩⟩
  |false=>
   rw[yd yN];exact k _ _ _ ?Bl (by rw[q];exact Uw F2)⟩⟩⟩
theorem EG (hk:?zB)(hm:X.mg "all" = none)(hg:Gl X "all")(ha:?LG)(he:?zW:=by rfl):P3 X Γ (.Call (.Name "all" p) [a] [] pos) ?JW:=
 vC (pe hk) hg hm GL ?CR (fun vs H F Q fh i k=>by
  obtain⟨v,rfl,j0⟩:=wn i;obtain⟨l,xs,rfl,s1,j1⟩:=zy j0;cases IsL.of_bls j1;exact ?Ki) ?B ?B he
theorem Ir (hk:?zB)(hm:X.mg "any" = none)(hg:Gl X "any")(ha:?LG)(he:?zW:=by rfl):P3 X Γ (.Call (.Name "any" p) [a] [] pos) ?JV:=
 vC (pN hk) hg hm FQ ?CR (fun vs H F Q fh i k=>by
  obtain⟨v,rfl,j0⟩:=wn i;obtain⟨l,xs,rfl,s1,j1⟩:=zy j0;cases IsL.of_bls j1;exact ?Ki) ?B ?B he
end
def Z6 (L:Bool):HO->Bool
 |.lst _=>!L
 |.ins _ _ _=>true
 |.ext _=>true
 |.dK _=>true
 |.dT _=>true
 |_=>false
def fY (L:Bool)(Ω:Om):Prop:=∀ q∈Ω,∀ F o,q.2 F o->Z6 L o=true
theorem kI:fY L []:=fun q hq=>absurd hq (by simp)
theorem jE(h:∀ F o,w F o->Z6 L o=true)(t:fY L Ω):fY L ((a,w)::Ω):=fun q hq=>by
 rcases yB.mp hq with z|z
 .subst z;exact h
 .exact t q z
theorem fg {K:?A0}{ds:?AD}:∀ F o,QO K ds F o->Z6 false o=true:=fun F o ⟨xs,e,_⟩=>by subst e;rfl
def nW (K:?A0)(w:Ow)(d:D):Prop:=∀ (F F':Hp) (a:Addr) (o:HO),Yc F F'->F' a=some o->w F o->Is K F' d ?AI
theorem UD {K:?A0}{ds:?AD}:nW K (QO K ds) ?Bq:=fun F F' a o e ha ⟨xs,ho,il⟩=>by
 subst ho;exact Is.lstI (.inl ha) (il.mono e)
def iI (K:?A0)(Ω:Om)(Γ Γ':Ga):Prop:=∀ (i:Nat) (d:D),Γ'[i]?=some ?De->Γ[i]?=some ?De∨∃ a w,Γ[i]?=some ?DE/\(a,w)∈Ω/\nW K w d
theorem Q0 {K:?A0}{Ω:Om}{Γ:Ga}:iI K Ω Γ Γ:=fun i d h=>.inl h
theorem ZB {K:?A0}{Ω:Om}{Γ Γ':Ga}{i:Nat}{a:Addr}{w:Ow}{d:D}(h:?JX)(hi:Γ[i]?=some ?DE)(hm:(a,w)∈Ω)(hl:nW K w d):iI K Ω Γ (Γ'.set i ?De):=fun j e q=>by
 rw[qQ] at q;by_cases hj:i=j
 .rw[yc hj] at q;split at q
  .cases q;exact .inr ⟨a,w,hj▸hi,hm,hl⟩
  .cases q
 .rw[yd hj] at q;exact h j e q
def VH (Ω:Om)(F H:Hp):Hp:=fun b=>if b∈Ω.map ?C then H b else F b
def K7 (Ω:Om)(F:Hp):Hp:=fun b=>if b∈Ω.map ?C then none else F b
mutual
noncomputable def j7 (L:Bool):D->Bool
 |.non=>true
 |.bl _=>true
 |.int _=>true
 |.str _=>true
 |.tup ds=>jv L ds
 |.lst ds=>L&&jv L ds
 |.dk _ ds=>jv L ds
 |_=>false
noncomputable def jv (L:Bool):List D->Bool
 |[]=>true
 |d::ds=>j7 L d&&jv L ds
end
section
variable {L:Bool}{K:?A0}{B:Bs}{Γ Γ':Ga}{Ω:Om}{F F1:Hp}{σ:?An}{H H1:Hp}
theorem Sat.notin (S:?BJ)(e:F b=some u):b∉Ω.map ?C:=fun z=>by
 obtain⟨q,hq,rfl⟩:=yA.mp z;rw[(S.own q hq).1] at e;cases e
theorem Sat.addSame (S:?BJ):Yc F ?CW:=fun b u e=>by
 unfold VH;rw[yd (S.notin e)];exact e
theorem Sat.addSub (S:?BJ):Yc ?CW H:=fun b u e=>by
 unfold VH at e;split at e
 .exact e
 .exact S.fh _ _ e
theorem Sat.lent (S:?BJ)(h:?JX):Sl K ?CW Γ' σ:=fun i d q=>by
 rcases h i d q with z|⟨a,w,z,m,l⟩
 .obtain⟨v,h1,h2⟩:=S.sl i d z;exact⟨v,h1,h2.mono S.addSame⟩
 .obtain⟨v,h1,h2⟩:=S.sl i _ z;cases isR h2;obtain⟨fa,o,ha,ho⟩:=S.own (a,w) m;refine⟨_,h1,l F _ a o S.addSame ?_ (ho F ?AH)⟩;unfold VH;rw[yc (yA.mpr ⟨(a,w),m,rfl⟩)];exact ha
theorem Sat.back (S:?BJ)(p:Pur ?CW H F1 H1):Pur F H (K7 Ω F1) H1:=by
 refine⟨fun b u e=>?_,fun b u e=>?_,p.hh,fun b q=>?_⟩
 .unfold K7;rw[yd (S.notin e)];exact p.ff _ _ (S.addSame _ _ e)
 .unfold K7 at e;split at e
  .cases e
  .exact p.fh _ _ e
 .unfold K7 at q;split at q
  .exact absurd rfl q
  .rename_i hn;rcases p.new b q with z|z
   .unfold VH at z;rw[yd hn] at z;exact ?Ap
   .exact ?BR
mutual
theorem lb (hh:∀ b∈Ω.map ?C,∀ o,F1 b=some o->Z6 L o=true):∀ {d:D} {v:V},j7 L d=true->Is K F1 d v->Is K (K7 Ω F1) d v
 |.non,v,_,h=>by simp only[Is] at h ⊢;exact h
 |.bl _,v,_,h=>by simp only[Is] at h ⊢;exact h
 |.int _,v,_,h=>by simp only[Is] at h ⊢;exact h
 |.str _,v,_,h=>by simp only[Is] at h ⊢;exact h
 |.tup ds,v,hs,h=>by
  rw[j7] at hs;obtain⟨a,xs,rfl,h1,h2⟩:=isT h;refine Is.tupI ?_ (Wo hh hs h2);have keep:∀ o,F1 a=some o->Z6 L o=false->K7 Ω F1 a=some o:=fun o e n=>by
   unfold K7;rw[yd fun z=>by rw[hh a z o e] at n;cases n];exact e
  rcases h1 with (h1|⟨o,h1⟩)|h1
  .exact .inl (.inl (keep _ h1 rfl))
  .exact .inl ?Ld
  .exact .inr h1
 |.raw _,_,h,_=>by simp[j7] at h
 |.lst ds,v,hs,h=>by
  rw[j7,Yg] at hs;obtain⟨a,xs,rfl,h1,h2⟩:=ig h;refine Is.lstI ?_ (Wo hh hs.2 h2);have keep:∀ o,F1 a=some o->Z6 L o=false->K7 Ω F1 a=some o:=fun o e n=>by
   unfold K7;rw[yd fun z=>by rw[hh a z o e] at n;cases n];exact e
  rcases h1 with h1|⟨o,h1⟩
  .exact .inl (keep _ h1 (by rw[hs.1];rfl))
  .exact ?Ld
 |.dk ks ds,v,hs,h=>by
  rw[j7] at hs;simp only[Is] at h ⊢;obtain⟨a,xs,o,e1,e2,e3,e4⟩:=h;refine⟨a,xs,o,e1,?_,e3,Wo hh hs e4⟩;unfold K7;rw[yd fun z=>by have:=hh a z _ e2;cases this];exact e2
 |.dt _ _,_,h,_=>by simp[j7] at h
 |.obj _ _ _,_,h,_=>by simp[j7] at h
 |.exc _,_,h,_=>by simp[j7] at h
 |.scr _,_,h,_=>by simp[j7] at h
theorem Wo (hh:∀ b∈Ω.map ?C,∀ o,F1 b=some o->Z6 L o=true):∀ {ds:List D} {xs:List V},jv L ds=true->IsL K F1 ds xs->IsL K (K7 Ω F1) ds xs
 |[],xs,_,h=>by simp only[IsL] at h ⊢;exact h
 |d::ds,xs,hs,h=>by
  rw[jv,Yg] at hs;simp only[IsL] at h ⊢;obtain⟨x,r,e,h1,h2⟩:=h;exact⟨x,r,e,lb hh hs.1 h1,Wo hh hs.2 h2⟩
end
theorem Sat.hard (S:?BJ)(hd:fY L Ω)(p:Pur ?CW H F1 H1):∀ b∈Ω.map ?C,∀ o,F1 b=some o->Z6 L o=true:=fun b hb o e=>by
 obtain⟨q,hq,rfl⟩:=yA.mp hb;obtain⟨_,o',h1,h2⟩:=S.own q hq;have e1:=p.fh _ _ e;rw[p.hh _ _ h1] at e1;cases e1;exact hd q hq F _ (h2 F ?AH)
end
section
theorem U4 (h:P3 X Γ' e d)(hl:iI X.K Ω Γ Γ')(hd:fY L Ω)(hs:j7 L d=true)(r:R d Ω):?Dr:=fun F σ H S=>
 h.we ⟨?CW,S.addSub,S.lent hl,fun v H' F' p i=>⟨d,Ω,K7 Ω F',?H3,(?GK).ff,lb (S.hard hd p) hs i,r⟩⟩
theorem mV (h:PT3 X Γ' e k)(hl:iI X.K Ω Γ Γ')(r:RT k Ω):?Ix:=fun F σ H S=>
 h.wt ⟨?CW,S.addSub,S.lent hl,fun H' F' p=>⟨Ω,K7 Ω F',?H3,(?GK).ff,r⟩⟩
end
end L3
namespace L2
open PySem PySem.Spec PySem.Calls PyProof.Rows
def Y5 (K:?A0)(C:Addr)(m q:Str)(st:Stmt)(ps:?A1):Prop:=∃ f fd,Fun K m q st f fd/\Meth K C m f/\vf K fd ps []
def OkM (P:?AA)(w:?A9)(K:?A0)(mg:?J)(base:Heap)(CX:CXT)(k:Nat)(C:Addr)(m:Str)(ps:?A1)(sp:Sp):Prop:=∃ f fd,FnOk P w K mg base CX k f fd ps sp/\Meth K C m f/\vf K fd ps []
def vz (K:?A0)(mg:?J)(x:Str)(C:Addr)(q:Str)(st:Stmt)(ps:?A1):Prop:=∃ f fd,Fun K "__init__" q st f fd/\Mk K C f/\mg x=some ?AM/\vf K fd ps []
def OkI (P:?AA)(w:?A9)(K:?A0)(mg:?J)(base:Heap)(CX:CXT)(k:Nat)(x:Str)(C:Addr)(ps:?A1)(sp:Sp):Prop:=∃ f fd,FnOk P w K mg base CX k f fd ps sp/\Mk K C f/\mg x=some ?AM/\vf K fd ps []
theorem jp {K:?A0}{C:Addr}{m q:Str}{st:Stmt}(ps:?A1){f:Addr}{oc:?AJ}{od an:?Es}{osl:?EY}{kV doc pm cdv ct:?AJ}
  (a:W.findIn K ?AM m=some ?DU) (i:W.isFn K ?Am=true) (l:K.lookup f=some ⟨oc,od,.func ?KP,osl⟩)
  (c:W.codeIn K cdv q=true) (k:?vL)
  (hb:∀ (kV doc pm:Value) (an:Option Addr) (cdv ct:Value) (us:List Value),us.length=ps.length->bindArgs ?KP ?jP=pure ?DX):Y5 K C m q st ps:=
 have F:=bI (st:=st) l c k
 ⟨f,_,F,⟨a,i,k⟩,F.binds hb⟩
theorem cy {K:?A0}{h:Heap}{mg:?J}(X:K.In h)(G:?JB){x:Str}{C:Addr}{q:Str}{st:Stmt}(ps:?A1){f:Addr}{oc:?AJ}{od an:?Es}{osl:?EY}{kV doc pm cdv ct:?AJ}
  (g:W.nsIn K mainGlobals x=some (some ?AM)) (a:W.findIn K ?AM "__init__" = some ?DU) (mk:W.makesIn K C=true) (i:W.isFn K ?Am=true) (kc:W.keepIn K ?AM=true)
  (l:K.lookup f=some ⟨oc,od,.func (W.fnOf "__init__" q (Jj st) ?Ar ?BI .none kV doc pm an cdv ct),osl⟩)
  (c:W.codeIn K cdv q=true) (k:?vL)
  (hb:∀ (kV doc pm:Value) (an:Option Addr) (cdv ct:Value) (us:List Value),us.length=ps.length->bindArgs (W.fnOf "__init__" q (Jj st) ?Ar ?BI .none kV doc pm an cdv ct) ?jP=pure ?DX):vz K mg x C q st ps:=
 have F:=bI (st:=st) l c k
 ⟨f,_,F,⟨mk,a,i,kc⟩,W.mg_of X G g,F.binds hb⟩
section
variable {P:?AA}{w:?A9}{K:?A0}{mg:?J}{base:Heap}{C:Addr}{m q x:Str}{st:Stmt}{N ps:?A1}{k:Nat}{sp:Sp}
theorem Y5.ok (d:Y5 K C m q st ps)(S:?BW)(len:∀ vs H Q E,?wV)
  (hbody:∀ (f:Addr) (cdv:Value) (A:Around) (outer:List Env) (s:Shared) (H:Hp) (vs:List V) (Q:VK) (E:XK),Room k ?Dj->sp vs H Q E->
   ∃ t,PSs (?Ka).nox ?Ar t/\t {nx:=fun _ H'=>?Ay,rt:=Q} ?E7 H):OkM P w K mg base CX0 (k+1) C m ps sp:=by
 obtain⟨f,fd,F,hm,b⟩:=d;exact⟨f,fd,F.ok S len fun cdv A outer s H vs Q E hr h=>?I4,hm,b⟩
theorem vz.ok (d:vz K mg x C q st ps)(S:?BW)(len:∀ vs H Q E,?wV)
  (hbody:∀ (f:Addr) (cdv:Value) (A:Around) (outer:List Env) (s:Shared) (H:Hp) (vs:List V) (Q:VK) (E:XK),Room k ?Dj->sp vs H Q E->
   ∃ t,PSs (?Ka).nox ?Ar t/\t {nx:=fun _ H'=>?Ay,rt:=Q} ?E7 H):OkI P w K mg base CX0 (k+1) x C ps sp:=by
 obtain⟨f,fd,F,hm,g,b⟩:=d;exact⟨f,fd,F.ok S len fun cdv A outer s H vs Q E hr h=>?I4,hm,g,b⟩
end
theorem fL:∀ {fs:List (Str×V)},(∀ p∈fs,p.1≠f)->kC f v fs=fs++[(f,v)]
 |[],_=>rfl
 | (g,x)::r,h=>by
  rw[kC,yd (h (g,x) (by simp)),fL fun p hp=>h p (ye _ hp)];rfl
end L2
namespace L3
open PySem PySem.Spec PySem.Calls PyProof.Rows L2
def JW (K:?A0)(C:Addr)(fs:?A1)(ds:?AD):Ow:=fun F o=>∃ dx xs,o=.ins C dx ?F7/\fs.length=xs.length/\IsL K F ds xs
theorem kH {K:?A0}{C:Addr}{fs:?A1}{ds:?AD}{L:Bool}:∀ F o,JW K C fs ds F o->Z6 L o=true:=fun F o ⟨dx,xs,e,_⟩=>by subst e;rfl
theorem Vj {K:?A0}{C:Addr}{fs:?A1}{ds:?AD}:nW K ?En (.obj C fs ds):=fun F F' a o e ha ⟨dx,xs,ho,hl,il⟩=>by
 subst ho;simp only[Is];exact⟨a,dx,xs,rfl,ha,hl,il.mono e⟩
theorem isO {K:?A0}{F:Hp}{C:Addr}{fs:?A1}{ds:?AD}{v:V}(h:Is K F (.obj C fs ds) v):∃ a dx xs,v=.ref a/\F a=some (.ins C dx ?F7)/\fs.length=xs.length/\IsL K F ds xs:=by simpa only[Is] using h
theorem lq {K:?A0}{F:Hp}{f:Str}{d:D}:∀ {fs:List Str} {ds:List D} {xs:List V},IsL K F ds xs->(fs.zip ds).lookup f=some d->∃ x,(?F7).lookup f=some x/\Is K F d x
 |[],_,_,_,h=>by simp at h
 |g::fs,[],_,_,h=>by simp at h
 |g::fs,e::ds,xs,il,h=>by
  simp only[IsL] at il;obtain⟨x,r,rfl,i1,i2⟩:=il;rw[yU,YB] at h ⊢;cases q:f==g with
  |true=>rw[q] at h;cases h;exact⟨x,rfl,i1⟩
  |false=>rw[q] at h;exact lq i2 h
theorem Z8:∀ {fs:List Str} {xs:List V},f∉fs->(?F7).lookup f=none
 |[],_,_=>by simp
 |g::fs,[],_=>by simp
 |g::fs,x::xs,h=>by
  rw[yU,YB];have hg:f≠g:=fun z=>h (by simp[z]);rw[show(f==g)=false from beq_eq_false_iff_ne.mpr hg];exact Z8 fun z=>h ?Db
theorem fV:∀ {fs:List Str} {xs:List V},fs.length=xs.length->fs.zip xs++[(f,x)]=(fs++[f]).zip (xs++[x])
 |[],[],_=>rfl
 |g::fs,y::xs,h=>by
  rw[yU,qP,qP,qP,yU,fV (by simpa using h)]
section
theorem Zn (he:P3 X Γ e (.obj C fs ds))(c:?DR)(n:?G9)(l:(fs.zip ds).lookup f=some d)(hb:attributeBase e f X.env ?C6=eval e X.env:=by rfl):P3 X Γ ?Gv d:=
 PE.of (rQ he hb) fun σ H Q ⟨F,fh,sl,k⟩=>⟨F,fh,sl,fun v H' F' p i=>by
  obtain⟨a,dx,xs,rfl,ha,hl,il⟩:=isO i;obtain⟨x,h1,h2⟩:=lq il l;exact⟨a,C,dx,_,x,rfl,p.fh _ _ ha,c,n,h1,k _ _ _ p h2⟩⟩
theorem J9 {a:Addr}(he:P3 X Γ e ?Bg)(hm:(a,?HA)∈Ω)(c:?DR)(n:?G9)(l:(fs.zip ds).lookup f=some d)(r:R d Ω)(hb:attributeBase e f X.env ?C6=eval e X.env:=by rfl):V3 X B ?Gv Γ Ω R:=fun F σ H S pins s I=>
 rQ he hb pins s σ H _ I ⟨F,S.fh,S.sl,fun v H' F' pu i=>by
  cases isR i;have S1:=S.pur pu;obtain⟨fa,o',ha,ho⟩:=S1.own _ hm;obtain⟨dx,xs,rfl,hl,il⟩:=ho F' ?AH;obtain⟨x,h1,h2⟩:=lq il l;exact⟨a,C,dx,_,x,rfl,ha,c,n,h1,d,Ω,F',S1,pu.ff,h2,r⟩⟩
theorem JV(ho:P3 X Γ o ?Bg)(c:?DR)(n:?G9)
  (h:V3 X B e Γ Ω fun d Ω1=>∃ fs ds Ω2,Ω1.Perm ((a,?HA)::Ω2)/\f∉fs/\fs.length<1000/\W3 X B rest Γ ((a,JW X.K C (fs++[f]) (ds++[d]))::Ω2) E)
  (hs:swapsWith e ?M0 pos.line X.env=pure false:=by rfl):W3 X B (.Assign [.Attribute o f pos'] e pos::rest) Γ Ω E:=fun F σ H S pins s I=>
 qm (GW ho j6 hs) Qb pins s σ H _ I ((?AV).mono fun v H1 ⟨d,Ω1,F1,S1,f1,i1,fs,ds,Ω2,pm,hf,hz,h1⟩=>⟨F1,S1.fh,S1.sl,fun y H2 F2 p2 i2=>by
  cases isR i2;have S2:=(?GI).perm pm.symm;obtain⟨fa,o',ha,ho'⟩:=S2.own (a,?HA) (by simp);obtain⟨dx,xs,rfl,hl,il⟩:=ho' F2 ?AH;refine⟨a,C,dx,_,rfl,ha,c,n,by rw[YZ,←hl];lia,?_⟩;rw[fL (f:=f) (v:=v) (fs:=?F7) (fun q hq z=>hf (by rw[←z];exact(Qu hq).1)),fV hl];exact qp (f1.trans p2.ff) (h1 F2 σ _ (S2.turn fun F3 e3=>⟨dx,xs++[v],rfl,by rw[yI,yI,hl];rfl,(il.mono e3).append (IsL.cons (i1.mono (p2.ff.trans e3)) IsL.nil)⟩))⟩)
end
def spF (K:?A0)(n:Nat)(C:?wK):Sp:=fun vs H Q _=>∃ ds gs F,C ds gs/\ds.length=n/\Yc F H/\IsL K F ds vs/\∀ p xs H' F',Pur F H F' H'->H p=none->F' p=none->H' p=some ?Aa->IsL K F' gs xs->Q ?Bd H'
def spI (K:?A0)(n:Nat)(Cc:Addr)(C:?qB):Sp:=fun vs H Q _=>∃ (a:Addr) (us:List V) (ds:List D) (r:List Str×List D) (F:Hp) (dx:Addr),vs=.ref a::us/\ds.length+1=n/\Yc F H/\F a=none/\H a=some (.ins Cc dx [])/\IsL K F ds us/\C ds r/\
 ∀ (H' F':Hp) (dx':Addr) (xs:List V),Yc F F'->Yc F' H'->(∀ b o,b≠a->H b=some o->H' b=some o)->?kG->F' a=none->H' a=some (.ins Cc dx' (r.1.zip xs))->r.1.length=xs.length->IsL K F' r.2 xs->Q .non H'
theorem spF.len {K:?A0}{n:Nat}{C:?wK}{vs:?AL}{H:Hp}{Q:VK}{E:XK}(h:spF K n C vs H Q E):vs.length=n:=by
 obtain⟨ds,d,F,_,l,_,i,_⟩:=h;rw[i.len,l]
theorem spI.len {K:?A0}{n:Nat}{Cc:Addr}{C:?qB}{vs:?AL}{H:Hp}{Q:VK}{E:XK}(h:spI K n Cc C vs H Q E):vs.length=n:=by
 obtain⟨a,us,ds,r,F,dx,rfl,l,_,_,_,i,_⟩:=h;rw[yi,i.len,l]
section
theorem iZ(h:spP X.K n C vs H Q E)
  (body:∀ (ds:List D) (r:D),C ds r->∀ B:Bs,B.M=[]->W3 X B sts ?D6 [] ?wU):∃ t,PSs X sts t/\t {nx:=fun _ H'=>?Ay,rt:=Q} ?DO H:=by
 refine ?DS;obtain⟨ds,r,F,hC,hl,fh,il,q⟩:=h;refine Qa (D:=E3.to X.K ?yA F ?wU) (D':={nx:=fun _ H'=>?Ay,rt:=Q}) ?_ ?_ ?_ ?_ (body ds r hC ?yA rfl F ?DO H ?G3)
 .rintro σ' H' ⟨Γ',Ω',F',S',f',e⟩;subst e;exact q _ _ _ ?E6 (BJ F')
 .rintro v H' ⟨d',Ω',F',⟨σ',S'⟩,f',i',e⟩;subst e;exact q _ _ _ ?E6 i'
 .rintro σ' H' ⟨_,_,_,_,_,z⟩;exact ?AQ
 .rintro σ' H' ⟨_,_,_,_,_,z⟩;exact ?AQ
theorem eS(h:spF X.K n C vs H Q E)
  (body:∀ (ds gs:List D),C ds gs->∀ B:Bs,B.M=[]->W3 X B sts ?D6 [] ⟨fun _ _=>?AB,fun r Ω=>∃ p,r=.raw (.ref p)/\Ω=[(p,?BN)],fun _ _=>?AB,fun _ _=>?AB⟩):∃ t,PSs X sts t/\t {nx:=fun _ H'=>?Ay,rt:=Q} ?DO H:=by
 refine ?DS;obtain⟨ds,gs,F,hC,hl,fh,il,q⟩:=h;refine Qa (D:=E3.to X.K ?yA F ⟨fun _ _=>?AB,fun r Ω=>∃ p,r=.raw (.ref p)/\Ω=[(p,?BN)],fun _ _=>?AB,fun _ _=>?AB⟩) (D':={nx:=fun _ H'=>?Ay,rt:=Q}) ?_ ?_ ?_ ?_ (body ds gs hC ?yA rfl F ?DO H ?G3)
 .rintro σ' H' ⟨_,_,_,_,_,z⟩;exact ?AQ
 .rintro v H' ⟨d',Ω',F',⟨σ',S'⟩,f',i',p,rfl,rfl⟩;cases isR i';obtain⟨fa,o,ha,ho⟩:=S'.own (p,?BN) (by simp);obtain⟨xs,rfl,il'⟩:=ho F' ?AH;refine q p xs H' F' ?E6 ?_ fa ha il';rcases S'.od (p,?BN) (by simp) with z|z
  .cases z
  .exact z
 .rintro σ' H' ⟨_,_,_,_,_,z⟩;exact ?AQ
 .rintro σ' H' ⟨_,_,_,_,_,z⟩;exact ?AQ
theorem i7(h:spI X.K n Cc C vs H Q E)
  (body:∀ (a:Addr) (ds:List D) (r:List Str×List D),C ds r->∀ B:Bs,B.M=[a]->W3 X B sts (jD N (.raw ?AI::ds)) [(a,JW X.K Cc [] [])] ⟨fun _ Ω=>Ω=[(a,JW X.K Cc r.1 r.2)],fun _ _=>?AB,fun _ _=>?AB,fun _ _=>?AB⟩):∃ t,PSs X sts t/\t {nx:=fun _ H'=>?Ay,rt:=Q} ?DO H:=by
 refine ?DS;obtain⟨a,us,ds,r,F,dx,rfl,hl,fh,fa,ha,il,hC,q⟩:=h;have il':IsL X.K F (.raw (.ref a)::ds) (.ref a::us):=IsL.cons (Vg F) il;have S0:Sat X.K ⟨[a],F,H⟩ (jD N (.raw (.ref a)::ds)) [(a,JW X.K Cc [] [])] F (L2.start N (.ref a::us)) H:=by
  refine ?xQ
  .rw[yE.mp hp];exact .inl (by simp)
  .rw[yE.mp hp];exact⟨fa,_,ha,fun _ _=>⟨dx,[],rfl,rfl,?CG⟩⟩
 refine Qa (D:=E3.to X.K ?wQ F ⟨fun _ Ω=>Ω=[(a,JW X.K Cc r.1 r.2)],fun _ _=>?AB,fun _ _=>?AB,fun _ _=>?AB⟩) (D':={nx:=fun _ H'=>?Ay,rt:=Q}) ?_ ?_ ?_ ?_ (body a ds r hC ?wQ rfl F _ H S0)
 .rintro σ' H' ⟨Γ',Ω',F',S',f',rfl⟩;obtain⟨fa',o,ha',ho⟩:=S'.own (a,JW X.K Cc r.1 r.2) (by simp);obtain⟨dx',xs,rfl,hl',il2⟩:=ho F' ?AH;refine q H' F' dx' xs S'.f0 S'.fh ?uB ?jO fa' ha' hl' il2;rcases S'.fr b hb with z|z|z
  .exact ?Ap
  .exact ?BR
  .have e:b=a:=by simpa using z
   subst e;exact ?Jt
 .rintro v H' ⟨_,_,_,_,_,_,z⟩;exact ?AQ
 .rintro σ' H' ⟨_,_,_,_,_,z⟩;exact ?AQ
 .rintro σ' H' ⟨_,_,_,_,_,z⟩;exact ?AQ
end
section
variable {P:?AA}{w:?A9}{K:?A0}{mg:?J}{base:Heap}{x m q:Str}{st:Stmt}{N ps:?A1}{k n:Nat}{Cc:Addr}
theorem KM(d:?JT)(S:?BW)(hn:?qQ)
  (body:∀ (f:Addr) (cdv:Value) (A:Around) (outer:List Env) (s:Shared) (H:Hp) (E:XK),Room k ?Dj->∀ (ds:List D) (r:D),C ds r->∀ B:Bs,B.M=[]->
   W3 ?DD B ?Ar ?D6 [] ?wU):OkM P w K mg base CX0 (k+1) Cc m ps (spP K n C):=
 d.ok S (fun vs H Q E h=>h.len.trans hn.symm) fun f cdv A outer s H vs Q E hr h=>iZ (X:=?DD) h ?IE
theorem xw(d:?JT)(S:?BW)(hn:?qQ)
  (body:∀ (f:Addr) (cdv:Value) (A:Around) (outer:List Env) (s:Shared) (H:Hp) (E:XK),Room k ?Dj->∀ (ds gs:List D),C ds gs->∀ B:Bs,B.M=[]->
   W3 ?DD B ?Ar ?D6 [] ⟨fun _ _=>?AB,fun r Ω=>∃ p,r=.raw (.ref p)/\Ω=[(p,QO K gs)],fun _ _=>?AB,fun _ _=>?AB⟩):OkM P w K mg base CX0 (k+1) Cc m ps (spF K n C):=
 d.ok S (fun vs H Q E h=>(spF.len h).trans hn.symm) fun f cdv A outer s H vs Q E hr h=>eS (X:=?DD) h ?IE
theorem CN(d:vz K mg x Cc q st ps)(S:?BW)(hn:?qQ)
  (body:∀ (f:Addr) (cdv:Value) (A:Around) (outer:List Env) (s:Shared) (H:Hp) (E:XK),Room k ?Dj->∀ (a:Addr) (ds:List D) (r:List Str×List D),C ds r->∀ B:Bs,B.M=[a]->
   W3 ?DD B ?Ar (jD N (.raw ?AI::ds)) [(a,JW K Cc [] [])] ⟨fun _ Ω=>Ω=[(a,JW K Cc r.1 r.2)],fun _ _=>?AB,fun _ _=>?AB,fun _ _=>?AB⟩):OkI P w K mg base CX0 (k+1) x Cc ps (spI K n Cc C):=
 d.ok S (fun vs H Q E h=>(spI.len h).trans hn.symm) fun f cdv A outer s H vs Q E hr h=>i7 (X:=?DD) h ?IE
end
section
theorem WY {p:Addr}(pu:?Ju)(hp:H p=none)(fp:F' p=none)(e:H' p=some u):Pur F H (upd F' p u) H'/\Yc F' (upd F' p u):=by
 have w:Yc F' (upd F' p u):=fun b y q=>by rw[yX (Ys q fp)];exact q
 refine⟨⟨?Jj,fun b y q=>?_,pu.hh,fun b q=>?_⟩,w⟩
 .by_cases hb:b=p
  .subst hb;rw[yT] at q;cases q;exact e
  .rw[yX hb] at q;exact pu.fh _ _ q
 .by_cases hb:b=p
  .subst hb;exact .inr hp
  .rw[yX hb] at q;exact pu.new b q
theorem Vz {C:?G}{pl:Sem Bool}(ok:?KS)(c:?F4)(hr:?Aw)(ho:?IJ)(hm:m∉fs)(ha:?yP)(hC:C (.obj Cc fs gs::ds) d)(hn:ds.length+1=n:=by rfl)
  (hst:?W:=by rfl) (hpl:?zD:=by rfl)
  (ht:eval ?qE X.env=(do
   let ov ←eval o X.env
   standAt apos.atName
   let (f,first) ←holding [ov] (getMethod ov m pl)
   callWith pos f first ?kJ ?qD):=by rfl):P3 X Γ ?qE d:=by
 obtain⟨f,fd,F,hM,hb⟩:=ok;exact PE.of (bH (pl:=pl) ho c hM F hr hb .nil uZ ha hst hpl ht) fun σ H Q ⟨F0,fh,sl,q⟩=>⟨F0,fh,sl,fun v H1 F1 p1 i1=>by
  obtain⟨a,dx,xs,rfl,h1,hl,il⟩:=isO i1;refine⟨a,dx,_,rfl,p1.fh _ _ h1,Z8 hm,F1,?BF,?C3,fun vs H2 F2 p2 i2=>?_⟩;dsimp only;rw[Yq];exact⟨_,d,F2,hC,hn,p2.fh,?ID,fun v' H3 F3 p3 i3=>q v' H3 F3 ((?Bl).trans p3) i3⟩⟩
theorem ng {C:?G}{pl:Sem Bool}(ok:?KT)(c:?F4)(hr:?Aw)(ho:?IJ)(hm:m∉fs)(hC:C [.obj Cc fs gs] d)
  (ht:eval ?qG X.env=(do
   let ov ←eval o X.env
   standAt apos.atName
   let (f,first) ←holding [ov] (getMethod ov m pl)
   callWith pos f first ?kW ?qD):=by rfl):P3 X Γ ?qG d:=by
 obtain⟨f,fd,F,hM,hb⟩:=ok;exact PE.of ?Kx fun σ H Q ⟨F0,fh,sl,q⟩=>⟨F0,fh,sl,fun v H1 F1 p1 i1=>by
  obtain⟨a,dx,xs,rfl,h1,hl,il⟩:=isO i1;refine ?Kp;exact⟨_,d,F1,hC,rfl,?BF,?JC,fun v' H3 F3 p3 i3=>q v' H3 F3 (p1.trans p3) i3⟩⟩
theorem Zw {C:?wK}{pl:Sem Bool}(ok:OkM X.prog X.w X.K X.mg X.base CX0 k Cc m ps (spF X.K 1 C))(c:?F4)(hr:?Aw)(ho:?IJ)(hm:m∉fs)(hC:C [.obj Cc fs gs] ds)
  (ht:eval ?qG X.env=(do
   let ov ←eval o X.env
   standAt apos.atName
   let (f,first) ←holding [ov] (getMethod ov m pl)
   callWith pos f first ?kW ?qD):=by rfl):PF3 X Γ ?qG ds:=by
 obtain⟨f,fd,F,hM,hb⟩:=ok;exact PE.of ?Kx fun σ H Q ⟨F0,fh,sl,q⟩=>⟨F0,fh,sl,fun v H1 F1 p1 i1=>by
  obtain⟨a,dx,xs,rfl,h1,hl,il⟩:=isO i1;refine ?Kp;exact⟨_,ds,F1,hC,rfl,?BF,?JC,fun b xs H2 F2 p2 hb fb e2 il2=>q b xs H2 F2 ?Bl (p1.hh.free hb) fb e2 il2⟩⟩
theorem Hc(ok:OkI X.prog X.w X.K X.mg X.base CX0 k x Cc ps (spI X.K n Cc C))(hr:Room (k+1) X.A)(hg:?Af)(ha:?yP)(hC:C ds r)(hn:ds.length+1=n:=by rfl)(hdb:?L:=by decide)
  (he:?W:=by rfl) (hpl:?zD:=by rfl):P3 X Γ ?yZ (.obj Cc r.1 r.2):=by
 obtain⟨f,fd,F,M,hm,hb⟩:=ok;exact PE.of (lS M F hr hg hm hb .nil uZ ha hdb he hpl) fun σ H Q ⟨F0,fh,sl,q⟩=>⟨F0,fh,sl,fun vs H1 F1 p1 i1 a dx ha' hdx hne=>by
  rw[Yq];have f1:F1 a=none:=p1.fh.free ha';have sm:Yc H1 (upd (upd H1 dx (.own a)) a (.ins Cc dx [])):=fun b u e1=>by
   rw[yX (Ys e1 ha'),yX (Ys e1 hdx)];exact e1
  refine⟨a,vs,ds,r,F1,dx,rfl,hn,p1.fh.trans sm,f1,yT,i1,hC,fun H' F' dx' xs g1 g2 g3 g4 g5 g6 g7 g8=>⟨rfl,?_⟩⟩;have pu:Pur F1 H1 F' H':=by
   refine⟨g1,g2,fun b u e1=>?LF,fun b e1=>?_⟩;rcases g4 b e1 with z|z
   .exact ?Ap
   .exact .inr (sm.free z)
  obtain⟨pf,w⟩:=WY pu ha' g5 g6;refine q _ _ _ (p1.trans pf) ?_;simp only[Is];exact ?L0⟩
end
end L3
namespace L2
open PySem PySem.Spec PySem.Calls PyProof.Rows
abbrev K2:=Sum Key ?Av
theorem W4(r:YX (kV k) u):(?BP).is k u=true:=by
 cases k with
 |inl i=>obtain⟨t,q⟩:=(show ∃ t,u=Value.int i t from r);subst q;exact beq_self_eq_true i
 |inr x=>obtain⟨t,q⟩:=(show ∃ t,u=Value.str x t from r);subst q;exact beq_self_eq_true x
theorem UR:∀ {ks:List Key} {us:List Value},qj (ks.map kV) us->ItemsAre ?BP ks us
 |[],_,h=>by cases h;exact .nil
 |k::ks,_,h=>by
  cases h with
  |cons r t=>exact .cons (W4 r) (UR t)
def Vf (h:Heap)(ks:?Av)(a:Addr):Prop:=∃ us:List Value,h.IsTuple a us.toArray/\qj (ks.map kV) us
def ua (h:Heap):K2->Value->Prop
 |.inl k,v=>YX (kV k) v
 |.inr ks,v=>∃ a,v=.ref a/\Vf h ks a
def K8 (h:Heap)(ks:?BB)(a:Addr):Prop:=∃ us:List Value,h.IsTuple a us.toArray/\Paired (ua h) ks us
theorem Vf.key(x:Vf h ks a):IsTupleKey ?BP h ks a:=by
 obtain⟨us,⟨o,e1,c1,n,d1⟩,r⟩:=x;exact⟨o,us.toArray,n,e1,c1,d1,by simpa using UR r⟩
theorem IsTuple.one {h:Heap}{a:Addr}{us vs:?AY}(x:h.IsTuple a us.toArray)(y:h.IsTuple a vs.toArray):us=vs:=by
 obtain⟨o,e1,c1,n,d1⟩:=x;obtain⟨o',e2,c2,n',d2⟩:=y;rw[e1] at e2;cases e2;rw[d1] at d2;injection d2 with z _;injection z
theorem B2(x:YX (kV k) v)(y:YX (kV k') v):k=k':=by
 cases k <;> cases k' <;> obtain⟨t1,e1⟩:=x <;> obtain⟨t2,e2⟩:=y <;> rw[e1] at e2 <;> cases e2 <;> rfl
theorem qj.keys_inj:∀ {x y:List Key} {us:List Value},qj (x.map kV) us->qj (y.map kV) us->x=y
 |[],[],_,_,_=>rfl
 |[],_::_,_,h1,h2=>by cases h1;cases h2
 |_::_,[],_,h1,h2=>by cases h2;cases h1
 |k::ks,k'::ks',_,h1,h2=>by
  cases h1 with
  |cons r1 t1=>
   cases h2 with
   |cons r2 t2=>rw[B2 r1 r2,qj.keys_inj t1 t2]
theorem Vf.inj {h:Heap}{a:Addr}{x y:?Av}(p:Vf h x a)(q:Vf h y a):x=y:=by
 obtain⟨us,t1,r1⟩:=p;obtain⟨vs,t2,r2⟩:=q;cases IsTuple.one t1 t2;exact r1.keys_inj r2
theorem ua.inj(p:ua h x v)(q:ua h y v):x=y:=by
 cases x with
 |inl k=>
  cases y with
  |inl k'=>rw[B2 p q]
  |inr ks=>
   obtain⟨a,rfl,_⟩:=q;cases k <;> (obtain⟨t,z⟩:=p;cases z)
 |inr ks=>
  cases y with
  |inl k=>
   obtain⟨a,rfl,_⟩:=p;cases k <;> (obtain⟨t,z⟩:=q;cases z)
  |inr ks'=>
   obtain⟨a,rfl,t1⟩:=p;obtain⟨b,z,t2⟩:=q;cases z;rw[t1.inj t2]
theorem Its2.inj:∀ {x y:List K2} {us:List Value},Paired (ua h) x us->Paired (ua h) y us->x=y
 |[],[],_,_,_=>rfl
 |[],_::_,_,h1,h2=>by cases h1;cases h2
 |_::_,[],_,h1,h2=>by cases h2;cases h1
 |k::ks,k'::ks',_,h1,h2=>by
  cases h1 with
  |cons r1 t1=>
   cases h2 with
   |cons r2 t2=>rw[ua.inj r1 r2,Its2.inj t1 t2]
theorem K8.inj {h:Heap}{a:Addr}{x y:?BB}(p:K8 h x a)(q:K8 h y a):x=y:=by
 obtain⟨us,t1,r1⟩:=p;obtain⟨vs,t2,r2⟩:=q;cases IsTuple.one t1 t2;exact Its2.inj r1 r2
theorem ag(x:h.IsTuple a us)(e:h.get? d=some o)(hd:?vM)(sb:?Im):h'.IsTuple a us:=by
 obtain⟨o',e1,c1,n,d1⟩:=x;have ne:a≠d:=fun z=>by
  subst z;rw[e] at e1;cases e1;rw[hd] at d1;cases d1
 exact⟨o',(sb.2 a ne).trans e1,c1,n,d1⟩
theorem Vf.keeps(x:Vf h ks a)(e:h.get? d=some o)(hd:?vM)(sb:?Im):Vf h' ks a:=by
 obtain⟨us,t1,r1⟩:=x;exact⟨us,ag t1 e hd sb,r1⟩
theorem K8.keeps(x:K8 h ks a)(e:h.get? d=some o)(hd:?vM)(sb:?Im):K8 h' ks a:=by
 obtain⟨us,t1,r1⟩:=x;refine⟨us,ag t1 e hd sb,Paired.mapP r1 fun k v q=>?_⟩;cases k with
 |inl k=>exact q
 |inr ks=>
  obtain⟨b,e1,t2⟩:=q;exact⟨b,e1,t2.keeps e hd sb⟩
section
def h2 (P:?AA)(w:?A9):K2->Int
 |.inl k=>(?BP).hash k
 |.inr ks=>tupleKeyHash ?BP ks
def n2:K2->Nat
 |.inl _=>1
 |.inr ks=>ks.length+1
def BQ (P:?AA)(w:?A9)(ks:?BB):Int:=reduceHash (Builtin.Tuple.tupleHashOf (ks.map (h2 P w)))
def iw (ks:?BB):Nat:=(ks.map n2).sum+1
theorem D7 {Q:Int->Shared->Prop}(hu:?qK)(x:ua s.heap k v)(q:Q (h2 P w k) {s with toks:=s.toks+n2 k}):wpAny ?BV A (pyHash v) Q E s:=by
 cases k with
 |inl k=>exact(?BP).pyHash (W4 x) q
 |inr ks=>
  obtain⟨a,rfl,t⟩:=x;exact wpAny_pyHash_tuple hu (t.key (P:=P) (w:=w)) q
theorem GJ {Q:Int->Shared->Prop}(hu:A.units+1<cLine)(x:?Jc)(q:Q (BQ P w ks) {s with toks:=s.toks+iw ks}):wpAny ?BV A (pyHash ?AI) Q E s:=by
 obtain⟨us,⟨o,ho,hc,n,hd⟩,hi⟩:=x;have hT:s.TypeIs (.ref a) "tuple" := ⟨o,ho,hc⟩
 have hu0:A.units<cLine:=by lia
 unfold pyHash
 first|unfold pyHashByItsType|skip
 first|refine ya (wpAny_cRoomFor_or (.inr hu0) ?_)|skip
 refine ya ?Kf;show wpAny _ _ (if (some (Value.builtin "tuple.__hash__")==some Value.none)=true then _ else _) Q E s;refine wpAny_ite_split (fun z=>absurd z (by rw[beq_builtin_none];exact yN)) fun _=>?_;refine ya ?Kf;show wpAny _ _ (callSpecialIfBoundUnlessNone? ?AI "__hash__" _ >>= _) Q E s;refine ya (wpAny_callSpecialIfBoundUnlessNone?_slot hT F.slot_tuple_hash (YQ F.slot_tuple_hash hT F.entry_tuple_hash ?_ (F.args_tuple_hash_1 _)));show wpAny _ _ (Builtin.Tuple.tupleItemsOf ?AI >>= _) _ _ s;refine ya (wpAny_tupleItemsOf ho hd (ya ?_));rw[←Array.forIn_toList];refine wpAny_forIn_list _ (fun r (b:Array Int) t=>∃ ps qs,ks=ps++qs/\Paired (ua s.heap) qs r/\b.toList=ps.map (h2 P w)/\t={s with toks:=s.toks+(ps.map n2).sum}) _ ?_ ?_ _ _ ⟨[],ks,rfl,by simpa using hi,rfl,rfl⟩
 .rintro v r b t ⟨ps,qs,rfl,hl,hb,rfl⟩;cases hl with
  |@cons k _ qs' _ h1 hl'=>
   refine ya (D7 (P:=P) (w:=w) (s:={s with toks:=s.toks+(ps.map n2).sum}) (by first|exact hu|exact hu0) h1 ?_)
   first
    |exact ym ⟨ps++[k],qs',by simp,hl',by simp[hb],by simp[Nat.add_assoc]⟩
    |exact ya (ym (ym ⟨ps++[k],qs',by simp,hl',by simp[hb],by simp[Nat.add_assoc]⟩))
 .rintro b t ⟨ps,qs,rfl,hl,hb,rfl⟩;cases hl;rw[Yq] at q;show wpAny _ _ (retInt (Builtin.Tuple.tupleHashOf b.toList)) _ _ _;rw[hb];refine wpAny_ret_mkInt ?_;unfold BQ reduceHash iw at q;show wpAny _ _ (if (decide (-(2:Int) ^ 63<=Builtin.Tuple.tupleHashOf (ps.map (h2 P w)))&&decide (Builtin.Tuple.tupleHashOf (ps.map (h2 P w))<2 ^ 63))=true then _ else _) Q E _;split
  .rename_i hr;rw[yc hr] at q;exact ym (by simpa [Nat.add_assoc] using q)
  .rename_i hr;rw[yd hr] at q;exact ya (wpAny_rule (ym (by simpa [Nat.add_assoc] using q)))
theorem Bn(x:YX (kV k) u)(y:YX (kV k') v):SeqAt.EqAt A s u v (decide (k=k')):=by
 cases k with
 |inl i=>
  obtain⟨t,rfl⟩:=x;cases k' with
  |inl j=>
   obtain⟨t',rfl⟩:=y;have z:=SeqAt.EqAt.int_int (A:=A) (s:=s) i t j t'
   rwa [show(i==j)=decide ((Sum.inl i:Key)=.inl j) by rw[YH];simp] at z
  |inr j=>
   obtain⟨t',rfl⟩:=y;have z:=SeqAt.EqAt.int_str (A:=A) (s:=s) i t j t'
   rwa [show false=decide ((Sum.inl i:Key)=.inr j) by simp] at z
 |inr i=>
  obtain⟨t,rfl⟩:=x;cases k' with
  |inl j=>
   obtain⟨t',rfl⟩:=y;have z:=SeqAt.EqAt.str_int (A:=A) (s:=s) i t j t'
   rwa [show false=decide ((Sum.inr i:Key)=.inl j) by simp] at z
  |inr j=>
   obtain⟨t',rfl⟩:=y;have z:=SeqAt.EqAt.str_str (A:=A) (s:=s) i t j t'
   rwa [show(i==j)=decide ((Sum.inr i:Key)=.inr j) by rw[YH];simp] at z
theorem nr {α:Type}[DecidableEq α]{us vs:?AY}{xs ys:?B4}(h1:?LR)(h2:s.heap.IsTuple b vs.toArray)(l1:xs.length=us.length)(l2:ys.length=vs.length)(hu:?qK)
  (he:∀ (j:Nat) (x y:α) (u v:Value),xs[j]?=some x->ys[j]?=some y->us[j]?=some u->vs[j]?=some v->SeqAt.EqAt A.in1 s u v (decide (x=y))):SeqAt.RcAt A s ?AI ?Bf (decide (xs=ys)):=by
 have z:=SeqAt.RcAt.tuples (e:=fun j=>decide (xs[j]?=ys[j]?)) h1 h2 hu (fun j q1 q2=>by
  have p1:j<us.length:=by simpa using q1
  have p2:j<vs.length:=by simpa using q2
  have x1:xs[j]?=some (xs[j]'(by lia)):=yj _;have y1:ys[j]?=some (ys[j]'(by lia)):=yj _;have:=he j _ _ us[j] vs[j] x1 y1 (yj _) (yj _);simpa [x1,y1] using this)
 rwa [show((?Ke).all (fun j=>decide (xs[j]?=ys[j]?))&&us.toArray.size==vs.toArray.size)=decide (xs=ys) by
  rw[YH];simp only[yP,Yg,jM,qk,Y4,beq_iff_eq];constructor
  .rintro⟨e1,e2⟩;refine Qj fun j=>?_;by_cases hj:j<us.length
   .exact e1 j ?A
   .rw[yG.mpr (by lia),yG.mpr ?A]
  .intro e;subst e;exact⟨fun _ _=>rfl,?A⟩] at z
theorem Vf.eq {x y:?Av}{a b:Addr}(p:Vf s.heap x a)(q:Vf s.heap y b)(hu:?qK):SeqAt.EqAt A s ?AI ?Bf (decide (x=y)):=by
 by_cases hab:a=b
 .subst hab;cases p.inj q;rw[yK rfl];exact ?EX
 .obtain⟨us,t1,r1⟩:=p;obtain⟨vs,t2,r2⟩:=q;have l1:=r1.length;have l2:=r2.length;rw[yf] at l1 l2;refine SeqAt.EqAt.of_refs hab (nr t1 t2 l1 l2 hu fun j k k' u v e1 e2 e3 e4=>?_);obtain⟨u',z1,z2⟩:=r1.get (i:=j) (by rw[yC,e1];rfl);obtain⟨v',z3,z4⟩:=r2.get (i:=j) (by rw[yC,e2];rfl);rw[e3] at z1;cases z1;rw[e4] at z3;cases z3;exact Bn z2 z4
theorem ua.eq(p:ua s.heap x u)(q:ua s.heap y v)(hu:?qK):SeqAt.EqAt A s u v (decide (x=y)):=by
 cases x with
 |inl k=>
  cases y with
  |inl k'=>
   have z:=Bn (A:=A) (s:=s) p q
   rwa [show decide (k=k')=decide ((Sum.inl k:K2)=.inl k') by rw[YH];simp] at z
  |inr ks=>
   obtain⟨b,rfl,vs,t2,r2⟩:=q;rw[show decide ((Sum.inl k:K2)=.inr ks)=false by simp];cases k with
   |inl i=>obtain⟨t,rfl⟩:=p;exact SeqAt.EqAt.int_tuple i t t2 hu
   |inr i=>obtain⟨t,rfl⟩:=p;exact SeqAt.EqAt.str_tuple i t t2 hu
 |inr ks=>
  cases y with
  |inl k=>
   obtain⟨b,rfl,vs,t2,r2⟩:=p;rw[show decide ((Sum.inr ks:K2)=.inl k)=false by simp];cases k with
   |inl i=>obtain⟨t,rfl⟩:=q;exact SeqAt.EqAt.tuple_int i t t2 hu
   |inr i=>obtain⟨t,rfl⟩:=q;exact SeqAt.EqAt.tuple_str i t t2 hu
  |inr ks'=>
   obtain⟨a,rfl,t1⟩:=p;obtain⟨b,rfl,t2⟩:=q;have z:=Vf.eq (A:=A) t1 t2 hu
   rwa [show decide (ks=ks')=decide ((Sum.inr ks:K2)=.inr ks') by rw[YH];simp] at z
theorem US:∀ {l:List α} {m:List β} {i:Nat} {x:α} {y:β},Paired F l m->l[i]?=some x->m[i]?=some y->F x y
 |_,_,0,_,_,.cons r t,h1,h2=>by simp at h1 h2;subst h1 h2;exact r
 |_,_,i+1,_,_,.cons r t,h1,h2=>US (i:=i) t (by simpa using h1) (by simpa using h2)
 |_,_,_,_,_,.nil,h1,_=>by simp at h1
theorem K8.eq {x y:?BB}{a b:Addr}(p:K8 s.heap x a)(q:K8 s.heap y b)(hu:A.units+1<cLine):SeqAt.EqAt A s ?AI ?Bf (decide (x=y)):=by
 by_cases hab:a=b
 .subst hab;cases p.inj q;rw[yK rfl];exact ?EX
 .obtain⟨us,t1,r1⟩:=p;obtain⟨vs,t2,r2⟩:=q;exact SeqAt.EqAt.of_refs hab (nr t1 t2 (Paired.length r1) (Paired.length r2) ?A fun j k k' u v e1 e2 e3 e4=>ua.eq (US r1 e1 e3) (US r2 e2 e4) (show A.units+1<cLine from hu))
theorem ak {n:Nat}{us:?AY}{Q:Bool->Shared->Prop}(t:?LR)(hi:∀ v∈us,∀ Q':Bool->Shared->Prop,Q' true s->wpAny ?BV A (eqIsQuiet n v) Q' E s)(q:Q true s):wpAny ?BV A (eqIsQuiet (n+1) ?AI) Q E s:=by
 obtain⟨o,ho,hc,m,hd⟩:=t;have hT:s.TypeIs (.ref a) "tuple" := ⟨o,ho,hc⟩
 unfold eqIsQuiet;refine ya (wpAny_specialOf hT F.slot_tuple_eq.lookup ?_);show wpAny _ _ (isInstance ?AI ?zQ >>= _) _ _ s;refine ya (wpAny_isInstance hT isSubtype_tuple_tuple ?_);simp only[Bool.not_true,Y3,if_false];refine ya (Yy ho hd (ya ?_));show wpAny _ _ (forIn us.toArray _ _) _ _ s;rw[←Array.forIn_toList];refine wpAny_forIn_list _ (fun r b t=>b.1=none/\t=s/\∀ v∈r,v∈us) _ ?_ ?_ _ _ ⟨rfl,rfl,fun v hv=>by simpa using hv⟩
 .rintro v r b t ⟨hb,rfl,hall⟩;refine ya (hi v (hall v (by simp)) _ ?_);simp only[Bool.not_true,Y3,if_false];exact ym ⟨rfl,rfl,fun u hu'=>hall u (ye _ hu')⟩
 .rintro⟨r1,r2⟩ t ⟨hr,rfl,_⟩;simp only at hr;subst hr;exact ym q
theorem VI:∀ {l:List α} {m:List β} {y:β},Paired F l m->y∈m->∃ x∈l,F x y
 |_,_,_,.nil,h=>by simp at h
 |_,_,_,.cons r t,h=>by
  rcases yB.mp h with z|z
  .subst z;exact⟨_,by simp,r⟩
  .obtain⟨x,hx,hf⟩:=VI t z;exact⟨x,?As,hf⟩
theorem wH(r:YX (kV k) v):carriedByValue v=true:=by
 cases k <;> (obtain⟨t,rfl⟩:=r;rfl)
theorem K8.quiet {ks:?BB}{Q:Bool->Shared->Prop}(x:?Jc)(q:Q true s):wpAny ?BV A (eqIsQuiet 8 ?AI) Q E s:=by
 obtain⟨us,t1,r1⟩:=x;refine ak t1 (fun v hv Q' q'=>?_) q;obtain⟨k,_,hk⟩:=VI r1 hv;cases k with
 |inl k=>rw[eqIsQuiet_byValue _ (wH hk)];exact ym q'
 |inr ks'=>
  obtain⟨b,rfl,vs,t2,r2⟩:=hk;refine ak t2 (fun u hu Q2 q2=>?_) q';obtain⟨k',_,hk'⟩:=VI r2 hu;have:∃ c:Key,YX (kV c) u:=by
   obtain⟨i,hl,rfl⟩:=List.getElem_of_mem hu;have hl':i<ks'.length:=by have:=r2.length;rw[yf] at this;lia
   obtain⟨u',z1,z2⟩:=r2.get (i:=i) (x:=kV ks'[i]) (by rw[yC,yj hl'];rfl);rw[yj hl] at z1;cases z1;exact⟨_,z2⟩
  obtain⟨c,hc⟩:=this;rw[eqIsQuiet_byValue _ (wH hc)];exact ym q2
end
def sG (P:?AA)(w:?A9):HeapKind P w ?BB where
 is:=K8
 hash:=BQ P w
 draws:=iw
 room:=fun A=>A.units+1<cLine
 inj:=fun p q=>p.inj q
 keeps:=fun x e hd sb=>x.keeps e hd sb
 pyHash:=fun hu x q=>GJ hu x q
 eqBool:=fun hu x y q=>(K8.eq x y hu) _ _ _ _ q
 quiet:=fun x q=>x.quiet q
def bJ (P:?AA)(w:?A9)(a:Addr)(xs:List ?vF):HO:=.ext fun h=>?yB=false/\∃ o es ep,h.get? a=some o/\o.ExactDict/\o.data=.dict es ep/\es.toList=xs.map (entryOfKey (sG P w))/\(xs.map ?C).Nodup
theorem nT(x:?yB=false/\∃ o es ep,h.get? a=some o/\o.ExactDict/\o.data=.dict es ep/\es.toList=xs.map (entryOfKey (sG P w))/\(xs.map ?C).Nodup):Qt P w H h a (bJ P w a xs):=by
 refine⟨x,?_,fun h1 h2 ⟨e0,o,es,ep,e,r⟩ k=>⟨e0,o,es,ep,k o e,r⟩⟩;obtain⟨_,o,_,_,e,_⟩:=x;exact ?GD
theorem iL(I:?A6):sysModules<s.heap.objs.size:=by
 have h:mainGlobals<s.heap.objs.size:=(?Gf).lt;exact Nat.lt_trans ?B h
section
variable [DecidableEq κ]
def xV (kvs:?qO)(k:κ):Option V:=(kvs.find? fun kv=>?qH).map ?zC
def vI (kvs:?qO)(k:κ)(v:V):?qO:=
 if (kvs.any fun kv=>?qH)=true then kvs.map (fun kv=>if kv.1=k then (kv.1,v) else kv) else kvs++[(k,v)]
theorem xk {p:κ×V}{r:?qO}{k:κ}(e:p.1=k):xV (p::r) k=some p.2:=by simp[xV,y3,e]
theorem xo {p:κ×V}{r:?qO}{k:κ}(e:¬ p.1=k):xV (p::r) k=xV r k:=by simp[xV,y3,e]
theorem el (k:κ):∀ kvs:List (κ×V),(kvs.any fun kv=>?qH)=(xV kvs k).isSome
 |[]=>rfl
 |p::r=>by
  rw[zc];by_cases e:p.1=k
  .simp only[xk e,yK e,Bool.true_or,Js]
  .rw[xo e,yu e,Bool.false_or];exact el k r
theorem Kd (kvs:?qO)(k:κ)(v:V):(?G8).length<=kvs.length+1:=by
 unfold vI;split
 .rw[yf];lia
 .rw[yI,yi,Yz];lia
theorem kE.isSome_eq(r:kE o u):o.isSome=u.isSome:=by
 cases o with
 |none=>cases u with
  |none=>rfl
  |some _=>exact(show False from r).elim
 |some _=>cases u with
  |none=>exact(show False from r).elim
  |some _=>rfl
theorem kE.getD(r:kE o u)(rd:YX d d'):YX (o.getD d) (u.getD d'):=by
 cases o with
 |none=>cases u with
  |none=>exact rd
  |some _=>exact(show False from r).elim
 |some _=>cases u with
  |none=>exact(show False from r).elim
  |some _=>exact r
theorem KV.val {kvs:?qO}{vs:List (κ×Value)}(r:?E4)(k:κ):kE (xV kvs k) (valueAt vs k):=by
 unfold KV at r
 induction r with
 |nil=>exact ?Cz
 |@cons p q ps qs h t ih=>
  obtain⟨h1,h2⟩:=h;by_cases e:p.1=k
  .have e':q.1=k:=h1.symm.trans e;have b:valueAt (q::qs) k=some q.2:=by simp[valueAt,y3,e']
   rw[xk e,b];exact h2
  .have e':¬ q.1=k:=fun z=>e ?Ey;have b:valueAt (q::qs) k=valueAt qs k:=by simp[valueAt,y3,e']
   rw[xo e,b];exact ih
theorem KV.any(r:?E4)(k:κ):(kvs.any fun kv=>?qH)=vs.any fun kv=>decide (kv.1=k):=by
 unfold KV at r
 induction r with
 |nil=>rfl
 |cons h t ih=>rw[zc,zc,ih,h.1]
theorem KV.repl(r:?E4)(k:κ)(ry:?D9) :
  KV (kvs.map fun kv=>if kv.1=k then (kv.1,y) else kv) (vs.map fun kv=>if kv.1=k then (kv.1,u) else kv):=by
 unfold KV at r ⊢
 induction r with
 |nil=>exact .nil
 |@cons p q ps qs h t ih=>
  rw[yD,yD];refine .cons ?_ ih;obtain⟨h1,h2⟩:=h;by_cases e:p.1=k
  .rw[yc e,yc ?JO];exact⟨h1,ry⟩
  .rw[yd e,yd (fun z=>e ?Ey)];exact⟨h1,h2⟩
theorem KV.put(r:?E4)(k:κ)(ry:?D9):KV (vI kvs k y) (stored vs k u):=by
 unfold vI stored;rw[r.any k];by_cases e:(vs.any fun kv=>?qH)=true
 .rw[yc e,yc e];exact r.repl k ry
 .rw[yd e,yd e];exact Paired.snoc r ⟨rfl,ry⟩
theorem KV.keys {kvs:?qO}{vs:List (κ×Value)}(r:?E4):kvs.map ?C=vs.map ?C:=by
 unfold KV at r
 induction r with
 |nil=>rfl
 |cons h t ih=>rw[yD,yD,ih,h.1]
theorem KV.length(r:?E4):kvs.length=vs.length:=Paired.length r
end
abbrev KT (H:Hp):List (List Key×V)->List (List Key×Addr×Value)->Prop:=Paired fun p q=>p.1=q.1/\H q.2.1=some (.tup (p.1.map kV))/\YX p.2 q.2.2
theorem KT.val {kvs:List (List Key×V)}{xs:List (List Key×Addr×Value)}(r:?Hl)(k:?Av):kE (xV kvs k) ((?Hs).map ?zC):=by
 induction r with
 |nil=>exact ?Cz
 |@cons p q ps qs h t ih=>
  obtain⟨h1,_,h2⟩:=h;by_cases e:p.1=k
  .have e':q.1=k:=h1.symm.trans e;have b:atKey (q::qs) k=some q.2:=by simp[atKey,y3,e']
   rw[xk e,b];exact h2
  .have e':¬ q.1=k:=fun z=>e ?Ey;have b:atKey (q::qs) k=atKey qs k:=by simp[atKey,y3,e']
   rw[xo e,b];exact ih
theorem KT.repl(r:?Hl)(k:?Av)(ry:?D9) :
  KT H (kvs.map fun kv=>if kv.1=k then (kv.1,y) else kv) (xs.map (putAt k u)):=by
 induction r with
 |nil=>exact .nil
 |@cons p q ps qs h t ih=>
  rw[yD,yD];refine .cons ?_ ih;obtain⟨h1,h2,h3⟩:=h;unfold putAt;by_cases e:p.1=k
  .rw[yc e,yc ?JO];exact⟨h1,h2,ry⟩
  .rw[yd e,yd (fun z=>e ?Ey)];exact⟨h1,h2,h3⟩
theorem KT.put(r:?Hl)(k:?Av)(hb:H b=some ?H7)(ry:?D9) :
  KT H (vI kvs k y) (storedH xs k b u):=by
 have e:(kvs.any fun kv=>?qH)=(atKey xs k).isSome:=by
  rw[el,(r.val k).isSome_eq,Option.isSome_map]
 unfold vI storedH;rw[e];by_cases q:(?Hs).isSome=true
 .rw[yc q,yc q];exact r.repl k ry
 .rw[yd q,yd q];exact Paired.snoc r ⟨rfl,hb,ry⟩
theorem KT.keeps(r:?Hl)(ht:∀ b ys,H b=some (.tup ys)->H' b=some (.tup ys)):KT H' kvs xs:=
 Paired.mapP r fun _ _ z=>⟨z.1,ht _ _ z.2.1,z.2.2⟩
section
theorem ER(ok:?BA)(e:Rd H a u):Qt P w H h a u:=e.ok ok
theorem dQ(ok:?BA)(e:Rd H a ?Bp):kvs.length<=sizeLine/\?yB=false/\∃ vs,KV kvs vs/\h.DictOf ?BP a vs:=
 show Qt P w H h a ?Bp from ER ok e
theorem EQ(ok:?BA)(e:H a=some ?Bp):kvs.length<=sizeLine/\?yB=false/\∃ vs,KV kvs vs/\h.DictOf ?BP a vs:=dQ ok (.inl e)
theorem cS(ok:?BA)(e:H a=some (.tup (ks.map kV))):(?Fc).is h ks a:=by
 obtain⟨_,its,r,o,h1,h2,n,h3⟩:=(show Qt P w H h a (.tup (ks.map kV)) from ok a _ e)
 exact⟨o,its.toArray,n,h1,h2,h3,by simpa using UR r⟩
theorem gf(ok:?BA)(e:Rd H a ?Cc):kvs.length<=sizeLine/\?yB=false/\
  ∃ xs,KT H kvs xs/\h.DictOfH ?Fc a xs:=by
 obtain⟨z,y,xs,r,o,es,ep,h1,h2,h3,h4,h5⟩:=(show Qt P w H h a ?Cc from ER ok e)
 refine⟨z,y,xs,r,o,es,ep,h1,h2,h3,h4,fun x hx=>?_,h5⟩;have all:∀ {l:List (List Key×V)} {m:List (List Key×Addr×Value)},KT H l m->∀ x∈m,(?Fc).is h x.1 x.2.1:=by
  intro l m q
  induction q with
  |nil=>intro x hx;exact nomatch hx
  |@cons p q ps qs hq t ih=>
   intro x hx;rcases yB.mp hx with e|hx
   .subst e;exact cS ok (by rw[←hq.1];exact hq.2.1)
   .exact ih x hx
 exact all r x hx
theorem HE(ok:?BA)(e:H a=some ?Cc):kvs.length<=sizeLine/\?yB=false/\
  ∃ xs,KT H kvs xs/\h.DictOfH ?Fc a xs:=gf ok (.inl e)
end
def sN (H:Hp)(a:Addr)(y:V)(r:Option V):Prop:=
 (∃ kvs k,Rd H a ?Bp/\y=kV k/\r=xV kvs k)∨∃ kvs k b,Rd H a ?Cc/\y=.ref b/\H b=some ?H7/\r=xV kvs k
def eg (H:Hp)(a:Addr)(y v:V)(H':Hp):Prop:=
 (∃ kvs k,H a=some ?Bp/\y=kV k/\kvs.length<sizeLine/\H'=upd H a (.dK ?G8)) ∨
 ∃ kvs k b,H a=some ?Cc/\y=.ref b/\H b=some ?H7/\kvs.length<sizeLine/\H'=upd H a (.dT ?G8)
theorem eg.k {kvs:?qM}{k:Key}{v:V}(e:H a=some ?Bp)(hl:kvs.length<sizeLine):eg H a (kV k) v (upd H a (.dK ?G8)):=.inl ⟨kvs,k,e,rfl,hl,rfl⟩
theorem eg.t {kvs:List (List Key×V)}{k:?Av}{v:V}(e:H a=some ?Cc)(eb:H b=some ?H7)(hl:kvs.length<sizeLine) :
  eg H a ?Bf v (upd H a (.dT ?G8)):=.inr ⟨kvs,k,b,e,rfl,eb,hl,rfl⟩
section
theorem Inv.big (I:?A6):sysModules<s.heap.objs.size:=by
 have h:mainGlobals<s.heap.objs.size:=(?Gf).lt;exact Nat.lt_trans ?B h
theorem pC(hu:A.units+1<cLine)(I:?A6)(g:sN H a y ?Cf)(ry:?D9)(h:∀ w' s',Inv X pins σ H s'->YX v w'->Q w' s') :
  wpAny ?AF A (getItem ?AI u) Q E s:=by
 rcases g with ⟨kvs,k,e,ey,l⟩|⟨kvs,k,b,e,ey,eb,l⟩
 .subst ey;obtain⟨z,hd,vs,rel,dd⟩:=dQ I.hok e;obtain⟨w',hw,rw'⟩:=kE.some_of (v:=v) (o:=valueAt vs k) (by rw[l];exact rel.val k);exact wpAny_getItem_of (W4 ry) dd.mapOf hw (h w' _ ?B3 rw')
 .subst ey;cases (show u=Value.ref b from ry);obtain⟨z,hd,xs,rel,dd⟩:=gf I.hok e;obtain⟨w',hw,rw'⟩:=kE.some_of (v:=v) (o:=(?Hs).map ?zC) (by rw[l];exact rel.val k);obtain⟨p,hp,hp2⟩:=Yt.mp hw;refine wpAny_getItem_heap ?IV (cS I.hok eb) dd hp ?_;rw[hp2];exact h w' _ ?B3 rw'
theorem cx(I:?A6)(mu:Mut (H a))(hs:Heap.SameBut a s.heap h')(he:∃ q,h'.get? a=some q)(new:Qt X.prog X.w (upd H a ob) h' a ob) :
  Inv X pins σ (upd H a ob) {s with heap:=h',toks:=t'}:=
 I.write (x:=a) (e:=a) mu ?A2 (fun b q hb z=>(hs.2 b hb).trans z) he new
theorem rV(z:kvs.length<=sizeLine)(hd:?yB=false)(rel:?E4)(dd:h'.DictOf ?BP a vs) :
  Qt P w H' h' a ?Bp:=⟨z,hd,vs,rel,dd⟩
theorem pH(hu:A.units+1<cLine)(I:?A6)(g:eg H a y v H')(ry:?D9)(rv:YX v r)(h:∀ s',Inv X pins σ H' s'->Q () s') :
  wpAny ?AF A (setItem ?AI u r) Q E s:=by
 rcases g with ⟨kvs,k,e,ey,l,eH⟩|⟨kvs,k,b,e,ey,eb,l,eH⟩
 .subst ey eH;obtain⟨z,hd,vs,rel,dd⟩:=EQ I.hok e;have hz:vs.length<=sizeLine:=by rw[←rel.length];exact z
  have hl:(vI kvs k v).length<=sizeLine:=by have:=Kd kvs k v;lia
  refine wpAny_setItem_pairs (hsz:=hz) (W4 ry) dd fun h' dd' hs=>h _ ?_;have he:∃ q,h'.get? a=some q:=let ⟨q,_,_,hq,_⟩:=dd';⟨q,hq⟩
  exact cx I (by rw[e];exact ?Cz) hs he (rV hl hd (rel.put k rv) dd')
 .subst ey eH;cases (show u=Value.ref b from ry);obtain⟨z,hd,xs,rel,dd⟩:=HE I.hok e;have hz:xs.length<=sizeLine:=by rw[←Paired.length rel];exact z
  have hl:(vI kvs k v).length<=sizeLine:=by have:=Kd kvs k v;lia
  refine wpAny_setItem_heap (hsz:=hz) ?IV (cS I.hok eb) dd fun h' dd' hs=>h _ ?_;obtain⟨q,es,ep,hq,h2,h3,h4,_,h5⟩:=dd';refine cx I (by rw[e];exact ?Cz) hs ⟨q,hq⟩ ⟨hl,hd,_,(rel.put k eb rv).keeps fun c ys ec=>?_,q,es,ep,hq,h2,h3,h4,h5⟩;rw[yX (Im ec e ?M)];exact ec
end
section
end
def BW (i:Expr):Prop:=∀ ov iv,subscripted i false ov iv=operate [ov,iv] (getItem ov iv)
theorem mJ {A:?BD}{E:?zA}{env:Env}{T id:?Ch}{Q:?zA}
  (hl:typeLookup ?FL "__getitem__" = pure (some ?Cx)) (hs:BW slice)
  (h:wpAny ?AG A (eval value env) (fun o s₁=>wpAny ?AG A (eval slice env) (fun i s₂=>s₂.TypeIs o T/\wpAny ?AG A (getItem o i) Q E s₂) E s₁) E s) :
  wpAny ?AG A (eval (.Subscript value slice pos) env) Q E s:=by
 refine Subscript_ (Y7 h (fun o s₁ h₁=>Y7 h₁ (fun i s₂ h₂=>?_) fun _ _ x=>x) fun _ _ x=>x);obtain⟨hT,h₂⟩:=h₂;unfold subscriptTail;refine ya ?_;rw[getitemInPython_of_ne hT.not_modules];refine ya (wpAny_specialOf hT hl ?_);have fin:wpAny (model prog w) A (subscripted slice false o i) (fun r s₃=>wpAny ?AG A (letTemporaryGo value o r >>= fun _=>pure r) Q E s₃) E s₂:=by
  rw[hs o i];exact wpAny_operating (Y7 h₂ (fun r s₃ h₃=>ya (wpAny_letTemporaryGo (ym h₃))) fun _ _ x=>x)
 first
  |exact ym (ya fin)
  |exact ya (ym (ya fin))
  |exact ya fin
theorem dS(I:?A6)(g:sN H a y o):s.TypeIs ?AI "dict" :=by
 rcases g with ⟨kvs,k,e,_,_⟩|⟨kvs,k,b,e,_,_,_⟩
 .obtain⟨_,_,vs,_,dd⟩:=dQ I.hok e;exact dd.typeIs
 .obtain⟨_,_,xs,_,dd⟩:=gf I.hok e;exact dd.typeIs
def IE (td ty:TE):TE:=fun σ H Q=>td σ H fun x H1=>ty σ H1 fun y H2=>∃ a v,x=.ref a/\sN H2 a y ?Cf/\Q v H2
def HV (td ty tv:TE):TS:=fun D σ H=>tv σ H fun v H1=>td σ H1 fun x H2=>ty σ H2 fun y H3=>∃ a H4,x=.ref a/\eg H3 a y v H4/\D.nx σ H4
section
theorem mw (hu:X.A.units+1<cLine)(ho:PE X o td)(hi:PE X i ty)(hs:BW i):PE X ?Ff (IE td ty):=by
 intro pins s σ H Q I h;refine mJ PySem.F.slot_dict_getitem.lookup hs (thn ?Gh fun u s1 ⟨x,H1,I1,rx,q1⟩=>thn ?Lq fun iv s2 ⟨y,H2,I2,ry,a,v,ex,g,q2⟩=>?_);subst ex;obtain rfl:u=Value.ref a:=rx;exact⟨dS I2 g,pC hu I2 g ry fun w' s3 I3 rw'=>⟨v,H2,I3,rw',q2⟩⟩
theorem oq (hu:X.A.units+1<cLine)(ho:PE X o td)(hi:PE X i ty)(hv:PE X value tv)(hs:swapsWith value (some (.Subscript o i pos')) pos.line X.env=pure false) :
  PS X (.Assign [.Subscript o i pos'] value pos) (HV td ty tv):=by
 intro pins s σ H D I h;refine wpAny_Assign_Subscript (thn (hv pins s σ H _ I h) fun r s1 ⟨v,H1,I1,rv,q1⟩=>thn (ho pins s1 σ H1 _ I1 q1) fun u s2 ⟨x,H2,I2,rx,q2⟩=>thn (hi pins s2 σ H2 _ I2 q2) fun iv s3 ⟨y,H3,I3,ry,a,H4,ex,g,q3⟩=>?_) hs;subst ex;obtain rfl:u=Value.ref a:=rx;exact pH hu I3 g ry rv fun s4 I4=>⟨σ,H4,I4,q3⟩
end
theorem fi(h:Heap)(hb:sysModules<h.objs.size):Qt P w H (h.push {cls:=?jJ, data:=.dict #[]}) h.objs.size (.dK []):=
 ⟨Y0 _,?Kl,[],.nil,Heap.DictOf.new h⟩
theorem t9(h:Heap)(hb:sysModules<h.objs.size):Qt P w H (h.push {cls:=?jJ, data:=.dict #[]}) h.objs.size (.dT []):=
 ⟨Y0 _,?Kl,[],.nil,_,#[],0,?Be,⟨rfl,rfl,rfl⟩,rfl,rfl,Qw⟩
def GU:TE:=fun _ H Q=>∀ p,H p=none->Q ?Bd (upd H p (.dK []))
def Gb:TE:=fun _ H Q=>∀ p,H p=none->Q ?Bd (upd H p (.dT []))
section
theorem Cd:PE X (.Dict [] [] pos) GU:=fun pins s σ H Q I h=>
 wpAny_Dict_empty ⟨.ref s.heap.objs.size,_,I.laid (a:=?C8) (o:=.dK []) (t':=?Ag) (fun _ _ q=>?CI) ?AC (fi s.heap I.big),rfl,h _ ?Bm⟩
theorem CD:PE X (.Dict [] [] pos) Gb:=fun pins s σ H Q I h=>
 wpAny_Dict_empty ⟨.ref s.heap.objs.size,_,I.laid (a:=?C8) (o:=.dT []) (t':=?Ag) (fun _ _ q=>?CI) ?AC (t9 s.heap I.big),rfl,h _ ?Bm⟩
end
def dc:List (TE×TE)->St->Hp->(List (V×V)->Hp->Prop)->Prop
 |[],_,H,Q=>Q [] H
 | (tk,tv)::r,σ,H,Q=>tk σ H fun x H1=>tv σ H1 fun y H2=>dc r σ H2 fun ps H3=>Q ((x,y)::ps) H3
abbrev VV:List (V×V)->List (Value×Value)->Prop:=Paired fun p q=>YX p.1 q.1/\YX p.2 q.2
def PPs (X:Cx)(pos:Pos)(keys:List ?Cv)(values:?Ai)(trs:List (TE×TE)):Prop:=
 ∀ (pins:List (Addr×Obj)) (s:Shared) (σ:St) (H:Hp) (Q:List (V×V)->Hp->Prop),Inv X pins σ H s->dc trs σ H Q->
  wpAny ?AF X.A (evalPairs (pairTrees keys values X.env pos)) (fun vs s'=>∃ ps H',Inv X pins σ H' s'/\VV ps vs/\Q ps H') X.xe s
theorem CU:PPs X pos [] [] []:=fun pins s σ H Q I h=>pairTrees_nil_walk ⟨[],H,I,.nil,h⟩
theorem Au(hk:PE X k tk)(hv:PE X v tv)(hr:PPs X pos ks vs trs) :
  PPs X pos (some k::ks) (v::vs) ((tk,tv)::trs):=fun pins s σ H Q I h=>
 pairTrees_cons_walk (thn (hk pins s σ H _ I h) fun u s1 ⟨x,H1,I1,rx,q1⟩=>thn (hv pins s1 σ H1 _ I1 q1) fun w2 s2 ⟨y,H2,I2,ry,q2⟩=>
  thn (hr pins s2 σ H2 _ I2 q2) fun ws s3 ⟨ps,H3,I3,rel,q3⟩=>⟨(x,y)::ps,H3,I3,.cons ⟨rx,ry⟩ rel,q3⟩)
def VG (kvs more:?qM):?qM:=more.foldl (fun acc kv=>vI acc kv.1 kv.2) kvs
theorem KV.merge:∀ {more:List (Key×V)} {rs:List (Key×Value)} {kvs:List (Key×V)} {vs:List (Key×Value)},KV more rs->KV kvs vs->KV (VG kvs more) (merged vs rs):=by
 intro more rs kvs vs r;unfold KV at r
 induction r generalizing kvs vs with
 |nil=>intro q;exact q
 |@cons p q ps qs h t ih=>
  intro r0;have e:KV (vI kvs p.1 p.2) (stored vs q.1 q.2):=by
   have:=r0.put p.1 h.2;rw[←h.1];exact this
  exact ih e
theorem K0:∀ (more kvs:List (Key×V)),(VG kvs more).length<=kvs.length+more.length
 |[],kvs=>by show kvs.length<=kvs.length+0;lia
 |p::r,kvs=>by
  have h1:=K0 r (vI kvs p.1 p.2);have h2:=Kd kvs p.1 p.2;show(VG (vI kvs p.1 p.2) r).length<=_;rw[yi];lia
theorem xi:∀ {kvs:List (Key×V)} {ws:List (Value×Value)},VV (kvs.map fun kv=>(kV kv.1,kv.2)) ws->∃ rs,Carries ?BP ws rs/\KV kvs rs
 |[],_,r=>by rw[Q6] at r;cases r;exact⟨[],?Cz,.nil⟩
 |p::kvs,_,r=>by
  rw[yD] at r;cases r with
  |@cons a b as bs h t=>
   obtain⟨rs,c,q⟩:=xi (P:=P) (w:=w) t;obtain⟨b1,b2⟩:=b;exact⟨(p.1,b2)::rs,⟨W4 h.1,rfl,c⟩,.cons ⟨rfl,h.2⟩ q⟩
def HA (trs:List (TE×TE)):TE:=fun σ H Q=>∀ p,H p=none->dc trs σ (upd H p (.dK [])) fun ps H2=>H2 p=some (.dK [])/\∃ kvs:List (Key×V),ps=kvs.map (fun kv=>(kV kv.1,kv.2))/\kvs.length<=15/\Q ?Bd (upd H2 p (.dK (VG [] kvs)))
theorem DF(h:PPs X pos keys values trs)(hall:keys.all (·.isSome)=true)(hl:keys.length=values.length)(h0:keys≠[])
  (h15:keys.length<=15):PE X (.Dict keys values pos) (HA trs):=by
 intro pins s σ H Q I q;have hn:=I.hok.fresh (yg s.heap.objs.size);have I1:=I.laid (a:=?C8) (o:=.dK []) (h':=?kA) (t':=?Ag) (fun _ _ q=>?CI) ?AC (fi s.heap I.big);refine wpAny_Dict_walk (knd:=?HR) hall hl h0 h15 (thn (h pins _ σ _ _ I1 (q _ hn)) fun ws s2 ⟨ps,H2,I2,rel,e,kvs,ep,lk,q2⟩=>?_);subst ep;obtain⟨rs,c,rk⟩:=xi (P:=X.prog) (w:=X.w) rel;obtain⟨z,hd,vs0,r0,dd⟩:=EQ I2.hok e;cases r0;refine⟨rs,c,dd,fun h' dd' hs=>⟨.ref s.heap.objs.size,_,?_,rfl,q2⟩⟩;have hz:(VG [] kvs).length<=sizeLine:=by
  have h1:=K0 kvs [];rw[Yz] at h1;rw[sizeLine_eq];lia
 have he:∃ q,h'.get? s.heap.objs.size=some q:=let ⟨q,_,_,hq,_⟩:=dd';⟨q,hq⟩
 exact cx I2 (by rw[e];exact ?Cz) hs he (rV hz hd (rk.merge .nil) dd')
structure M2 (X:Cx)(o:Expr)(m:Str)(apos:Pos)(e f:Expr)(cpos:Pos):Prop where
 base:attributeBase o m X.env (eval o X.env)=eval o X.env
 few:((backTo cpos (starEach [e,f] X.env)).all (fun x=>!x.1)&&(backToKw cpos (keywordEach [] X.env)).all (fun x=>x.1.isSome)
  && decide (([e,f]:?Ai).length+([]:?HX).length+(if ([]:?HX).isEmpty then 0 else 1)<30))=true
 line:(apos.endLine==cpos.line)=true
 trees:backTo cpos (starEach [e,f] X.env)=[(?AE,?C6),(?AE,eval f X.env)]
def IsD (H:Hp)(a:Addr):Prop:=(∃ kvs,Rd H a ?Bp)∨∃ kvs,Rd H a ?Cc
theorem Gy(I:?A6)(d:IsD H a) :
  s.TypeIs ?AI "dict" /\ (∀ b,Value.ref a=.ref b->∃ ob,s.heap.get? b=some ob/\ob.dict=none)/\?yB=false:=by
 rcases d with ⟨kvs,e⟩|⟨kvs,e⟩
 .obtain⟨_,hd,vs,_,dd⟩:=dQ I.hok e;refine⟨dd.typeIs,fun b q=>?_,hd⟩;cases q;obtain⟨ob,_,_,h1,h2,_⟩:=dd;exact⟨ob,h1,h2.2.1⟩
 .obtain⟨_,hd,xs,_,dd⟩:=gf I.hok e;refine⟨dd.typeIs,fun b q=>?_,hd⟩;cases q;obtain⟨ob,_,_,h1,h2,_⟩:=dd;exact⟨ob,h1,h2.2.1⟩
section
theorem GQ(hu:A.units+1<cLine)(I:?A6)(g:sN H a y o)(ry:?D9)(rd:YX d r)(h:∀ w' s',Inv X pins σ H s'->YX (o.getD d) w'->Q w' s') :
  wpAny ?AF A (call (.builtin "dict.get") [.ref a,u,r]) Q E s:=by
 rcases g with ⟨kvs,k,e,ey,l⟩|⟨kvs,k,b,e,ey,eb,l⟩
 .subst ey;obtain⟨z,hd,vs,rel,dd⟩:=dQ I.hok e;refine call_meetsIn PySem.F.slot_dict_get dd.typeIs PySem.F.entry_dict_get ?LO (meets_dict_get_default ?HR a (W4 ry) hd r) ⟨_,dd.mapOf,h _ _ ?B3 ?_⟩;rw[l];exact(rel.val k).getD rd
 .subst ey;cases (show u=Value.ref b from ry);obtain⟨z,hd,xs,rel,dd⟩:=gf I.hok e;refine call_meetsIn PySem.F.slot_dict_get dd.typeIs PySem.F.entry_dict_get ?LO (meetsH_dict_get_default (tupleKind ?HR) a b hd r) ⟨?IV,k,xs,cS I.hok eb,dd,h _ _ ?B3 ?_⟩;rw[l];exact(rel.val k).getD rd
end
def GZ (td ty tx:TE):TE:=fun σ H Q=>td σ H fun x H1=>∃ a,x=.ref a/\IsD H1 a/\ty σ H1 fun y H2=>tx σ H2 fun z H3=>∃ o,sN H3 a y o/\Q (o.getD z) H3
section
theorem fP (hu:X.A.units+1<cLine)(ho:PE X o td)(he:PE X e ty)(hf:PE X f tx)(m:M2 X o "get" apos e f cpos):PE X (.Call (.Attribute o "get" apos) [e,f] [] cpos) (GZ td ty tx):=by
 intro pins s σ H Q I h;refine wpAny_Call_method m.base m.few m.line PySem.F.plainAttrs_dict PySem.F.slot_dict_get PySem.F.type_dict_get (thn ?Gh fun u s1 ⟨x,H1,I1,rx,a,ex,d,q1⟩=>?_);subst ex;obtain rfl:u=Value.ref a:=rx;obtain⟨t1,t2,_⟩:=Gy I1 d;refine⟨t1,t2,?_⟩;rw[m.trees];refine Calls.callWith_builtin rfl (Calls.evalArgs_plain (Calls.spliced_cons (thn (he pins s1 σ H1 _ I1 q1) fun iv s2 ⟨y,H2,I2,ry,q2⟩=>
  Calls.spliced_cons (thn (hf pins s2 σ H2 _ I2 q2) fun fv s3 ⟨z,H3,I3,rz,ov,g,q3⟩=>Calls.spliced_nil ?_))))
 exact GQ hu I3 g ry rz fun w' s4 I4 rw'=>⟨_,H3,I4,rw',q3⟩
end
section
end
section
end
section
def Fe:HO->Bool
 |.dK _=>true
 |.dT _=>true
 |_=>false
theorem HOk.known(ok:?BA)(e:H a=some u)(d:Fe u=true)(ho:h.get? a=some o):HOk P w (upd H a ?D3) h:=fun b v q=>by
 have nown:∀ c y,H c=some (.own y)->c≠a:=fun c y r z=>by subst z;rw[e] at r;cases r;cases d
 have ntup:∀ c xs,H c=some ?Bc->c≠a:=fun c xs r z=>by subst z;rw[e] at r;cases r;cases d
 have st:∀ {b:Addr} {v:HO},Qt P w H h b v->Qt P w (upd H a ?D3) h b v:=fun {b v} x=>x.stay (fun _ _ _ z=>z) (fun c z=>by rw[yX (nown c _ z)];exact z) fun c xs z=>by rw[yX (ntup c _ z)];exact z
 by_cases hb:b=a
 .subst hb;rw[yT] at q;cases q;exact⟨ho,st (ok _ _ e)⟩
 .rw[yX hb] at q;exact st (ok _ _ q)
theorem Inv.known(I:?A6)(e:H a=some u)(d:Fe u=true)(ho:s.heap.get? a=some o):Inv X pins σ (upd H a ?D3) s:=by
 have nn:∀ b,H b=none->upd H a ?D3 b=none:=fun b z=>by
  rw[yX (fun y=>by subst y;rw[e] at z;cases z)];exact z
 refine⟨I.ok,I.os,?Dg,⟨I.base.keep,I.base.slot,fun b o' q n hx=>nn b (I.base.free b o' q n hx),I.base.there,fun b xs q=>?_,fun b o' v q=>?_,fun b ps q=>?_⟩,I.loc,I.cell,nn _ I.free,fun x c q=>nn _ (I.freeC x c q),fun p hp=>?_,I.hok.known e d ho,I.len⟩
 .have z:=I.base.tups b xs q;rw[yX (fun y=>by subst y;rw[e] at z;cases z;cases d)];exact z
 .have z:=I.base.frzs b o' v q;rw[yX (fun y=>by subst y;rw[e] at z;cases z;cases d)];exact z
 .obtain⟨m,z⟩:=I.base.tbls b ps q;exact⟨m,by rw[yX (fun y=>by subst y;rw[e] at z;cases z;cases d)];exact z⟩
 .obtain⟨q1,q2,q3⟩:=I.pin p hp;exact⟨q1,nn _ q2,q3⟩
end
def Itk (a:Addr)(o:Obj)(kvs:?qM):It:=
 ⟨fun i H=>H a=some ?Ec/\i<kvs.length,fun i H x H'=>H'=H/\∃ k v,kvs[i]?=some (k,v)/\x=kV k,fun i H=>H a=some ?Ec/\kvs.length<=i⟩
theorem IQ(h:(?BP).is k u=true):YX (kV k) u:=by
 cases k with
 |inl i=>obtain⟨t,e⟩:=Value.isInt_shape (k:=i) (v:=u) h;exact⟨t,e⟩
 |inr x=>obtain⟨t,e⟩:=Value.isStrOf_shape (x:=x) (v:=u) h;exact⟨t,e⟩
theorem ij(ok:?BA)(e:H a=some ?Ec)(hd:?vM):∃ vs,KV kvs vs/\Heap.DictAt ?BP h a vs ep/\?yB=false:=by
 obtain⟨h1,z,y,vs,r,o',es',ep',q1,q2,q3,q4⟩:=(show Qt P w H h a ?Ec from ok a _ e)
 rw[h1] at q1;cases q1;rw[hd] at q3;cases q3;exact⟨vs,r,⟨o,es,h1,q2,hd,q4⟩,y⟩
theorem rf {P:?AA}{w:?A9}{K:?A0}{tg:Expr}{a it:Addr}{o:Obj}{kvs:?qM}{es:Array DictEntry}{ep:Nat}(hd:?vM):Turn P w K tg (Itk a o kvs) [it] it (fun i h=>h.IsKeyIter it a i kvs.length ep) where
 mem:=by simp
 obj:=fun i h st b hb=>by
  have e:b=it:=by simpa using hb
  subst e;obtain⟨o,e,c,d⟩:=st;exact⟨o,e,fun v z=>by rw[d] at z;cases z⟩
 keep:=fun i h h' st k=>st.at fun o e=>k it (by simp) o e
 item:=by
  intro X hP hw hK hc i pins s σ H E I hf st hg;subst hP hw hK;obtain⟨ha,hi⟩:=hg;obtain⟨f0,f1,f2,f3,f4,f5⟩:=hf it (by simp);obtain⟨vs,r,da,_⟩:=ij I.hok ha hd;have hl:=r.length;obtain⟨p,hp⟩:∃ p,vs[i]?=some p:=⟨_,yj ?A⟩
  obtain⟨q,hq⟩:∃ q,kvs[i]?=some q:=⟨_,yj hi⟩
  have ek:q.1=p.1:=by
   have:=congrArg (·[i]?) r.keys;simp only[yC,hp,hq,Option.map_some,Option.some.injEq] at this;exact this
  rw[hl] at st;refine wpAny_pyNext_dict_item st da (k:=p.1) (v:=p.2) hp fun key h' hk st' sb=>?_;have I1:Inv X pins σ H {s with heap:=h'}:=I.turned (t':=?Ag) ?kP f0 f1 f3 f4 f5;refine⟨key,rfl,letGo_keyiter st' ⟨kV q.1,H,I1,?_,⟨rfl,q.1,q.2,hq,rfl⟩,?_,fun b hb=>?qP⟩⟩
  .rw[ek];exact IQ hk
  .rw[hl];exact st'
 done:=by
  intro X hP hw hK hc i pins s σ H E I hf st hg;subst hP hw hK;obtain⟨ha,hi⟩:=hg;obtain⟨f0,f1,f2,f3,f4,f5⟩:=hf it (by simp);obtain⟨vs,r,da,_⟩:=ij I.hok ha hd;have hl:=r.length;rw[hl] at st;exact wpAny_pyNext_dict_end ?CB st da (yG.mpr ?A) fun h' eb=>?wT
 self:=fun _ _ _ _ _ st h=>wpAny_pyIter_keyiter st h
def Lv (tl:TE):TI:=fun σ H R=>tl σ H fun x H1=>∃ a o kvs,x=.ref a/\H1 a=some ?Ec/\R (Itk a o kvs) H1
theorem mh(hl:PE X l tl):PI X tg l (Lv tl):=by
 intro pins s σ H R I h;refine thn ?Gi fun v s1 ⟨x,H1,I1,r1,q1⟩=>?_;obtain⟨a,o,kvs,e,ha,q⟩:=q1;subst e;cases r1;obtain⟨h1,z,y,vs0,r0,o',es,ep,p1,p2,p3,p4⟩:=(show Qt X.prog X.w H1 s1.heap a ?Ec from I1.hok a _ ha)
 rw[h1] at p1;cases p1;obtain⟨vs,r,da,hy⟩:=ij I1.hok ha p3;refine wpAny_pyIter_dict hy da ?_;refine⟨?Gx,[s1.heap.objs.size],_,_,H1,rfl,I1.kept (t':=?EH) fun b o e=>?At,rf (a:=a) (kvs:=kvs) p3,?_,fun b hb=>?_,q⟩
 .rw[r.length];exact ?ER
 .have e:b=s1.heap.objs.size:=by simpa using hb
  subst e;exact ?FS
end L2
namespace L3
open PySem PySem.Spec PySem.Calls PyProof.Rows L2
def KU:Key->D
 |.inl i=>.int i
 |.inr x=>.str x
def k2D:K2->D
 |.inl k=>KU k
 |.inr ks=>.tup ?FA
def kD (ks:?BB):D:=.tup (ks.map k2D)
theorem U0 {K:?A0}{F:Hp}{k:Key}{v:V}(h:Is K F (KU k) v):v=kV k:=by
 cases k with
 |inl i=>exact isI h
 |inr x=>exact isS h
theorem KJ {K:?A0}{F:Hp}:∀ {ks:List Key} {xs:List V},IsL K F ?FA xs->xs=ks.map kV
 |[],_,h=>by simp only[Q6,IsL] at h;subst h;rfl
 |k::ks,_,h=>by
  simp only[yD,IsL] at h;obtain⟨x,r,rfl,h1,h2⟩:=h;rw[U0 h1,KJ h2];rfl
section
theorem HG (I:?A6)(h:Is X.K H (k2D k) x)(r:YX x u):ua s.heap k u:=by
 cases k with
 |inl k=>
  rw[U0 h] at r;exact r
 |inr ks=>
  obtain⟨a,xs,rfl,s1,il⟩:=isT h;obtain⟨us,rv,t1,_⟩:=I.tuple s1;rw[KJ il] at rv;exact⟨a,r,us,t1,rv⟩
theorem AX (I:?A6):∀ {ks:List K2} {xs:List V} {us:List Value},IsL X.K H (ks.map k2D) xs->qj xs us->Paired (ua s.heap) ks us
 |[],_,_,h,r=>by
  simp only[Q6,IsL] at h;subst h;cases r;exact .nil
 |k::ks,_,_,h,r=>by
  simp only[yD,IsL] at h;obtain⟨x,r',rfl,h1,h2⟩:=h;cases r with
  |cons a b=>exact .cons (HG I h1 a) (AX I h2 b)
theorem xE (I:?A6)(h:Is X.K H (kD ks) ?AI):?Jc:=by
 obtain⟨a',xs,e,s1,il⟩:=isT h;cases e;obtain⟨us,rv,t1,_⟩:=I.tuple s1;exact⟨us,t1,AX I il rv⟩
end
abbrev DP (K:?A0)(F:Hp):List (List K2×D)->List ?vF->Prop:=Paired fun p q=>p.1=q.1/\Is K F (kD q.1) (.ref q.2.1)/\∃ v,YX v q.2.2/\Is K F p.2 v
def atD (kvs:?zX)(k:?BB):Option D:=(kvs.find? fun p=>?wP).map ?zC
def xr (kvs:?zX)(k:?BB)(d:D):?zX:=if (atD kvs k).isSome=true then kvs.map fun p=>if p.1=k then (p.1,d) else p else kvs++[(k,d)]
theorem DP.mono {K:?A0}{F F':Hp}{kvs:?zX}{xs:List ?vF}(h:?Jy)(e:?FJ):DP K F' kvs xs:=Paired.mapP h fun p q ⟨h1,h2,v,r,i⟩=>⟨h1,h2.mono e,v,r,i.mono e⟩
theorem DP.at {K:?A0}{F:Hp}{k:?BB}:∀ {kvs:List (List K2×D)} {xs:List (List K2×Addr×Value)},DP K F kvs xs->(atKey xs k=none/\atD kvs k=none)∨∃ p d v,atKey xs k=some p/\atD kvs k=some d/\YX v p.2/\Is K F d v
 |_,_,.nil=>.inl ?CV
 |_,_,@Paired.cons _ _ _ p q ps qs ⟨h1,h2,v,r,i⟩ t=>by
  by_cases e:p.1=k
  .have e':q.1=k:=h1.symm.trans e;exact .inr ⟨q.2,p.2,v,by simp[atKey,y3,e'],by simp[atD,y3,e],r,i⟩
  .have e':¬ q.1=k:=fun z=>e ?Ey;have ih:=DP.at (k:=k) t
   rwa [show atKey qs k=atKey (q::qs) k by simp[atKey,y3,e'],show atD ps k=atD (p::ps) k by simp[atD,y3,e]] at ih
theorem DP.some_eq {K:?A0}{F:Hp}{k:?BB}{kvs:?zX}{xs:List ?vF}(h:?Jy):(?Hs).isSome=(atD kvs k).isSome:=by
 rcases h.at (k:=k) with ⟨e1,e2⟩|⟨p,d,v,e1,e2,_⟩
 .rw[e1,e2];rfl
 .rw[e1,e2];rfl
theorem DP.put {K:?A0}{F:Hp}{k:?BB}{kvs:?zX}{xs:List ?vF}{a:Addr}{d:D}{v:V}{u:?AJ}(h:?Jy)(hk:Is K F (kD k) ?AI)(r:?DA)(i:?GA):DP K F (xr kvs k d) (storedH xs k a u):=by
 unfold xr storedH;rw[h.some_eq];split
 .have go:∀ {ps:List (List K2×D)} {qs:List (List K2×Addr×Value)},DP K F ps qs->DP K F (ps.map fun p=>if p.1=k then (p.1,d) else p) (qs.map (putAt k u)):=by
   intro ps qs t
   induction t with
   |nil=>exact .nil
   |@cons p q ps qs hh t ih=>
    obtain⟨h1,h2,v',r',i'⟩:=hh;rw[yD,yD];refine .cons ?_ ih;unfold putAt;by_cases e:p.1=k
    .rw[yc e,yc ?JO];exact⟨h1,h2,v,r,i⟩
    .rw[yd e,yd fun z=>e ?Ey];exact⟨h1,h2,v',r',i'⟩
  exact go h
 .exact Paired.snoc h ⟨rfl,hk,v,r,i⟩
def ky (P:?AA)(w:?A9)(K:?A0)(a:Addr)(kvs:?zX):Ow:=fun F o=>∃ xs,o=bJ P w a xs/\DP K F kvs xs
theorem gm {P:?AA}{w:?A9}{K:?A0}{a:Addr}{kvs:?zX}{L:Bool}:∀ F o,ky P w K a kvs F o->Z6 L o=true:=fun F o ⟨xs,e,_⟩=>by subst e;rfl
section
theorem dg (I:?A6)(e:H l=some ?Go)(h:DP X.K H kvs xs):(l==sysModules)=false/\s.heap.DictOfH (sG X.prog X.w) l xs:=by
 obtain⟨⟨h0,o,es,ep,h1,h2,h3,h4,h5⟩,_⟩:=(show Qt X.prog X.w H s.heap l ?Go from I.hok l _ e)
 refine⟨h0,o,es,ep,h1,h2,h3,h4,fun x hx=>?_,h5⟩;obtain⟨p,_,hp⟩:=VI h hx;exact xE I hp.2.1
end
def GX (X:Cx)(neg:Bool):R2:=fun x y H Q=>∃ b l ks kvs xs,x=.ref b/\Is X.K H (kD ks) x/\y=.ref l/\H l=some ?Go/\DP X.K H kvs xs/\Q (.bl (if neg then !(?F0).isSome else (?F0).isSome)) H
def HQ (X:Cx):CM:=fun o i v H Q=>∃ l b ks kvs xs d,o=.ref l/\i=.ref b/\Is X.K H (kD ks) i/\H l=some ?Go/\DP X.K H kvs xs/\kvs.length<sizeLine/\Is X.K H d v/\∀ u,YX v u->Q (upd H l (bJ X.prog X.w l (storedH xs ks b u)))
section
theorem FT (hu:?Q):OpR X (compareOp .In) (GX X false):=by
 rintro pins s σ H x y v u Q I rx ry ⟨b,l,ks,kvs,xs,rfl,hk,rfl,hl,dp,q⟩;cases rx;cases ry;obtain⟨h0,dd⟩:=dg I hl dp;refine wpAny_in_heap ?kR (xE I hk) h0 dd ?_;rw[dp.some_eq];exact ?Ly
theorem rq (hu:?Q):OpR X (compareOp .NotIn) (GX X true):=by
 rintro pins s σ H x y v u Q I rx ry ⟨b,l,ks,kvs,xs,rfl,hk,rfl,hl,dp,q⟩;cases rx;cases ry;obtain⟨h0,dd⟩:=dg I hl dp;refine wpAny_notIn_heap ?kR (xE I hk) h0 dd ?_;rw[dp.some_eq];exact ?Ly
theorem Dw (hu:?Q):G1 X (HQ X):=by
 rintro pins s σ H o i v ov iv u Q I ro ri rv ⟨l,b,ks,kvs,xs,d,rfl,rfl,hk,hl,dp,hz,hd,q⟩;cases ro;cases ri;obtain⟨h0,dd⟩:=dg I hl dp;have hx:xs.length<=sizeLine:=by rw[←Paired.length dp];lia
 refine wpAny_setItem_heap (hsz:=hx) ?kR (xE I hk) dd fun h' dd' hs=>⟨_,?_,q u rv⟩
 obtain⟨o',es,ep,z1,z2,z3,z4,_,z5⟩:=dd';exact I.write (x:=l) (e:=l) (by rw[hl];exact ?Cz) ?A2 (fun c q hb z=>(hs.2 c hb).trans z) ⟨o',z1⟩ (nT ⟨h0,o',es,ep,z1,z2,z3,z4,z5⟩)
theorem BA:PE X (.Dict [] [] pos) (fun _ H Q=>∀ p,H p=none->Q (.ref p) (upd H p (bJ X.prog X.w p []))):=fun pins s σ H Q I h=>
 wpAny_Dict_empty ⟨.ref s.heap.objs.size,_,I.laid (a:=?C8) (o:=bJ X.prog X.w s.heap.objs.size []) (t':=?Ag) (fun _ _ q=>?CI) ?AC
  (nT ⟨beq_eq_false_iff_ne.mpr (Ne.symm (Yb (iL I))),_,#[],0,yF _ rfl,⟨rfl,rfl,rfl⟩,rfl,rfl,Qw⟩),rfl,h _ ?Bm⟩
end
section
theorem ic (r:∀ l,R ?Ak ((l,ky X.prog X.w X.K l [])::Ω)):V3 X B (.Dict [] [] pos) Γ Ω R:=fun F σ H S pins s I=>
 BA pins s σ H _ I fun l hl=>⟨?Ak,_,F,S.new ?Iz hl (S.fh.free hl) yT (fun F2 _=>⟨[],rfl,.nil⟩),?AH,Vg F,r l⟩
theorem nH {x y:V}(S:?IU)(i1:Is X.K F (kD ks) x)(i2:Is X.K F ?Ak y)(m:(l,?EP)∈Ω)
  (q:Q (.bl (if neg then !(?F0).isSome else (?F0).isSome)) H):GX X neg x y H Q:=by
 cases isR i2;obtain⟨fa,o',ha,ho⟩:=S.own _ m;obtain⟨xs,rfl,dp⟩:=ho F ?AH;obtain⟨c,_,rfl,_⟩:=isT i1;exact⟨c,l,ks,kvs,xs,rfl,i1.mono S.fh,rfl,ha,dp.mono S.fh,q⟩
theorem GH (hu:?Q)(h:V3 X B a Γ Ω fun d Ω1=>∃ ks,d=kD ks/\V3 X B b Γ Ω1 fun d' Ω2=>∃ l kvs,d'=.raw ?Df/\(l,?EP)∈Ω2/\RT (?F0).isSome Ω2)
  (hm:behindInMarks .In b=false:=by first|exact xb _|with_unfolding_all rfl):VT3 X B (.Compare a [.In] [b] pos) Γ Ω RT:=fun F σ H S pins s I=>
 b9 (FT hu) j6 j6 hm pins s σ H _ I ((?AV).mono fun x H1 ⟨d,Ω1,F1,S1,f1,i1,ks,e1,h1⟩=>(?DM).mono fun y H2 ⟨d',Ω2,F2,S2,f2,i2,l,kvs,e2,m,q⟩=>by
  subst e1 e2;exact ?KQ)
theorem KF (hu:?Q)(h:V3 X B a Γ Ω fun d Ω1=>∃ ks,d=kD ks/\V3 X B b Γ Ω1 fun d' Ω2=>∃ l kvs,d'=.raw ?Df/\(l,?EP)∈Ω2/\RT (!(?F0).isSome) Ω2)
  (hm:behindInMarks .NotIn b=false:=by first|exact xb _|with_unfolding_all rfl):VT3 X B (.Compare a [.NotIn] [b] pos) Γ Ω RT:=fun F σ H S pins s I=>
 b9 (rq hu) j6 j6 hm pins s σ H _ I ((?AV).mono fun x H1 ⟨d,Ω1,F1,S1,f1,i1,ks,e1,h1⟩=>(?DM).mono fun y H2 ⟨d',Ω2,F2,S2,f2,i2,l,kvs,e2,m,q⟩=>by
  subst e1 e2;exact ?KQ)
theorem lD (hu:?Q)(h:V3 X B e Γ Ω fun d Ω1=>V3 X B o Γ Ω1 fun dq Ω2=>∃ l,dq=.raw ?Df/\V3 X B i Γ Ω2 fun di Ω3=>∃ ks kvs Ω4,di=kD ks/\Ω3.Perm ((l,?EP)::Ω4)/\kvs.length<sizeLine/\W3 X B rest Γ ((l,ky X.prog X.w X.K l (xr kvs ks d))::Ω4) E)
  (hs:swapsWithSole [.Subscript o i tpos] e spos.line X.env=pure false:=by rfl) (hw:swappedStores [.Subscript o i tpos] e X.env=pure none:=by rfl) (h1:(assignEach [.Subscript o i tpos] X.env).map ?zC=[assign ?In X.env]:=by rfl)
  (ha:∀ v,assign ?In X.env v=(do
   let ov ←holding [v] (eval o X.env)
   let iv ←holding [v,ov] (eval i X.env)
   standAt tpos
   holding [v,ov,iv] (setItem ov iv v)
   release [v,ov,iv] []):=by intro _;rfl):W3 X B (.Assign [.Subscript o i tpos] e spos::rest) Γ Ω E:=fun F σ H S pins s I=>
 qm (gO j6 (Cp j6 j6 (Dw hu) ha) hs hw h1) Qb pins s σ H _ I ((?AV).mono fun v H1 ⟨d,Ω1,F1,S1,f1,i1,h1⟩=>(?DM).mono fun y H2 ⟨dq,Ω2,F2,S2,f2,i2,l,e2,h2⟩=>(h2 F2 σ H2 S2).mono fun z H3 ⟨di,Ω3,F3,S3,f3,i3,ks,kvs,Ω4,e3,pm,hz,h3⟩=>by
  subst e2 e3;cases isR i2;have S4:=S3.perm pm.symm;obtain⟨fa,o',ha',ho⟩:=S4.own (l,?EP) (by simp);obtain⟨xs,rfl,dp⟩:=ho F3 ?AH;obtain⟨c,_,rfl,_⟩:=isT i3;refine⟨l,c,ks,kvs,xs,d,rfl,rfl,i3.mono S3.fh,ha',dp.mono S3.fh,hz,(i1.mono (f2.trans f3)).mono S3.fh,fun u ru=>?_⟩;exact qp (f1.trans (f2.trans f3)) (h3 F3 σ _ (S4.turn fun F5 e5=>⟨_,rfl,DP.put (dp.mono e5) (i3.mono e5) ru (i1.mono (f2.trans (f3.trans e5)))⟩)))
end
section
end
section
end
end L3
namespace L2
open PySem PySem.Spec PySem.Calls PyProof.Rows
end L2
namespace L3
open PySem PySem.Spec PySem.Calls PyProof.Rows L2
section
theorem Af(h1:∀ q∈Ω',q∈Ω)(h2:(Ω'.map ?C).Nodup)(h:W3 X B sts Γ Ω' E):W3 X B sts Γ Ω E:=fun F σ H S=>
 h F σ H ⟨S.f0,S.fh,S.fr,S.kp,h2,fun q hq=>S.od q (h1 q hq),fun q hq=>S.own q (h1 q hq),S.sl⟩
def spR (K:?A0)(n:Nat)(C0:?zL)(C:?G):Sp:=fun vs H Q _=>∃ ds F,ds.length=n/\Yc F H/\IsL K F ds vs/\C0 ds/\∀ d,C ds d->∀ v H' F',Pur F H F' H'->Is K F' d v->Q v H'
theorem nc(o:OkF X.prog X.w X.K X.mg X.base CX0 k x ps (spR X.K n C0 C))(hr:?Aw)(hg:?Af)(ha:?yP)(h0:C0 ds)(h:∀ d,C ds d->R d Ω)(hn:ds.length=n:=by rfl)(hdb:?L:=by decide)
  (he:?W:=by rfl) (hpl:?zD:=by rfl):?Iy:=fun F σ H S pins s I=>
 xZ o hr hg ha hdb he hpl pins s σ H _ I ⟨F,S.fh,S.sl,fun vs H' F' pu i=>by
  dsimp only;rw[Yq];exact⟨ds,F',hn,pu.fh,i,h0,fun d hd v H2 F2 p2 i2=>⟨d,Ω,F2,S.pur ?Fk,pu.ff.trans p2.ff,i2,h d hd⟩⟩⟩
end
theorem AM {P:?AA}{w:?A9}{K:?A0}{mg:?J}{base:Heap}{x:Str}{st:Stmt}{N ps:?A1}{k n:Nat}{C0:?zL}{C:?G}(d:?F2)(S:?BW)(hn:?qQ)
  (body:∀ (f:Addr) (cdv:Value) (A:Around) (outer:List Env) (s:Shared) (H:Hp) (E:XK),Room k ?FV->∀ (ds:List D),C0 ds->∀ B:Bs,B.M=[]->
   W3 ?GW B ?Ar ?D6 [] ⟨fun _ _=>?AB,fun r _=>C ds r,fun _ _=>?AB,fun _ _=>?AB⟩):OkF P w K mg base CX0 (k+1) x ps (spR K n C0 C):=by
 refine d.ok S (fun vs H Q E h=>?_) fun f cdv A outer s H vs Q E hr h=>?DS
 .obtain⟨ds,F,l,_,i,_⟩:=h;rw[i.len,l,hn]
 .obtain⟨ds,F,hl,fh,il,c0,q⟩:=h;refine Qa (D:=E3.to K ?yA F ⟨fun _ _=>?AB,fun r _=>C ds r,fun _ _=>?AB,fun _ _=>?AB⟩) (D':={nx:=fun _ H'=>?Ay,rt:=Q}) ?_ ?_ ?_ ?_ (body f cdv A outer s H E hr ds c0 ?yA rfl F _ H ?G3)
  .rintro σ' H' ⟨_,_,_,_,_,z⟩;exact ?AQ
  .rintro v H' ⟨r,Ω',F',⟨σ',S'⟩,f',iv,hC⟩;exact q r hC v H' F' ?E6 iv
  .rintro σ' H' ⟨_,_,_,_,_,z⟩;exact ?AQ
  .rintro σ' H' ⟨_,_,_,_,_,z⟩;exact ?AQ
section
variable [DecidableEq κ]
def vA (ks:?Ax)(xs:?B4)(k:κ):Option α:=((?B1).find? fun p=>?wP).map ?zC
def pK (ks:?Ax)(k:κ):?Ax:=if k∈ks then ks else ks++[k]
def pA (ks:?Ax)(xs:?B4)(k:κ)(v:α):?B4:=if k∈ks then (?B1).map fun p=>if p.1=k then v else p.2 else xs++[v]
theorem Ws {ks:?Ax}{xs:?AL}{k:κ}:xV ?B1 k=vA ks xs k:=rfl
theorem mE:∀ {ks:List κ} {xs:List α},ks.length=xs.length->((?B1).any fun kv=>?qH)=decide (k∈ks)
 |[],_,_=>by simp
 |q::ks,[],h=>by simp at h
 |q::ks,x::xs,h=>by
  rw[yU,zc,mE (by simpa using h)];by_cases e:q=k
  .subst e;simp
  .have e':¬ k=q:=fun z=>e z.symm;simp[e,e']
theorem zip_map:∀ {ks:List κ} {xs:List α},ks.length=xs.length->(?B1).map (fun kv=>if kv.1=k then (kv.1,v) else kv)=ks.zip ((?B1).map fun p=>?xC)
 |[],_,_=>by simp
 |q::ks,[],h=>by simp at h
 |q::ks,x::xs,h=>by
  rw[yU,yD,yD,yU,zip_map (by simpa using h)];split <;> rfl
theorem UY:∀ {ks:List κ} {xs:List α},ks.length=xs.length->ks.zip xs++[(k,v)]=(ks++[k]).zip (xs++[v])
 |[],[],_=>rfl
 |[],_::_,h=>by simp at h
 |_::_,[],h=>by simp at h
 |q::ks,x::xs,h=>by rw[yU,qP,qP,qP,yU,UY (by simpa using h)]
theorem fC {ks:?Ax}{xs:?AL}{k:κ}{v:V}(h:ks.length=xs.length):vI ?B1 k v=(?Da).zip ?Ep:=by
 unfold vI pK pA;rw[mE h];by_cases q:k∈ks
 .rw[yc (yK q),yc q,yc q,zip_map h]
 .rw[yd (by simpa using q),yd q,yd q,UY h]
theorem V1 {ks:?Ax}{xs:?B4}{k:κ}{v:α}(h:ks.length=xs.length):(?Da).length=(?Ep).length:=by
 unfold pK pA;split
 .rw[yf,YZ];lia
 .rw[yI,yI,h];rfl
theorem fT {K:?A0}{F:Hp}{k:κ}:∀ {ks:List κ} {ds:List D} {xs:List V},IsL K F ds xs->(vA ks ds k=none/\vA ks xs k=none)∨∃ d v,vA ks ds k=some d/\vA ks xs k=some v/\Is K F d v
 |[],_,_,_=>.inl ?CV
 |q::ks,[],_,h=>by
  simp only[IsL] at h;subst h;exact .inl ?CV
 |q::ks,d::ds,_,h=>by
  simp only[IsL] at h;obtain⟨x,r,rfl,h1,h2⟩:=h;unfold vA;rw[yU,yU,y3,y3];by_cases e:q=k
  .rw[yK e];exact .inr ⟨d,x,rfl,rfl,h1⟩
  .rw[yu e];exact fT (k:=k) (ks:=ks) h2
theorem sX {K:?A0}{F:Hp}{k:κ}{d:D}{v:V}(iv:?GA):∀ {ks:List κ} {ds:List D} {xs:List V},IsL K F ds xs->IsL K F ((ks.zip ds).map fun p=>if p.1=k then d else p.2) ((?B1).map fun p=>?xC)
 |[],_,_,_=>IsL.nil
 |q::ks,[],_,h=>by
  simp only[IsL] at h;subst h;exact ?CG
 |q::ks,e::ds,_,h=>by
  simp only[IsL] at h;obtain⟨x,r,rfl,h1,h2⟩:=h;rw[yU,yU,yD,yD];refine IsL.cons ?_ (sX iv h2);by_cases z:q=k
  .rw[yc z,yc z];exact iv
  .rw[yd z,yd z];exact h1
theorem EZ {K:?A0}{F:Hp}{ks:?Ax}{ds:?AD}{xs:?AL}{k:κ}{d:D}{v:V}(h:?El)(iv:?GA):IsL K F (pA ks ds k d) ?Ep:=by
 unfold pA;split
 .exact sX iv h
 .exact h.append ?Gt
end
def oDk (K:?A0)(ks:?Av)(ds:?AD):Ow:=fun F o=>∃ xs,o=.dK ?B1/\ks.length=xs.length/\IsL K F ds xs
def oDt (K:?A0)(ks:?ED)(ds:?AD):Ow:=fun F o=>∃ xs,o=.dT ?B1/\ks.length=xs.length/\IsL K F ds xs
theorem Gm {K:?A0}{F:Hp}{ks:?Av}{ds:?AD}{v:V}(h:Is K F ?E9 v):∃ a xs o,v=.ref a/\F a=some (.frz o (.dK ?B1))/\ks.length=xs.length/\IsL K F ds xs:=by simpa only[Is] using h
theorem HL {K:?A0}{F:Hp}{ks:?ED}{ds:?AD}{v:V}(h:Is K F (.dt ks ds) v):∃ a xs,v=.ref a/\Rd F a (.dT ?B1)/\ks.length=xs.length/\IsL K F ds xs:=by simpa only[Is] using h
def kT (k:?Av):?AD:=k.map KU
section
variable {X:Cx}{B:Bs}{Γ:Ga}{Ω:Om}{E:E3}{rest:?BM}{a b o e f i tg:Expr}{es:?Ai}{d d':D}{ds:?AD}{ks:?Av}{kt:List (List Key)}{pos apos cpos:Pos}{R:?yK}
theorem UI (hu:?Q):X.A.units+1<cLine:=by lia
theorem dZ {k:Key}(hu:?Q)(ho:P3 X Γ o ?E9)(hi:P3 X Γ i (KU k))(hv:vA ks ds k=some d)(hs:BW i:=by exact ?yH):P3 X Γ ?Ff d:=
 PE.of (mw (UI hu) ho hi hs) fun σ H Q ⟨F,fh,sl,q⟩=>⟨F,fh,sl,fun x H1 F1 p1 i1=>⟨F1,?BF,?C3,fun y H2 F2 p2 i2=>by
  obtain⟨l,xs,ob,rfl,hl,hz,il⟩:=Gm ?Jk;rw[U0 i2];rcases fT (k:=k) (ks:=ks) il with ⟨z,_⟩|⟨d1,v,z1,z2,z3⟩
  .rw[z] at hv;cases hv
  .rw[hv] at z1;cases z1;exact⟨l,v,rfl,.inl ⟨_,k,.inr ⟨ob,p2.fh _ _ hl⟩,rfl,by rw[Ws,z2]⟩,q v H2 F2 ?Bl z3⟩⟩⟩
theorem aX {k:?Av}{x1}{tpos:Pos}(hu:?Q)(ho:P3 X Γ o (.dt kt ds))(he:?J0)(hf:P3 X Γ f d')(hz:(kT k).length<=sizeLine:=by first|exact Nat.le_of_ble_eq_true rfl|(simp only[kT,yf,yi,Yz];decide))(m:M2 X o "get" apos ?Ea f cpos:=by exact⟨rfl,rfl,rfl,rfl⟩):P3 X Γ (.Call (.Attribute o "get" apos) [.Tuple es x1 tpos,f] [] cpos) ((vA kt ds k).getD d'):=
 PE.of (fP (UI hu) ho (W9 he) hf m) fun σ H Q ⟨F,fh,sl,q⟩=>⟨F,fh,sl,fun x H1 F1 p1 i1=>by
  obtain⟨l,xs,rfl,hl,hz',il⟩:=HL i1;have hl1:Rd H1 l (.dT (kt.zip xs)):=zC p1.fh hl;refine⟨l,rfl,.inr ⟨_,hl1⟩,F1,?BF,?C3,fun ys H2 F2 p2 i2=>⟨by rw[i2.len];exact hz,fun t ht=>?_⟩⟩;have pt:=p2.trans ?LM;refine⟨_,(Pur.lay p2.fh ht).fh,sl.mono (p1.ff.trans pt.ff),fun u H3 F3 p3 i3=>?_⟩;have et:H3 t=some (.tup (k.map kV)):=by
   have:=KJ (ks:=k) i2;rw[←this];exact p3.hh _ _ yT
  refine⟨_,.inr ⟨_,k,t,zC p3.hh (zC pt.hh hl1),rfl,et,rfl⟩,q _ H3 F3 ((p1.trans pt).trans p3) ?_⟩;rw[Ws];rcases fT (k:=k) (ks:=kt) (il.mono (pt.ff.trans p3.ff)) with ⟨z1,z2⟩|⟨d1,v,z1,z2,z3⟩
  .rw[z1,z2];exact i3
  .rw[z1,z2];exact z3⟩
theorem GP (h:P3 X Γ a ?E9):I3 X Γ tg a ?FA:=PI.of (mh h) fun σ H Q ⟨F,fh,sl,q⟩=>⟨F,fh,sl,fun v H' F' p i=>by
 obtain⟨l,xs,ob,rfl,hl,hz,il⟩:=Gm i;refine⟨l,ob,_,rfl,p.fh _ _ hl,q _ H' F' p fun n F2 H2 e1 e2=>⟨fun d w=>?_,fun w=>⟨?Gn,by rw[YZ];rw[yf] at w;lia⟩⟩⟩;rw[yC] at w;obtain⟨k,hk,rfl⟩:=Yt.mp w;have hn:n<ks.length:=(yk.mp hk).1;refine⟨⟨?Gn,by rw[YZ];lia⟩,fun x H3 ⟨z,k',v',hkv,ex⟩=>?_⟩;subst z ex;have:k'=k:=by
  rw[qw] at hkv;rw[hk] at hkv;exact(Option.some.inj hkv.1).symm
 subst this;refine⟨F2,?G4,?_⟩;cases k' with
 |inl j=>exact Jm F2
 |inr y=>exact fu F2⟩
theorem Ai (r:∀ l,R ?Ak ((l,oDk X.K [] [])::Ω)):V3 X B (.Dict [] [] pos) Γ Ω R:=fun F σ H S pins s I=>
 Cd pins s σ H _ I fun l hl=>⟨?Ak,_,F,S.new ?Iz hl (S.fh.free hl) yT (fun F2 _=>⟨[],rfl,rfl,?CG⟩),?AH,Vg F,r l⟩
theorem de (r:∀ l,R ?Ak ((l,oDt X.K [] [])::Ω)):V3 X B (.Dict [] [] pos) Γ Ω R:=fun F σ H S pins s I=>
 CD pins s σ H _ I fun l hl=>⟨?Ak,_,F,S.new ?Iz hl (S.fh.free hl) yT (fun F2 _=>⟨[],rfl,rfl,?CG⟩),?AH,Vg F,r l⟩
theorem FI {k:Key}{l:Addr}(hu:?Q)(ho:P3 X Γ o ?Ak)(hm:(l,?C2)∈Ω)(he:P3 X Γ e (KU k))(hf:P3 X Γ f d')(r:R ((vA ks ds k).getD d') Ω)(m:M2 X o "get" apos e f cpos:=by exact⟨rfl,rfl,rfl,rfl⟩):V3 X B (.Call (.Attribute o "get" apos) [e,f] [] cpos) Γ Ω R:=fun F σ H S pins s I=>
 fP (UI hu) ho he hf m pins s σ H _ I ⟨F,S.fh,S.sl,fun x H1 F1 p1 i1=>by
  cases isR i1;have S1:=S.pur p1;obtain⟨fa,ob,ha,hob⟩:=S1.own _ hm;obtain⟨xs,rfl,hz,il⟩:=hob F1 ?AH;refine⟨l,rfl,.inl ⟨_,.inl ha⟩,F1,?BF,S1.sl,fun y H2 F2 p2 i2=>⟨F2,p2.fh,S1.sl.mono p2.ff,fun u H3 F3 p3 i3=>?_⟩⟩;rw[U0 i2];have S3:=(?GI).pur p3;refine⟨_,.inl ⟨_,k,.inl (p3.hh _ _ (p2.hh _ _ ha)),rfl,rfl⟩,_,Ω,F3,S3,p1.ff.trans ?JD,?_,r⟩;rw[Ws];rcases fT (k:=k) (ks:=ks) (il.mono (p2.ff.trans p3.ff)) with ⟨z1,z2⟩|⟨d1,v,z1,z2,z3⟩
  .rw[z1,z2];exact i3
  .rw[z1,z2];exact z3⟩
theorem Ct {spos tpos:Pos}{l:Addr}{k:Key}(hu:?Q)(ho:P3 X Γ o ?Ak)(hi:P3 X Γ i (KU k))
  (h:V3 X B e Γ Ω fun d Ω1=>∃ ks ds Ω4,Ω1.Perm ((l,?C2)::Ω4)/\ks.length<sizeLine/\W3 X B rest Γ ((l,oDk X.K ?Da (pA ks ds k d))::Ω4) E)
  (hs:swapsWith e (some ?In) spos.line X.env=pure false:=by rfl):W3 X B (.Assign [.Subscript o i tpos] e spos::rest) Γ Ω E:=fun F σ H S pins s I=>
 qm (oq (UI hu) ho hi j6 hs) Qb pins s σ H _ I ((?AV).mono fun v H1 ⟨d,Ω1,F1,S1,f1,i1,ks,ds,Ω4,pm,hz,h1⟩=>⟨F1,S1.fh,S1.sl,fun x H2 F2 p2 i2=>⟨F2,p2.fh,S1.sl.mono p2.ff,fun y H3 F3 p3 i3=>by
  cases isR i2;rw[U0 i3];have S3:=((?GI).pur p3).perm pm.symm;obtain⟨fa,ob,ha,hob⟩:=S3.own (l,?C2) (by simp);obtain⟨xs,rfl,hl,il⟩:=hob F3 ?AH;refine⟨l,_,rfl,eg.k ha (by rw[YZ];lia),qp (f1.trans ?JD) (h1 F3 σ _ ?_)⟩;rw[fC hl];exact S3.turn fun F5 e5=>⟨_,rfl,V1 hl,EZ (il.mono e5) (i1.mono (p2.ff.trans (p3.ff.trans e5)))⟩⟩⟩)
theorem c9 {spos tpos kpos:Pos}{x1}{l:Addr}{k:?Av}(hu:?Q)(ho:V3 X B o Γ Ω fun dq Ω1=>dq=.raw ?Df/\Ω1=Ω)(hi:?J0)
  (h:?Cw) {kt:?ED} {ds:?AD} {Ω4:Om} (pm:Ω.Perm ((l,?Ft)::Ω4)) (hz:kt.length<sizeLine) (hw:W3 X B rest Γ ((l,oDt X.K (pK kt k) (pA kt ds k d))::Ω4) E) (hk:(kT k).length<=sizeLine:=by first|exact Nat.le_of_ble_eq_true rfl|(simp only[kT,yf,yi,Yz];decide))
  (hs:swapsWith e (some (.Subscript o (.Tuple es x1 kpos) tpos)) spos.line X.env=pure false:=by rfl):W3 X B (.Assign [.Subscript o (.Tuple es x1 kpos) tpos] e spos::rest) Γ Ω E:=fun F σ H S pins s I=>
 qm (oq (UI hu) j6 (W9 hi) h hs) Qb pins s σ H _ I ⟨F,S.fh,S.sl,fun v H1 F1 p1 i1=>(ho F1 σ H1 (S.pur p1)).mono fun x H2 ⟨dq,Ω1,F2,S2,f2,i2,e2,e3⟩=>by
  subst e2 e3;cases isR i2;refine⟨F2,S2.fh,S2.sl,fun ys H3 F3 p3 i3=>⟨by rw[i3.len];exact hk,fun t ht=>?_⟩⟩;have pt:=p3.trans (Pur.lay (o:=.tup ys) p3.fh ht);have S3:=(S2.pur pt).perm pm.symm;obtain⟨fa,ob,ha,hob⟩:=S3.own (l,?Ft) (by simp);obtain⟨xs,rfl,hl,il⟩:=hob _ ?AH;have et:upd H3 t (.tup ys) t=some (.tup (k.map kV)):=by
   rw[←KJ (ks:=k) i3];exact yT
  refine⟨l,_,rfl,eg.t ha et (by rw[YZ];lia),qp (p1.ff.trans (f2.trans pt.ff)) (hw _ σ _ ?_)⟩;rw[fC hl];exact S3.turn fun F5 e5=>⟨_,rfl,V1 hl,EZ (il.mono e5) (i1.mono (f2.trans (pt.ff.trans e5)))⟩⟩
theorem AZ {i:Nat}(hΓ:Γ[i]?=some (some ?Ak))(h:W3 X B sts (Γ.set i (some ?E9)) Ω E):W3 X B sts Γ ((l,?C2)::Ω) E:=fun F σ H S pins s I=>by
 obtain⟨v,e1,e2⟩:=S.sl i _ hΓ;cases isR e2;obtain⟨fa,o0,ha,ho⟩:=S.own (l,?C2) (by simp);obtain⟨xs,rfl,hl,il⟩:=ho F ?AH;have nin:=(?D1).1;obtain⟨ob,hob⟩:=(I.hok l _ ha).there;have w:Yc F (upd F l (.frz ob (.dK (ks.zip xs)))):=fun b u q=>by rw[yX (Ys q fa)];exact q
 refine qp w (h (upd F l ?H1) σ (upd H l ?H1) ⟨?Hg,fun b u q=>?_,fun b q=>?_,fun b u hb q=>?_,(?D1).2,fun q hq=>?GC,fun q hq=>?_,fun j d q=>?_⟩) pins s (I.known ha rfl hob)
 .by_cases hb:b=l
  .subst hb;rw[yT] at q ⊢;exact q
  .rw[yX hb] at q ⊢;exact ?Ht
 .by_cases hb:b=l
  .subst hb;exact(S.od (b,?C2) (by simp)).elim ?wN fun z=>.inr ?Ap
  .rw[yX hb] at q;exact ?GM
 .by_cases z:b=l
  .subst z;rcases S.od (b,?C2) (by simp) with y|y
   .exact ?Hk
   .have y':B.H b=none:=y;rw[y'] at q;cases q
  .rw[yX z];exact S.kp b u hb q
 .obtain⟨h1,o',h2,h3⟩:=S.own q ?BY;have ne:q.1≠l:=fun e=>nin ?Fj;exact⟨by rw[yX ne];exact h1,o',by rw[yX ne];exact h2,fun F2 e=>?JE⟩
 .by_cases hj:i=j
  .subst hj;rw[qQ] at q;split at q
   .split at q
    .cases q;exact⟨_,e1,by simp only[Is];exact ?L7⟩
    .cases q
   .contradiction
  .rw[qA hj] at q;obtain⟨u,h1,h2⟩:=S.sl j d q;exact ?Iq
theorem tS {i:Nat}(hΓ:Γ[i]?=some (some ?Ak))(h:W3 X B sts (Γ.set i (some (.dt kt ds))) Ω E):W3 X B sts Γ ((l,?Ft)::Ω) E:=fun F σ H S=>by
 obtain⟨v,e1,e2⟩:=S.sl i _ hΓ;cases isR e2;obtain⟨fa,o0,ha,ho⟩:=S.own (l,?Ft) (by simp);obtain⟨xs,rfl,hl,il⟩:=ho F ?AH;have nin:=(?D1).1;have w:Yc F (upd F l (.dT (kt.zip xs))):=fun b u q=>by rw[yX (Ys q fa)];exact q
 refine qp w (h (upd F l (.dT (kt.zip xs))) σ H ⟨?Hg,fun b u q=>?_,fun b q=>?_,S.kp,(?D1).2,fun q hq=>?GC,fun q hq=>?_,fun j d q=>?_⟩)
 .by_cases hb:b=l
  .subst hb;rw[yT] at q;cases q;exact ha
  .rw[yX hb] at q;exact ?Ht
 .by_cases hb:b=l
  .subst hb;exact(S.od (b,?Ft) (by simp)).elim ?wN fun z=>.inr ?Ap
  .rw[yX hb] at q;exact ?GM
 .obtain⟨h1,o',h2,h3⟩:=S.own q ?BY;have ne:q.1≠l:=fun e=>nin ?Fj;exact ?vW
 .by_cases hj:i=j
  .subst hj;rw[qQ] at q;split at q
   .split at q
    .cases q;exact⟨_,e1,by simp only[Is];exact⟨l,xs,rfl,?FM,hl,il.mono w⟩⟩
    .cases q
   .contradiction
  .rw[qA hj] at q;obtain⟨u,h1,h2⟩:=S.sl j d q;exact ?Iq
end
theorem tG:∀ {ks:List Key} {xs:List V} {us:List Value},qj xs us->KV ?B1 (ks.zip us)
 |[],_,_,_=>.nil
 |k::ks,_,_,.nil=>.nil
 |k::ks,_,_,.cons r t=>by
  rw[yU,yU];exact .cons ⟨rfl,r⟩ (tG t)
section
theorem rF (hc:?zB)(hm:X.mg "dict" = none)(hg:Gl X "dict")(hm2:?vO)(hg2:Gl X "zip")(ha:P3 X Γ a (.lst ?FA))(hb:P3 X Γ b ?Bq)(hn:ks.Nodup)(hl:ks.length=ds.length)(hz:ks.length<=sizeLine)(hs:?yY:=by rfl)(hs2:?qA:=by rfl)
  (he:starEach [.Call (.Name "zip" p') [a,b] [] pos'] X.env=(?AE,eval (.Call (.Name "zip" p') [a,b] [] pos') X.env)::starEach [] X.env:=by rfl):P3 X Γ (.Call (.Name "dict" p) [.Call (.Name "zip" p') [a,b] [] pos'] [] pos) ?E9:=by
 intro pins s σ H Q I ⟨F,fh,sl,q⟩;have pl:=yb ha ?HZ (hs.trans (by rw[hs2]));refine wpAny_Call_Name_kw (vM I hg hm CO (PyProof.Rows.callWith_type1 ?_ he));rw[he];show wpAny _ _ (spliced ((?AE,eval (.Call (.Name "zip" p') [a,b] [] pos') X.env)::backTo pos (starEach [] X.env))) _ _ s;refine Calls.spliced_cons (Call_ (vM I hg2 hm2 boot_zip (PyProof.Rows.callWith_type1 (thn (pl pos' pins s σ H (fun vs H'=>∃ F',Pur F H F' H'/\IsL X.K F' [.lst ?FA,.lst ds] vs) I ⟨F,fh,sl,fun vs H' F' pu iv=>⟨F',pu,iv⟩⟩) fun us s1 ⟨vs,H1,I1,r1,q1⟩=>?_) (by rw[hs,hs2]) (by rw[hs2];rfl))));obtain⟨F1,pu,iv⟩:=q1;obtain⟨x,y,rfl,j0,j00⟩:=oU iv;obtain⟨l1,xs,rfl,s1',j1⟩:=zy j0;obtain⟨l2,ys,rfl,s2',j2⟩:=zy j00;have ek:=KJ j1;subst ek;cases r1 with
 |cons r rr=>
  cases rr with
  |cons r' rr=>
   cases rr;cases r;cases r';obtain⟨its1,rv1,p1,z1⟩:=I1.list (pu.fh.seq s1');obtain⟨its2,rv2,p2,z2⟩:=I1.list (pu.fh.seq s2');have lt1:l1<s1.heap.objs.size:=by obtain⟨_,e,_⟩:=p1.isList;exact yn e
   have lt2:l2<s1.heap.objs.size:=by obtain⟨_,e,_⟩:=p2.isList;exact yn e
   have L1:=rv1.length;rw[yf] at L1;have L2:=rv2.length;have L3:=j2.len;refine call_zip_2 p1.isList p2.isList fun g g1 g2 g3 g4 g5 sz kp=>?_;have e5:({s1 with heap:=g}:Shared).heap.objs.size=s1.heap.objs.size+5:=sz;have ge:s1.heap.objs.size<=g.objs.size:=by rw[sz];lia
   refine Calls.spliced_nil (bG (knd:=?HR) (xs:=its1.toArray) (ys:=its2.toArray) (ks:=ks) ?Is (I1.ok.hd hc) ?yR ?yR hn hz (fun j k e=>?_) ⟨_,_,g1,.inl ?CV,⟨g2,g4,g5,p1.isList.at fun o e=>kp _ o e,p2.isList.at fun o e=>kp _ o e⟩,_,_,g3⟩ fun g' tk d' f'=>?_)
   .obtain⟨u,e1,e2⟩:=rv1.get (i:=j) (x:=kV k) (by rw[yC,e];rfl);exact⟨u,by simpa using e1,W4 e2⟩
   .have fresh:H1 g.objs.size=none:=I1.hok.fresh ge;have kp':∀ b o,s1.heap.get? b=some o->g'.get? b=some o:=fun b o e=>by
     have:=yn e;exact f' b o (Yb (Nat.lt_add_right 4 this)) (Yb (Nat.lt_add_right 3 this)) (Yb this) (Yb (Nat.lt_add_right 1 this)) (kp b o e)
    have hsm:(g.objs.size==sysModules)=false:=beq_eq_false_iff_ne.mpr (Ne.symm (Yb (yW I1.big ge)));have I2:Inv X pins σ (upd H1 g.objs.size (.dK (ks.zip ys))) {s1 with heap:=g',toks:=tk}:=I1.laid (t':=tk) kp' ge ⟨by rw[YZ];lia,hsm,_,tG rv2,d'⟩;obtain⟨ob,_,_,hob,_⟩:=id d';have I3:=I2.known yT rfl hob;have eu:upd (upd H1 g.objs.size (.dK (ks.zip ys))) g.objs.size (.frz ob (.dK (ks.zip ys)))=upd H1 g.objs.size (.frz ob (.dK (ks.zip ys))):=by
     funext c;by_cases hcc:c=g.objs.size
     .subst hcc;rw[yT,yT]
     .rw[yX hcc,yX hcc,yX hcc]
    rw[eu] at I3;refine⟨.ref g.objs.size,_,I3,rfl,q _ _ _ (pu.trans (Pur.lay pu.fh fresh)) ?_⟩;simp only[Is];exact⟨_,ys,ob,rfl,yT,?A,j2.mono (Pur.lay pu.fh fresh).ff⟩
end
theorem lP {K:?A0}{kt:?ED}{ds:?AD}{L:Bool}:∀ F o,oDt K kt ds F o->Z6 L o=true:=fun F o ⟨xs,e,_⟩=>by subst e;rfl
def eJ (K:?A0)(B:Bs)(Ω:Om)(Γ Γ':Ga):Prop:=∀ F σ H,Sat K B Γ Ω F σ H->Sl K ?CW Γ' σ
theorem IsL.same {K:?A0}{F:Hp}{ds:?AD}{xs:?AL}{j:Nat}{b:Addr}(il:?El)(hj:ds[j]?=some (.raw ?Bf)):xs.set j (V.ref b)=xs:=by
 obtain⟨x,hx,ix⟩:=il.get hj;rw[isR ix] at hx;refine Qj fun i=>?_;rw[qQ];split
 .rename_i e;subst e;rw[yc (yk.mp hx).1,hx]
 .rfl
section
variable {K:?A0}{B:Bs}{Γ Γ':Ga}{Ω:Om}{C:Addr}{fs:?A1}{ds vs:?AD}{kt:List (List Key)}{a b:Addr}{i j:Nat}
theorem Ka (h:?JX):eJ K B Ω Γ Γ':=fun F σ H S=>S.lent h
theorem Vi (h:eJ K B Ω Γ Γ')(hi:Γ[i]?=some ?DE)(ha:(a,?En)∈Ω)(hj:ds[j]?=some (.raw ?Bf))(hb:(b,?G6)∈Ω):eJ K B Ω Γ (Γ'.set i (some (.obj C fs ?It))):=fun F σ H S n d q=>by
 rw[qQ] at q;by_cases hn:i=n
 .rw[yc hn] at q;split at q
  .cases q;subst hn;obtain⟨v,e1,e2⟩:=S.sl i _ hi;cases isR e2;obtain⟨fa,o,h1,h2⟩:=S.own _ ha;obtain⟨dx,xs,rfl,hl,il⟩:=h2 F ?AH;obtain⟨fb,o',h3,h4⟩:=S.own _ hb;obtain⟨ys,rfl,hl',il'⟩:=h4 F ?AH;refine⟨_,e1,?_⟩;have ea:VH Ω F H a=some (.ins C dx (fs.zip xs)):=by unfold VH;rw[yc (yA.mpr ⟨_,ha,rfl⟩)];exact h1
   have eb:VH Ω F H b=some (.dT (kt.zip ys)):=by unfold VH;rw[yc (yA.mpr ⟨_,hb,rfl⟩)];exact h3
   have ib:Is K (VH Ω F H) (.dt kt vs) (.ref b):=by
    simp only[Is];exact⟨b,ys,rfl,.inl eb,hl',il'.mono S.addSame⟩
   have:=(il.mono S.addSame).set j ib;rw[il.same hj] at this;simp only[Is];exact⟨a,dx,xs,rfl,ea,hl,this⟩
  .cases q
 .rw[yd hn] at q;exact h F σ H S n d q
theorem Sat.freezeF(hj:ds[j]?=some (.raw ?Bf))(S:Sat K B Γ ((a,?En)::(b,?G6)::Ω) F σ H):∃ F',Sat K B Γ ((a,JW K C fs ?It)::Ω) F' σ H/\Yc F F':=by
 have S1:Sat K B Γ ((b,?G6)::(a,?En)::Ω) F σ H:=S.perm ?zV;obtain⟨fa,o0,ha,ho⟩:=S1.own (b,?G6) (by simp);obtain⟨xs,rfl,hl,il⟩:=ho F ?AH;have nin:=(?Hb).1;have w:Yc F (upd F b (.dT (kt.zip xs))):=fun c u q=>by rw[yX (Ys q fa)];exact q
 have ib:Is K (upd F b (.dT (kt.zip xs))) (.dt kt vs) (.ref b):=by
  simp only[Is];exact⟨b,xs,rfl,?FM,hl,il.mono w⟩
 refine⟨upd F b (.dT (kt.zip xs)),⟨S1.f0.trans w,fun c u q=>?_,fun c q=>?_,S1.kp,(?Hb).2,fun q hq=>?_,fun q hq=>?_,S1.sl.mono w⟩,w⟩
 .by_cases hb:c=b
  .subst hb;rw[yT] at q;cases q;exact ha
  .rw[yX hb] at q;exact S1.fh _ _ q
 .by_cases hb:c=b
  .subst hb;exact(S1.od (c,?G6) (by simp)).elim ?wN fun z=>.inr ?Ap
  .rw[yX hb] at q;exact S1.fr c q
 .rcases yB.mp hq with z|z
  .subst z;exact S1.od (a,?En) (by simp)
  .exact S1.od q (ye _ ?Db)
 .rcases yB.mp hq with z|z
  .subst z;obtain⟨h1,o',h2,h3⟩:=S1.own (a,?En) (by simp);have ne:a≠b:=fun e=>nin (by simp[e]);refine⟨by rw[yX ne];exact h1,o',h2,fun F2 e=>?_⟩;obtain⟨dx,ys,rfl,hl',il'⟩:=h3 F2 (w.trans e);refine⟨dx,ys,rfl,hl',?_⟩;have:=il'.set j (ib.mono e)
   rwa [il'.same hj] at this
  .obtain⟨h1,o',h2,h3⟩:=S1.own q (ye _ ?Db);have ne:q.1≠b:=fun e=>nin (yA.mpr ⟨q,?Db,e⟩);exact ?vW
end
section
theorem Wi (h:P3 X Γ' e d)(hl:eJ X.K B Ω Γ Γ')(hd:fY L Ω)(hs:j7 L d=true)(r:R d Ω):?Dr:=fun F σ H S=>
 h.we ⟨?CW,S.addSub,hl F σ H S,fun v H' F' p i=>⟨d,Ω,K7 Ω F',?H3,(?GK).ff,lb (S.hard hd p) hs i,r⟩⟩
theorem Bt (h:PT3 X Γ' e k)(hl:eJ X.K B Ω Γ Γ')(r:RT k Ω):?Ix:=fun F σ H S=>
 h.wt ⟨?CW,S.addSub,hl F σ H S,fun H' F' p=>⟨Ω,K7 Ω F',?H3,(?GK).ff,r⟩⟩
theorem Ca (hj:ds[j]?=some (.raw ?Bf))(h:W3 X B sts Γ ((a,JW X.K C fs ?It)::Ω) E):W3 X B sts Γ ((a,?HA)::(b,oDt X.K kt vs)::Ω) E:=fun F σ H S=>by
 obtain⟨F',S',f⟩:=S.freezeF hj;exact qp f (h F' σ H S')
theorem Ez (h:V3 X B e Γ Ω fun d Ω1=>∃ ks ds,d=.dk ks ds/\RL ?FA Ω1):IV3 X B tg e Γ Ω RL:=fun F σ H S pins s I=>
 mh j6 pins s σ H _ I ((?AV).mono fun v H1 ⟨d,Ω1,F1,S1,f1,i1,ks,ds,ed,r⟩=>by
  subst ed;obtain⟨l,xs,ob,rfl,hl,hz,il⟩:=Gm i1;refine⟨l,ob,_,rfl,S1.fh _ _ hl,_,Ω1,F1,S1,f1,fun n F2 H2 e1 e2=>⟨fun d w=>?_,fun w=>⟨?Gn,by rw[YZ];rw[yf] at w;lia⟩⟩,r⟩;rw[yC] at w;obtain⟨k,hk,rfl⟩:=Yt.mp w;have hn:n<ks.length:=(yk.mp hk).1;refine⟨⟨?Gn,by rw[YZ];lia⟩,fun x H3 ⟨z,k',v',hkv,ex⟩=>?_⟩;subst z ex;have:k'=k:=by
   rw[qw] at hkv;rw[hk] at hkv;exact(Option.some.inj hkv.1).symm
  subst this;refine⟨F2,?G4,?_⟩;cases k' with
  |inl j=>exact Jm F2
  |inr y=>exact fu F2)
end
def spS(K:?A0)(n:Nat)(om:τ->Om)(C:τ->List D->τ->D->Prop):Sp:=fun vs H Q _=>∃ t ds t' d F,C t ds t' d/\ds.length=n/\Yc F H/\IsL K F ds vs/\((om t).map ?C).Nodup/\(∀ p∈om t,F p.1=none/\∃ o,H p.1=some o/\∀ F',Yc F F'->p.2 F' o)/\
 ∀ v H' F',Yc F F'->Yc F' H'->(∀ b o,b∉(om t).map ?C->H b=some o->H' b=some o)->?kG->(∀ p∈om t',F' p.1=none/\∃ o,H' p.1=some o/\∀ F2,Yc F' F2->p.2 F2 o)->Is K F' d v->Q v H'
theorem spS.len {τ:Type}{K:?A0}{n:Nat}{om:τ->Om}{C:τ->List D->τ->D->Prop}{vs:?AL}{H:Hp}{Q:VK}{E:XK}(h:spS K n om C vs H Q E):vs.length=n:=by
 obtain⟨t,ds,t',d,F,_,l,_,i,_⟩:=h;rw[i.len,l]
section
theorem Zg(ok:OkM X.prog X.w X.K X.mg X.base CX0 k Cc m ps (spS X.K n om C))(c:?F4)(hr:?Aw)(ho:P3 X Γ o ?Bg)(hin:(a,JW X.K Cc fs gs)∈Ω)(hf:m∉fs)(ha:?yP)(hm:(om t').map ?C=(om t).map ?C)(pm:Ω.Perm (om t++Ω4))(hC:C t (.raw ?AI::ds) t' d)(r:R d (om t'++Ω4))(hn:ds.length+1=n:=by rfl)
  (hst:?W:=by rfl) (hpl:?zD:=by rfl)
  (ht:eval ?qE X.env=(do
   let ov ←eval o X.env
   standAt apos.atName
   let (f,first) ←holding [ov] (getMethod ov m pl)
   callWith pos f first ?kJ ?qD):=by rfl):V3 X B ?qE Γ Ω R:=fun F σ H S pins s I=>by
 obtain⟨f,fd,Fn,hM,hb⟩:=ok;refine bH (pl:=pl) ho c hM Fn hr hb .nil uZ ha hst hpl ht pins s σ H _ I ⟨F,S.fh,S.sl,fun v H1 F1 p1 i1=>?_⟩;cases isR i1;have S1:=S.pur p1;obtain⟨fa,o1,ha1,ho1⟩:=S1.own _ hin;obtain⟨dx,xs,rfl,hl,il⟩:=ho1 F1 ?AH;refine⟨a,dx,_,rfl,ha1,Z8 hf,F1,?BF,S1.sl,fun us H2 F2 p2 i2=>?_⟩;dsimp only;rw[Yq];have S2:=(?GI).perm pm.symm;have nd2:=S2.nd;rw[yH] at nd2;have nds:=Yr.mp nd2;refine⟨t,.raw ?AI::ds,t',d,F2,hC,by rw[yi];exact hn,S2.fh,IsL.cons (Vg F2) i2,nds.1,fun p hp=>S2.own p (Yu _ hp),fun v H' F' g1 g2 g3 g4 g5 iv=>⟨d,om t'++Ω4,F',?_,p1.ff.trans (p2.ff.trans g1),iv,r⟩⟩;refine⟨S2.f0.trans g1,g2,fun b hb=>?_,fun b o hb e=>?_,?_,fun p hp=>?_,fun p hp=>?_,S2.sl.mono g1⟩
 .rcases g4 b hb with z|z
  .exact S2.fr b z
  .exact(S2.freeB z).elim (fun w=>?Jr) fun w=>.inr (.inr w)
 .refine g3 b o (fun z=>?_) (S2.kp b o hb e);obtain⟨p,hp,rfl⟩:=yA.mp z;rcases S2.od p (Yu _ hp) with z|z
  .exact hb z
  .have z':B.H p.1=none:=z;rw[z'] at e;cases e
 .rw[yH,hm,←yH];exact S2.nd
 .rcases Yw.mp hp with z|z
  .have:p.1∈(om t).map ?C:=by rw[←hm];exact yA.mpr ⟨p,z,rfl⟩
   obtain⟨p',hp',e⟩:=yA.mp this;rw[←e];exact S2.od p' (Yu _ hp')
  .exact S2.od p (y6 _ z)
 .rcases Yw.mp hp with z|z
  .exact g5 p z
  .obtain⟨h1,o2,h2,h3⟩:=S2.own p (y6 _ z);have nin:p.1∉(om t).map ?C:=fun y=>nds.2.2 _ y _ (yA.mpr ⟨p,z,rfl⟩) rfl;refine⟨?_,o2,g3 _ _ nin h2,fun F3 e3=>h3 F3 (g1.trans e3)⟩;cases zz:F' p.1 with
   |none=>rfl
   |some u=>
    rcases g4 p.1 (by rw[zz];simp) with y|y
    .exact absurd h1 y
    .rw[h2] at y;cases y
end
end L3
namespace My
theorem mul_num (p q:Rat):(p*q).num=p.num / ((p.num.natAbs.gcd q.den:Nat):Int)*(q.num / ((q.num.natAbs.gcd p.den:Nat):Int)):=by
 show(Rat.mul p q).num=_;unfold Rat.mul;simp only[Int.divExact_eq_ediv]
theorem mul_den (p q:Rat):(p*q).den=q.den / p.num.natAbs.gcd q.den*(p.den / q.num.natAbs.gcd p.den):=by
 show(Rat.mul p q).den=_;unfold Rat.mul;simp only[Nat.divExact_eq_div,jP]
theorem DK {n1 d1 n2 d2:Nat}(h1:Nat.Coprime n1 d1)(h2:Nat.Coprime n2 d2)(p1:0<d1)(p2:0<d2) :
  Nat.gcd (n1*d2+n2*d1) (d1*d2)=Nat.gcd d1 d2*Nat.gcd (n1*(d2 / Nat.gcd d1 d2)+n2*(d1 / Nat.gcd d1 d2)) (Nat.gcd d1 d2):=by
 have g0:0<Nat.gcd d1 d2:=Nat.gcd_pos_of_pos_left _ p1;generalize hg:Nat.gcd d1 d2=g at *;obtain⟨e1,rfl⟩:g ∣ d1:=hg▸Nat.gcd_dvd_left _ _;obtain⟨e2,rfl⟩:g ∣ d2:=hg▸Nat.gcd_dvd_right _ _;have ce:Nat.Coprime e1 e2:=by
  rw[Nat.gcd_mul_left] at hg;exact Nat.eq_of_mul_eq_mul_left g0 (by rw[hg,Nat.mul_one])
 rw[qh _ g0,qh _ g0];have a1:Nat.Coprime e1 (n1*e2+n2*e1):=by
  show Nat.gcd e1 (n1*e2+n2*e1)=1;rw[jP n2 e1,Nat.gcd_add_mul_left_right];exact Nat.Coprime.mul_right ((h1.coprime_dvd_right ⟨g,jP _ _⟩).symm) ce
 have a2:Nat.Coprime e2 (n1*e2+n2*e1):=by
  show Nat.gcd e2 (n1*e2+n2*e1)=1;rw[Nat.add_comm,jP n1 e2,Nat.gcd_add_mul_left_right];exact Nat.Coprime.mul_right ((h2.coprime_dvd_right ⟨g,jP _ _⟩).symm) ce.symm
 rw[show n1*(g*e2)+n2*(g*e1)=g*(n1*e2+n2*e1) by grind,show g*e1*(g*e2)=g*(e1*(e2*g)) by grind,Nat.gcd_mul_left,a1.gcd_mul_left_cancel_right,a2.gcd_mul_left_cancel_right]
theorem add_num {p q:Rat}(hp:0<=p.num)(hq:0<=q.num):(p+q).num=?xO / G ?xO (G p.den q.den)/\
  ((p+q).den:Int)=p.den / G p.den q.den*(q.den / G ?xO (G p.den q.den)):=by
 obtain⟨n1,e1⟩:=YR hp;obtain⟨n2,e2⟩:=YR hq;have c1:Nat.Coprime n1 p.den:=by have:=p.reduced;rw[e1] at this;exact this
 have c2:Nat.Coprime n2 q.den:=by have:=q.reduced;rw[e2] at this;exact this
 have d1:=p.den_pos;have d2:=q.den_pos;rw[Rat.num_add,Rat.den_add,e1,e2];generalize p.den=b1 at *;generalize q.den=b2 at *;have gg:=DK c1 c2 d1 d2;have g0:0<Nat.gcd b1 b2:=Nat.gcd_pos_of_pos_left _ d1;have hG:G (b1:Int) b2=((Nat.gcd b1 b2:Nat):Int):=rfl;have hN:((n1:Int)*b2+n2*b1)=((n1*b2+n2*b1:Nat):Int):=by push_cast;rfl
 have ht:(n1:Int)*((b2:Int) / G b1 b2)+n2*((b1:Int) / G b1 b2)=((n1*(b2 / Nat.gcd b1 b2)+n2*(b1 / Nat.gcd b1 b2):Nat):Int):=by rw[hG];push_cast;rfl
 rw[ht,hG];rw[hN,Qh,gg];generalize hgv:Nat.gcd b1 b2=g at *;obtain⟨e1',rfl⟩:g ∣ b1:=hgv▸Nat.gcd_dvd_left _ _;obtain⟨e2',rfl⟩:g ∣ b2:=hgv▸Nat.gcd_dvd_right _ _;rw[qh _ g0,qh _ g0];generalize hl:Nat.gcd (n1*e2'+n2*e1') g=l;have l0:0<l:=hl▸Nat.gcd_pos_of_pos_right _ g0;have hGl:G ((n1*e2'+n2*e1':Nat):Int) (g:Int)=(l:Int):=by rw[←hl];rfl
 obtain⟨m,hm⟩:l ∣ g:=hl▸Nat.gcd_dvd_right _ _;rw[hGl];constructor
 .rw[show n1*(g*e2')+n2*(g*e1')=g*(n1*e2'+n2*e1') by grind,←QI,←QI,Nat.mul_div_mul_left _ _ g0]
 .subst hm;rw[←QI,←QI,←jI];congr 1;rw[qh _ g0,show l*m*e1'*(l*m*e2')=(l*m*l)*(e1'*(m*e2')) by grind,qh _ (Nat.mul_pos g0 l0),show l*m*e2'=l*(m*e2') by grind,qh _ l0]
end My
namespace L3
open PySem PySem.Spec PySem.Calls PyProof.Rows L2
theorem W2 {a g:Int}(h:0<=a)(hg:0<g):0<=a / g/\a / g<=a:=⟨Int.ediv_nonneg h (yQ hg),Int.ediv_le_self _ h⟩
theorem kJ {a b:Int}{n:Nat}(h:0<=b/\b<=a)(ha:a.natAbs<2 ^ n):b.natAbs<2 ^ n:=by lia
theorem Ul(h:m<=n):2 ^ m<=2 ^ n:=YD ?B h
theorem FX (p q:Rat):sh (p*q)=D.tup [D.int ((?Fg).num*(?FY).num),D.int (((?Fg).den:Int)*((?FY).den:Int))]:=by
 unfold sh;rw[My.mul_num,My.mul_den,←My.num_share ?BK,←My.num_share ?BT,←My.den_share ?BK,←My.den_share ?BT,jI,QI,QI,
  Ym _ (yQ (My.G_pos ?BK)),Ym _ (yQ (My.G_pos ?BT)),Ym _ (yQ (My.G_pos ?BK)),Ym _ (yQ (My.G_pos ?BT))]
 rfl
theorem Uu {q:Rat}(h:0<q):q⁻¹.num=(q.den:Int)/\(q⁻¹.den:Int)=q.num:=by
 have hp:=My.q_num_pos h;rw[Rat.num_inv,Rat.den_inv];constructor
 .rw[Int.sign_eq_one_of_pos hp,Int.one_mul]
 .rw[yd (by lia)];lia
theorem Gp {q:Rat}(h:0<q):sh q⁻¹=D.tup [D.int (q.den:Int),D.int q.num]:=by
 unfold sh;rw[(Uu h).1,(Uu h).2]
theorem Gs {q:Rat}{n:Nat}(h:0<q)(s:?Cg):Sz n q⁻¹:=by
 have e:=Uu h;have hp:=My.q_num_pos h;obtain⟨s1,s2⟩:=s;refine⟨?_,?_⟩
 .rw[e.1];exact s2
 .have:=e.2;lia
def UH (K:?A0):Sp:=fun vs H Q _=>∃ (a:Addr) (ns:List Int),vs=[.ref a]/\SqL K H a ?C4/\ns.length<=63/\∀ H',Q ?Cl H'
theorem D9 {P:?AA}{w:?A9}{K:?A0}{mg:?J}{base:Heap}{f:Addr}{fd:?DW}{st:Stmt}{N:?A1}{k:Nat}{x:Str}(F:Fun K "law" "law" st f fd)(S:FnScope N [x] ?BI)
  (body:∀ (cdv:Value) (A:Around) (outer:List Env) (s:Shared) (H:Hp) (E:XK),Room k (A.deeper (envOfC "law" ?BI s.heap.objs.size f cdv))->∀ (ns:List Int),ns.length<=63->∀ B:Bs,B.M=[]->
   W3 (cx0 P w K mg base N "law" st f cdv A outer s H E) B ?Ar (jD N [.scr ns]) [] ⟨fun _ _=>?AB,fun r _=>r=.bl true,fun _ _=>?AB,fun _ _=>?AB⟩):FnOk P w K mg base CX0 (k+1) f fd [x] (UH K):=by
 refine F.ok S (fun vs H Q E h=>?_) fun cdv A outer s H vs Q E hr h=>?DS
 .obtain⟨a,ns,rfl,_⟩:=h;rfl
 .obtain⟨a,ns,rfl,hS,hlen,q⟩:=h;have il:IsL K H [.scr ns] [.ref a]:=IsL.cons (by simp only[Is];exact⟨a,rfl,hS⟩) IsL.nil;refine Qa (D:=E3.to K ⟨[],H,H⟩ H ⟨fun _ _=>?AB,fun r _=>r=.bl true,fun _ _=>?AB,fun _ _=>?AB⟩) (D':={nx:=fun _ H'=>?Ay,rt:=Q}) ?_ ?_ ?_ ?_ (body cdv A outer s H E hr ns hlen ⟨[],H,H⟩ rfl H _ H (Sat.entry ?AH il))
  .rintro σ' H' ⟨_,_,_,_,_,z⟩;exact ?AQ
  .rintro v H' ⟨r,Ω',F',⟨σ',S'⟩,f',iv,rfl⟩;rw[isB iv];exact q H'
  .rintro σ' H' ⟨_,_,_,_,_,z⟩;exact ?AQ
  .rintro σ' H' ⟨_,_,_,_,_,z⟩;exact ?AQ
theorem Dz {K:?A0}{H:Hp}{a:Addr}{ns:?CZ}(h:ns.length<=63)(hS:SqL K H a ?C4):UH K [.ref a] H (fun v _=>v=.bl true) fun _ _ _=>False:=⟨a,ns,rfl,hS,h,fun _=>rfl⟩
theorem gn:∀ {ds:List D},(∀ d∈ds,pln d=true)->Wf ds=true
 |[],_=>by rw[Wf]
 |d::ds,h=>by rw[Wf,h d (by simp),gn fun e he=>h e (ye _ he)];rfl
theorem nL:∀ {ds:List D},(∀ d∈ds,dep d<=k)->Vm ds<=k
 |[],_=>by rw[Vm];exact Y0 _
 |d::ds,h=>by
  rw[Vm];exact Nat.max_le.mpr ⟨h d (by simp),nL fun e he=>h e (ye _ he)⟩
theorem d9 {K:W.Frag}{h:Heap}{mg:Str->Option Value}(X:K.In h)(G:h.Ns mainGlobals mg){x:Str}{l:Addr}{od:Option Addr}{i j:Int}{t u:Tok}{n:Nat}{sl:Array (Option Value)}(a:W.nsIn K mainGlobals x=some (some (.ref l)))
  (lk:K.lookup l=some ⟨.type "tuple", od,.seq #[.int i t,.int j u] n,sl⟩):qV K mg x (.tup [.int i,.int j]):=
 ⟨.ref l,.ref l,W.mg_of X G a,rfl,fun F=>Is.tupI (xs:=[.int i,.int j]) (.inr ⟨_,_,_,lk,rfl,rfl,by show 2<=sizeLine;decide,.cons ⟨_,rfl⟩ (.cons ⟨_,rfl⟩ .nil)⟩) (IsL.cons (Jm F) (IsL.cons (Jm F) IsL.nil))⟩
def lt (i:Nat):Nat:=if i<26 then 97+i else 65+(i - 26)
def Bi:Str:="abcdefghijklmnopqrstuvwxyzABCDEFGHIJKLMNOPQRSTUVWXYZ"
theorem Bb:∀ i:Fin 52,Bi.cps.toList[i.val]?=some (lt i.val):=by decide +kernel
def K6 (n:Nat):Bool:=(decide (97<=n)&&decide (n<=122))||(decide (65<=n)&&decide (n<=90))
theorem FJ(h:i<52):K6 (lt i)=true:=by
 unfold lt K6;split <;> simp <;> lia
theorem Gc(hi:i<52)(hj:j<52)(h:lt i=lt j):i=j:=by
 unfold lt at h;split at h <;> split at h <;> lia
def ki (x:Str):Prop:=1<=x.cps.size/\x.cps.size<=8/\∀ c∈x.cps.toList,K6 c=true
def szC (c:Int):Nat:=(1+c % 8).toNat
def atC (c:Int):Nat:=(c / 8 % (1+c % 8)).toNat
def bsC (c:Int):Nat:=(c / 64 % 52).toNat
def stp (c:Int)(k p:Nat):Nat:=bsC c+7*p+if p=atC c then k else 0
def ut (c:Int)(k n:Nat):?DY:=(?BU).map fun p=>lt (stp c k p % 52)
def KR (c:Int)(k:Nat):Str:=⟨(ut c k (szC c)).toArray⟩
theorem gK (c:Int):1<=szC c/\szC c<=8:=by unfold szC;lia
theorem Fy (c:Int):((szC c:Nat):Int)=1+c % 8:=by unfold szC;lia
theorem Ha (c:Int):atC c<szC c:=by
 have h:0<1+c % 8:=by lia
 have h1:=Int.emod_lt_of_pos (c / 8) h;have h2:=Int.emod_nonneg (c / 8) (show 1+c % 8≠0 by lia);unfold atC szC;lia
theorem BN (c:Int):((atC c:Nat):Int)=c / 8 % (1+c % 8):=by
 have h2:=Int.emod_nonneg (c / 8) (show 1+c % 8≠0 by lia);unfold atC;lia
theorem B5 (c:Int):((bsC c:Nat):Int)=c / 64 % 52:=by unfold bsC;lia
theorem W7 {c:Int}:(ut c k n).length=n:=by unfold ut;simp
theorem oR {c:Int}:ut c k (n+1)=ut c k n++[lt (stp c k n % 52)]:=by unfold ut;rw[YC,yH];rfl
theorem Hq (c:Int)(k:Nat):ki (KR c k):=by
 have:=gK c;refine⟨?_,?_,fun x hx=>?_⟩
 .unfold KR;simp[W7];lia
 .unfold KR;simp[W7];lia
 .unfold KR ut at hx;simp only[yA,qk] at hx;obtain⟨p,_,rfl⟩:=hx;exact FJ ?H6
theorem Dx {c:Int}(hj:j<52)(hk:k<52)(h:KR c j=KR c k):j=k:=by
 have e:ut c j (szC c)=ut c k (szC c):=by
  unfold KR at h;injection h with h;simpa using h
 have ha:=Ha c;have e2:(ut c j (szC c))[atC c]?=(ut c k (szC c))[atC c]?:=by rw[e]
 unfold ut at e2;rw[yC,yC,jk ha] at e2;simp only[Option.map_some,Option.some.injEq] at e2;have e3:=Gc ?H6 ?H6 e2;unfold stp at e3;rw[yc rfl,yc rfl] at e3;lia
theorem aw {α β:Type}{f:α->β}{l:?B4}(h:∀ x∈l,∀ y∈l,f x=f y->x=y)(hn:l.Nodup):(l.map f).Nodup:=by
 unfold List.Nodup at hn ⊢;rw[List.pairwise_map];exact List.Pairwise.imp_of_mem (fun ha hb hab z=>hab (h _ ha _ hb z)) hn
theorem iq {c:Int}:∀ {n:Nat},n<=52->((?BU).map (KR c)).Nodup:=fun {n} hn=>by
 refine aw (fun x hx y hy e=>?_) List.nodup_range;rw[qk] at hx hy;exact Dx ?A ?A e
abbrev yw:=Str×List Str×Rat
def Qg (acc:?A1)(r:yw):?A1:=if r.1∈acc then acc else acc++[r.1]
def yt (rs:?A4):?A1:=rs.foldl Qg []
def JR (h:Str)(t:Rat)(r:yw):Rat:=if r.1=h then t+r.2.2 else t
def QN (h:Str)(rs:?A4):Rat:=rs.foldl (JR h) 0
structure GOk (hs ws:?A1)(rs:?A4):Prop where
 nd:(hs++ws).Nodup
 sym:∀ x∈hs++ws,ki x
 h0:hs≠[]
 w0:ws≠[]
 hl:hs.length<=4
 wl:ws.length<=3
 r0:rs≠[]
 rl:rs.length<=12
 fst:yt rs=hs
 one:∀ h∈hs,QN h rs=1
 body:∀ r∈rs,1<=r.2.1.length/\r.2.1.length<=4/\∀ x∈r.2.1,x∈hs++ws
 pos:∀ r∈rs,0<r.2.2/\r.2.2.num.natAbs<2 ^ 5/\r.2.2.den<2 ^ 5
 prs:(rs.map fun r=>?zI).Nodup
abbrev Grp:=List (List Str×Rat)
def grp (h:Str)(g:Grp):?A4:=g.map fun p=>?zH
def ve (ps:List (Str×Grp)):?A4:=ps.flatMap fun p=>grp p.1 p.2
structure GrpOk (sy:?A1)(g:Grp):Prop where
 ne:g≠[]
 le:g.length<=3
 nd:(g.map ?C).Nodup
 one:(g.map ?zC).sum=1
 body:∀ p∈g,1<=p.1.length/\p.1.length<=4/\∀ x∈p.1,x∈sy
 pos:∀ p∈g,0<p.2/\p.2.num.natAbs<2 ^ 5/\p.2.den<2 ^ 5
theorem WF(hm:h∈acc):∀ g:Grp,(?FG).foldl Qg acc=acc
 |[]=>rfl
 |p::g=>by
  show(?FG).foldl Qg (Qg acc ?zH)=acc;rw[show Qg acc ?zH=acc from yc hm];exact WF hm g
theorem pB(hm:h∉acc):∀ {g:Grp},g≠[]->(?FG).foldl Qg acc=acc++[h]
 |[],hg=>absurd rfl hg
 |p::g,_=>by
  show(?FG).foldl Qg (Qg acc ?zH)=acc++[h]
  rw[show Qg acc ?zH=acc++[h] from yd hm];exact WF (by simp) g
theorem xg:∀ {ps:List (Str×Grp)} {acc:List Str},(acc++ps.map ?C).Nodup->(∀ p∈ps,p.2≠[])->(ve ps).foldl Qg acc=acc++ps.map ?C
 |[],acc,_,_=>by simp[ve]
 |p::ps,acc,hn,hg=>by
  have nm:p.1∉acc:=fun z=>by
   rw[Yr] at hn;exact hn.2.2 _ z _ (by simp) rfl
  show(?vJ).foldl Qg acc=_;rw[yY,pB nm (hg p (by simp)),xg (by simpa using hn) fun q hq=>hg q ?BY];simp
theorem wa(hn:h'≠h):∀ (g:Grp) (t:Rat),(grp h' g).foldl (JR h) t=t
 |[],t=>rfl
 |p::g,t=>by
  show(grp h' g).foldl (JR h) (JR h t (h',p.1,p.2))=t;rw[show JR h t (h',p.1,p.2)=t from yd hn];exact wa hn g t
theorem mj:∀ (g:Grp) (t:Rat),(?FG).foldl (JR h) t=t+(g.map ?zC).sum
 |[],t=>by simp[grp,Rat.add_zero]
 |p::g,t=>by
  show(?FG).foldl (JR h) (JR h t ?zH)=_;rw[show JR h t ?zH=t+p.2 from yc rfl,mj g,yD,zf];grind
theorem aB:∀ {ps:List (Str×Grp)} {t:Rat},(∀ p∈ps,p.1≠h)->(ve ps).foldl (JR h) t=t
 |[],t,_=>rfl
 |p::ps,t,hn=>by
  show(?vJ).foldl (JR h) t=t;rw[yY,wa (hn p (by simp)),aB fun q hq=>hn q ?BY]
theorem fR:∀ {ps:List (Str×Grp)} {t:Rat},(ps.map ?C).Nodup->(∀ p∈ps,(p.2.map ?zC).sum=1)->h∈ps.map ?C->(ve ps).foldl (JR h) t=t+1
 |[],t,_,_,hm=>by simp at hm
 |p::ps,t,hn,ho,hm=>by
  rw[yD,yR] at hn;show(?vJ).foldl (JR h) t=t+1;rw[yY];by_cases e:p.1=h
  .subst e;rw[mj,ho p (by simp),aB fun q hq z=>hn.1 (yA.mpr ⟨q,hq,z⟩)]
  .rw[wa e,fR hn.2 (fun q hq=>ho q ?BY)];rw[yD,yB] at hm;rcases hm with z|z
   .exact absurd z.symm e
   .exact z
theorem Xg(h:r∈ve ps):∃ p∈ps,r.1=p.1/\(r.2.1,r.2.2)∈p.2:=by
 unfold ve grp at h;simp only[Q5,yA] at h;obtain⟨p,hp,q,hq,rfl⟩:=h;exact⟨p,hp,rfl,hq⟩
theorem W5:∀ {ps:List (Str×Grp)},(∀ p∈ps,p.2.length<=3)->(ve ps).length<=3*ps.length
 |[],_=>by simp[ve]
 |p::ps,h=>by
  have a:=W5 (ps:=ps) fun q hq=>h q ?BY;have b:=h p (by simp);show(?vJ).length<=_;rw[yI,yi];have:(grp p.1 p.2).length=p.2.length:=by unfold grp;simp
  lia
theorem dM:∀ {ps:List (Str×Grp)},(ps.map ?C).Nodup->(∀ p∈ps,(p.2.map ?C).Nodup)->((ve ps).map fun r=>?zI).Nodup
 |[],_,_=>by simp[ve]
 |p::ps,hn,hg=>by
  rw[yD,yR] at hn;show((?vJ).map fun r=>?zI).Nodup;rw[yH,Yr];refine⟨?_,dM hn.2 fun q hq=>hg q ?BY,fun x hx y hy e=>?_⟩
  .have h1:=hg p (by simp);unfold grp;rw[qd];have:((fun r:yw=>?zI) ∘ fun q:List Str×Rat=>(p.1,q.1,q.2))=(fun b=>(p.1,b)) ∘ fun q:List Str×Rat=>q.1:=rfl;rw[this,←qd];exact aw (fun a _ b _ e=>by injection e) h1
  .obtain⟨r,hr,rfl⟩:=yA.mp hx;obtain⟨r',hr',rfl⟩:=yA.mp hy;injection e with e1 e2;have a1:r.1=p.1:=by
    unfold grp at hr;obtain⟨q,_,rfl⟩:=yA.mp hr;rfl
   obtain⟨q,hq,b1,_⟩:=Xg hr';exact hn.1 (yA.mpr ⟨q,hq,by rw[←b1,←e1,a1]⟩)
theorem Es(nd:(hs++ws).Nodup)(sym:∀ x∈hs++ws,ki x)(h0:hs≠[])(w0:ws≠[])(hl:hs.length<=4)(wl:ws.length<=3)(hp:ps.map ?C=hs)(hg:∀ p∈ps,GrpOk (hs++ws) p.2):GOk hs ws (ve ps):=by
 have hn:hs.Nodup:=(Yr.mp nd).1;have len:ps.length=hs.length:=by rw[←hp,yf]
 refine⟨nd,sym,h0,w0,hl,wl,?_,?_,?_,fun h hh=>?_,fun r hr=>?_,fun r hr=>?_,?_⟩
 .intro z;cases ps with
  |nil=>rw[←hp] at h0;exact h0 rfl
  |cons p ps=>
   have z':grp p.1 p.2++ve ps=[]:=z;have:=(List.append_eq_nil_iff.mp z').1;unfold grp at this;exact(hg p (by simp)).ne (List.map_eq_nil_iff.mp this)
 .have:=W5 (ps:=ps) fun p hp=>(hg p hp).le;lia
 .have:=xg (ps:=ps) (acc:=[]) (by rw[Je,hp];exact hn) fun p hp=>(hg p hp).ne;rw[Je,hp] at this;exact this
 .have:=fR (h:=h) (t:=0) (ps:=ps) (by rw[hp];exact hn) (fun p hp=>(hg p hp).one) (by rw[hp];exact hh)
  rw[show(0:Rat)+1=1 by grind] at this;exact this
 .obtain⟨p,hp',_,hm⟩:=Xg hr;exact(hg p hp').body _ hm
 .obtain⟨p,hp',_,hm⟩:=Xg hr;exact(hg p hp').pos _ hm
 .exact dM (by rw[hp];exact hn) fun p hp=>(hg p hp).nd
inductive Live (hs:?A1)(rs:?A4):Str->Prop
 |mk (r:yw) (hr:r∈rs) (hb:∀ x∈r.2.1,x∈hs->Live hs rs x):Live hs rs r.1
def Qs (hs L b:?A1):Bool:=b.all fun x=>decide (x∈L)||!decide (x∈hs)
def J3 (rs:?A4)(hs L:?A1)(h:Str):Bool:=rs.any fun r=>decide (r.1=h)&&Qs hs L r.2.1
def zi (hs:?A1)(rs:?A4)(L:?A1):?A1:=hs.filter ?EF
open Classical in
def zj (hs:List Str)(rs:List yw):List Str:=hs.filter fun h=>decide (Live hs rs h)
theorem uq:Qs hs L b=true ↔ ∀ x∈b,x∈hs->x∈L:=by
 unfold Qs;rw[jM];refine forall_congr' fun x=>forall_congr' fun _=>?_;by_cases h1:x∈L <;> by_cases h2:x∈hs <;> simp[h1,h2]
theorem Ke:J3 rs hs L h=true ↔ ∃ r∈rs,r.1=h/\∀ x∈r.2.1,x∈hs->x∈L:=by
 unfold J3;simp only[List.any_eq_true,Yg,Y4,uq]
theorem ld(h:∀ x∈L,x∈L'):∀ x∈zi hs rs L,x∈zi hs rs L':=fun x hx=>by
 unfold zi at hx ⊢;rw[YA,Ke] at hx ⊢;obtain⟨h1,r,hr,e,hb⟩:=hx;exact⟨h1,r,hr,e,fun y hy hh=>h y (hb y hy hh)⟩
def xW (hs:?A1)(rs:?A4)(L:?A1):Prop:=(∃ p:Str->Bool,L=hs.filter p)/\(∀ x∈L,x∈zi hs rs L)/\∀ x∈L,Live hs rs x
theorem oY:xW hs rs []:=⟨⟨fun _=>?AE,by simp⟩,fun x hx=>by simp at hx,fun x hx=>by simp at hx⟩
theorem iF(h:xW hs rs L):xW hs rs ?Cy:=by
 refine⟨?Bt,ld h.2.1,fun x hx=>?_⟩;unfold zi at hx;rw[YA,Ke] at hx;obtain⟨h1,r,hr,e,hb⟩:=hx;subst e;exact .mk r hr fun y hy hh=>h.2.2 y (hb y hy hh)
theorem aL:∀ {l:List α},(∀ x∈l,p x=true->q x=true)->(l.filter p).length<=(l.filter q).length/\((l.filter q).length<=(l.filter p).length->l.filter p=l.filter q)
 |[],_=>by simp
 |a::l,h=>by
  have ih:=aL (p:=p) (q:=q) (l:=l) fun x hx=>h x ?As;have ha:=h a (by simp);cases hp:p a with
  |true=>
   rw[YE hp,YE (ha hp),yi,yi];exact⟨?A,fun z=>by rw[ih.2 (by lia)]⟩
  |false=>
   rw[YF (by simp[hp])];cases hq:q a with
   |true=>
    rw[YE hq,yi];exact⟨?A,fun z=>?A⟩
   |false=>
    rw[YF (by simp[hq])];exact ih
theorem ga(h:xW hs rs L):L.length<=(?Cy).length/\((?Cy).length<=L.length->L=zi hs rs L):=by
 obtain⟨⟨p,rfl⟩,h2,_⟩:=h;refine aL fun x hx hp=>?_;have:=h2 x (YA.mpr ⟨hx,hp⟩);unfold zi at this;exact(YA.mp this).2
open Classical in
theorem oX(h:xW hs rs L)(e:(zi hs rs L).length<=L.length)(hh:∀ r∈rs,r.1∈hs):zi hs rs L=zj hs rs:=by
 have e':=(ga h).2 e;have all:∀ x,Live hs rs x->x∈L:=fun x hx=>by
  induction hx with
  |mk r hr _ ih=>
   rw[e'];unfold zi;rw[YA,Ke];exact⟨hh r hr,r,hr,rfl,ih⟩
 unfold zj;rw[←e'];obtain⟨⟨p,hp⟩,_,h3⟩:=h;rw[hp] at all h3 ⊢;refine List.filter_congr fun x hx=>?_;rw[YH,Y4];exact⟨fun q=>h3 x (YA.mpr ⟨hx,q⟩),fun q=>(YA.mp (all x q)).2⟩
theorem fU:x∈Qg acc r ↔ x∈acc∨x=r.1:=by
 unfold Qg;split
 .rename_i h;exact⟨.inl,fun z=>z.elim id fun e=>e▸h⟩
 .simp
theorem X3:∀ {rs:List yw} {acc:List Str} {x:Str},x∈rs.foldl Qg acc ↔ x∈acc∨∃ r∈rs,x=r.1
 |[],acc,x=>by simp
 |r::rs,acc,x=>by
  rw[Yi,X3,fU];simp only[yB,exists_eq_or_imp,or_assoc]
theorem JA:x∈yt rs ↔ x∈rs.map ?C:=by
 unfold yt;rw[X3];simp only[Yv,false_or,yA];exact⟨fun⟨r,h1,h2⟩=>⟨r,h1,h2.symm⟩,fun⟨r,h1,h2⟩=>⟨r,h1,h2.symm⟩⟩
section
variable {X:Cx}{B:Bs}{Γ:Ga}{Ω:Om}{a l e:Expr}{pos p2:Pos}{R:?yK}
theorem ow {ds:?AD}{x:V}{lo hi:?B7}{Q:VK}(S:?IU)(i1:Is X.K F ?Bq x)(q:∀ v H' F',Pur F H F' H'->Is X.K F' (.lst (vt ds lo hi)) v->Q v H'):HY X.K x lo hi H Q:=by
 obtain⟨b,xs,rfl,s1,j1⟩:=zy i1;exact⟨b,xs,rfl,S.fh.seq s1,fun c hc=>q _ _ _ (Pur.lay S.fh hc) (Is.lstI ?FM ((iz j1).mono (Pur.lay S.fh hc).ff))⟩
theorem EA {ds:?AD}(ha:?CO)(h:V3 X B e Γ Ω fun d Ω1=>∃ n:Int,d=.int n/\R (.lst (vt ds none (some n))) Ω1):V3 X B (.Subscript a (.Slice none ?D8 none p2) pos) Γ Ω R:=fun F σ H S pins s I=>
 kQ bV ha mD (Wk j6) pins s σ H _ I ⟨F,S.fh,S.sl,fun x H1 F1 p1 i1=>(?IW).mono fun v H2 ⟨d,Ω1,F2,S2,f2,i2,n,e2,r⟩=>by
  subst e2;refine⟨n,?Br,?_⟩;exact ow (lo:=none) (hi:=some n) S2 ?Ev fun v' H' F' p' i'=>⟨_,Ω1,F',S2.pur p',p1.ff.trans (f2.trans p'.ff),i',r⟩⟩
theorem eF {m:Int}(ha:?CO)(hl:P3 X Γ l (.int m))(h:V3 X B e Γ Ω fun d Ω1=>∃ n:Int,d=.int n/\R (.lst (vt ds (some m) (some n))) Ω1):V3 X B (.Subscript a (.Slice (some l) ?D8 none p2) pos) Γ Ω R:=fun F σ H S pins s I=>
 kQ bV ha (Wk hl) (Wk j6) pins s σ H _ I ⟨F,S.fh,S.sl,fun x H1 F1 p1 i1=>⟨F1,?BF,S.sl.mono p1.ff,fun y H3 F3 p3 i3=>⟨m,isI i3,(h F3 σ H3 (S.pur (p1.trans p3))).mono fun v H2 ⟨d,Ω1,F2,S2,f2,i2,n,e2,r⟩=>by
  subst e2;refine⟨n,?Br,?_⟩;exact ow (lo:=some m) (hi:=some n) S2 (i1.mono (p3.ff.trans f2)) fun v' H' F' p' i'=>⟨_,Ω1,F',S2.pur p',(p1.trans p3).ff.trans (f2.trans p'.ff),i',r⟩⟩⟩⟩
end
section
variable {X:Cx}{B:Bs}{Γ:Ga}{Ω:Om}{E:E3}{rest body:?BM}{e c:Expr}{pos:Pos}
theorem Wn (h:V3 X B e Γ Ω fun _ Ω1=>W3 X B rest Γ Ω1 E)(hs:?uF:=by rfl):W3 X B (.Expr e pos::rest) Γ Ω E:=fun F σ H S pins s I=>
 qm (uJ j6 hs) Qb pins s σ H _ I ((?AV).mono fun v H1 ⟨d,Ω1,F1,S1,f1,i1,h1⟩=>qp f1 ?DM)
theorem W3.nx(h:W3 X B sts Γ Ω {E with nx:=J})(i:∀ Γ Ω,J Γ Ω->N Γ Ω):W3 X B sts Γ Ω {E with nx:=N}:=fun F σ H S=>
 Qa (D:=E3.to X.K B F {E with nx:=J}) (D':=E3.to X.K B F {E with nx:=N}) (fun _ _ ⟨Γ',Ω',F',S',f',n⟩=>⟨Γ',Ω',F',S',f',i _ _ n⟩) ?zT ?zT ?zT ?AV
theorem Fa(J:Ga->Om->Prop)(hc:?Fw)(ht:k=true->W3 X B a Γ Ω {E with nx:=J})(hf:k=false->W3 X B b Γ Ω {E with nx:=J})(hr:∀ Γ Ω,J Γ Ω->W3 X B rest Γ Ω E):W3 X B (.If c a b pos::rest) Γ Ω E:=
 QT hc (fun h=>(ht h).nx hr) fun h=>(hf h).nx hr
theorem EE(h:?Fw)(q:k=k'):Ay X Γ [c] k':=q▸ud h
end
def y9 (b:?A1):D:=.tup (b.map D.str)
def zo (r:yw):D:=.tup [.str r.1,y9 r.2.1,sh r.2.2]
def yO (xs:?A1):?AD:=xs.map D.str
def yL (rs:?A4):?AD:=rs.map zo
theorem YL:(yO xs).length=xs.length:=yf _
theorem YW:(?AP).length=rs.length:=yf _
theorem jH {i:Nat}(h:(yO xs)[i]?=some d):∃ x,xs[i]?=some x/\d=.str x:=by
 unfold yO at h;rw[yC] at h;obtain⟨x,h1,h2⟩:=Yt.mp h;exact ?Io
theorem jx {i:Nat}(h:(?AP)[i]?=some d):∃ r,rs[i]?=some r/\d=zo r:=by
 unfold yL at h;rw[yC] at h;obtain⟨x,h1,h2⟩:=Yt.mp h;exact ?Io
theorem Yl {α:Type}{l:?B4}{i:Nat}{x:α}(h:l[i]?=some x):l.take (i+1)=l.take i++[x]:=by
 rw[List.take_succ,h];rfl
theorem Dh(h:D.str x=D.str y):x=y:=by injection h
theorem nz:qy ?CL (.str y)=decide (x=y):=by
 by_cases h:x=y
 .subst h;rw[v7 (by rfl)];simp
 .rw[bw (fun z=>h (Dh z)),yu h]
theorem J6:inD ?CL (yO L)=decide (x∈L):=by
 unfold inD yO;rw[List.any_map,YH,List.any_eq_true,Y4];constructor
 .rintro⟨y,hy,e⟩;have e':qy (.str y) (.str x)=true:=e;rw[nz,Y4] at e';exact e'▸hy
 .intro h;exact⟨x,h,by show qy ?CL ?CL=true;rw[nz];simp⟩
theorem Zm:∀ e∈yO L,kin e ?CL=true/\dep e<=60:=fun e he=>by
 unfold yO at he;obtain⟨y,_,rfl⟩:=yA.mp he;exact⟨rfl,Y0 _⟩
theorem zg:∀ {a b:List Str},a.map D.str=b.map D.str->a=b
 |[],[],_=>rfl
 |[],_::_,h=>by simp at h
 |_::_,[],h=>by simp at h
 |x::a,y::b,h=>by
  simp only[yD,List.cons.injEq,D.str.injEq] at h;rw[h.1,zg h.2]
theorem rY(h:y9 a=y9 b):a=b:=by
 unfold y9 at h;injection h with h;exact zg h
theorem sV {L:?A1}:Wf (L.map D.str)=true:=gn fun d hd=>by
 obtain⟨y,_,rfl⟩:=yA.mp hd;rfl
theorem CF:pln (y9 b)=true:=by unfold y9;rw[pln];exact sV
theorem Vr:qy (y9 a) (y9 b)=decide (a=b):=by
 by_cases h:a=b
 .subst h;rw[v7 CF];simp
 .rw[bw (fun z=>h (rY z)),yu h]
theorem XY:∀ {a b:List Str},Zy (a.map D.str) (b.map D.str)=true
 |[],_=>by simp[Zy]
 |_::_,[]=>by simp[Zy]
 |x::a,y::b=>by
  rw[yD,yD,Zy,XY];rfl
theorem Kf:kin (y9 a) (y9 b)=true:=by unfold y9;rw[kin];exact XY
theorem Bk {b:?A1}:Vm (b.map D.str)=0:=Jq.mp (nL fun d hd=>by
 obtain⟨y,_,rfl⟩:=yA.mp hd;exact yg 0)
theorem k7:dep (y9 b)<=1:=by unfold y9;rw[dep,Bk];exact yg _
theorem aM {b:?A1}{bs:List ?A1}:inD (y9 b) ?D0=decide (b∈bs):=by
 unfold inD;rw[List.any_map,YH,List.any_eq_true,Y4];constructor
 .rintro⟨y,hy,e⟩;have e':qy (y9 y) (y9 b)=true:=e;rw[Vr,Y4] at e';exact e'▸hy
 .intro h;exact⟨b,h,by show qy (y9 b) (y9 b)=true;rw[Vr];simp⟩
theorem i9 {b:?A1}{bs:List ?A1}:∀ e∈bs.map y9,kin e (y9 b)=true/\dep e<=60:=fun e he=>by
 obtain⟨y,_,rfl⟩:=yA.mp he;have:=k7 (b:=y);exact⟨Kf,?A⟩
theorem xG:∀ {xs:List Str},jv L (yO xs)=true
 |[]=>rfl
 |x::xs=>by
  show(j7 L (D.str x)&&jv L (yO xs))=true;rw[xG];rfl
def Xp (r:yw):?BB:=[.inl (.inr r.1),.inr (r.2.1.map Sum.inr)]
theorem nq (r:yw):D.tup [.str r.1,y9 r.2.1]=kD (Xp r):=by
 unfold kD Xp y9;simp only[yD,Q6,k2D,KU,qd];rfl
theorem mQ:∀ {a b:List Str},a.map (Sum.inr:Str->Key)=b.map Sum.inr->a=b
 |[],[],_=>rfl
 |[],_::_,h=>by simp at h
 |_::_,[],h=>by simp at h
 |x::a,y::b,h=>by
  simp only[yD,List.cons.injEq,Sum.inr.injEq] at h;rw[h.1,mQ h.2]
theorem rZ(h:Xp r=Xp s):?zI=(s.1,s.2.1):=by
 unfold Xp at h;simp only[List.cons.injEq,Sum.inl.injEq,Sum.inr.injEq,and_true] at h;rw[h.1,mQ h.2]
def Ww (rs:?A4):?zX:=rs.map fun r=>(Xp r,?Cl)
theorem eY(h:?zI∉rs.map fun r=>?zI):atD (Ww rs) (Xp r)=none:=by
 unfold atD Ww;rw[Option.map_eq_none_iff,List.find?_eq_none];intro p hp;obtain⟨q,hq,rfl⟩:=yA.mp hp;simp only[Y4];intro z;exact h (yA.mpr ⟨q,hq,rZ z⟩)
theorem Am(h:?zI∉rs.map fun r=>?zI):xr (Ww rs) (Xp r) ?Cl=Ww (rs++[r]):=by
 unfold xr;rw[eY h];unfold Ww;rw[yH];rfl
theorem uj {α β:Type}{f:α->β}{l:?B4}{i:Nat}{x:α}(hn:(l.map f).Nodup)(h:l[i]?=some x):f x∉(l.take i).map f:=fun z=>by
 obtain⟨y,hy,e⟩:=yA.mp z;obtain⟨j,hj,rfl⟩:=List.getElem_of_mem hy;rw[Yh] at hj;have hj1:j<l.length:=by lia
 have hi:i<l.length:=(?FE).1;rw[List.getElem_take] at e;have e1:(l.map f)[j]?=(l.map f)[i]?:=by
  rw[yC,yC,h,yj hj1];simp[e]
 have:=(List.getElem?_inj (by rw[yf];exact hj1) hn).mp e1;lia
theorem pI {i j k:Int}(ha:?B2)(hb:?B0)(hc:P3 X Γ c (.int k))(hm:lastMarks [.LtE,.LtE] [b,c]=false:=by with_unfolding_all rfl):P3 X Γ (.Compare a [.LtE,.LtE] [b,c] pos) (.bl (decide (i<=j)&&decide (j<=k))):=
 PE.of (dJ sQ sQ ha hb hc hm) fun σ H Q zq=>by
  obtain⟨F,fh,sl,q⟩:=zq;refine⟨F,fh,sl,fun v1 H1 F1 p1 i1=>⟨F1,?BF,?C3,fun v2 H2 F2 p2 i2=>⟨i,j,isI i1,?Br,decide (i<=j),rfl,?_⟩⟩⟩;cases e:decide (i<=j) with
  |true=>
   rw[yc rfl];exact⟨F2,p2.fh,?GT,fun v3 H3 F3 p3 i3=>⟨j,k,?Br,isI i3,q _ _ _ ((?Bl).trans p3) (by rw[e];exact Uw F3)⟩⟩
  |false=>
   rw[yd yN];exact q _ _ _ ?Bl (by rw[e];exact Uw F2)
open Classical in
def bQ (x:Str):Bool:=decide (ki x)
theorem xl:bQ x=true ↔ ki x:=@decide_eq_true_iff _ (Classical.propDecidable _)
def Dj:?G:=fun ds d=>∃ x:Str,ds=[.str x]/\d=.bl (bQ x)/\x.cps.size<=100/\x.cps.all (·<128)=true
def tH:?G:=fun ds d=>∃ c:Nat,ds=[.str ?zS]/\d=.bl (K6 c)
def Az:?G:=fun ds d=>∃ x:Str,ds=[.str x]/\d=.non/\ki x
def lu (r:yw):Prop:=ki r.1/\1<=r.2.1.length/\r.2.1.length<=4/\(∀ x∈r.2.1,ki x)/\0<r.2.2
def FA:?G:=fun ds d=>∃ r:yw,ds=[zo r]/\d=.non/\lu r
def Db:?G:=fun ds d=>∃ rs:List yw,ds=[.lst ?AP]/\d=.non/\1<=rs.length/\rs.length<=30/\(∀ r∈rs,lu r)/\(rs.map fun r=>?zI).Nodup
def DV:?G:=fun ds d=>∃ (x:Str) (hs:List Str),ds=[.str x,.lst ?Az]/\d=.non/\x∈hs
def Fs:?G:=fun ds d=>∃ (hs:List Str) (rs:List yw),ds=[.lst ?Az,.lst ?AP]/\d=.non/\rs.length<=30/\(∀ h∈hs,QN h rs=1)/\∀ r∈rs,0<=r.2.2/\Sz 1000 r.2.2
def DL:?G:=fun ds d=>∃ rs:List yw,ds=[.lst ?AP]/\d=.lst ?DC/\rs.length<=30
def AJ:?G:=fun ds d=>∃ (hs:List Str) (rs:List yw),ds=[.lst ?Az,.lst ?AP]/\d=.lst (yO (zj hs rs))/\rs.length<=30/\hs.length<=30/\(∀ r∈rs,r.1∈hs)/\∀ r∈rs,r.2.1.length<=4
def pP:?G:=fun ds d=>∃ (h:Str) (rs:List yw) (hs L:List Str),ds=[.str h,.lst ?AP,.lst ?Az,.lst (yO L)]/\d=.bl (J3 rs hs L h)/\rs.length<=30/\∀ r∈rs,r.2.1.length<=4
def ir:?G:=fun ds d=>∃ b hs L:List Str,ds=[y9 b,.lst ?Az,.lst (yO L)]/\d=.bl (Qs hs L b)/\b.length<=4
def gF:?A1:=["first", "kept_rules", "kept_heads", "kept_live"]
def gDs (st:Str)(rs:?A4):?AD:=[.str st,.lst ?AP,.lst ?DC,.lst (yO ?F9)]
def gD (C:Addr)(st:Str)(rs:?A4):D:=.obj C gF (gDs st rs)
structure GV (st:Str)(rs:?A4):Prop where
 l1:1<=rs.length
 l2:rs.length<=30
 ok:∀ r∈rs,lu r
 nd:(rs.map fun r=>?zI).Nodup
 st:st∈yt rs
 one:∀ h∈yt rs,QN h rs=1
 sz:∀ r∈rs,Sz 1000 r.2.2
def Dv:?qB:=fun ds r=>∃ (st:Str) (rs:List yw),ds=[.str st,.lst ?AP]/\r=(gF,gDs st rs)/\GV st rs
def Ad (C:Addr):?G:=fun ds d=>∃ (st:Str) (rs:List yw),ds=[gD C st rs]/\d=.str st
def sE (C:Addr):?wK:=fun ds d=>∃ (st:Str) (rs:List yw),ds=[gD C st rs]/\d=yL rs
def A0 (C:Addr):?wK:=fun ds d=>∃ (st:Str) (rs:List yw),ds=[gD C st rs]/\d=yO ?A5
def Ej (C:Addr):?wK:=fun ds d=>∃ (st:Str) (rs:List yw),ds=[gD C st rs]/\d=yO ?F9
theorem Vu:("start" : Str)∉gF:=by decide +kernel
theorem vX:("rules" : Str)∉gF:=by decide +kernel
theorem JM:("heads" : Str)∉gF:=by decide +kernel
theorem kr:("live" : Str)∉gF:=by decide +kernel
structure ClsG (K:?A0)(C:Addr):Prop where
 c:Cls K C
 n_first:QH K C "first"
 n_kept_rules:QH K C "kept_rules"
 n_kept_heads:QH K C "kept_heads"
 n_kept_live:QH K C "kept_live"
theorem XX:∀ {rs:List yw} {acc:List Str},(rs.foldl Qg acc).length<=acc.length+rs.length
 |[],acc=>by simp
 |r::rs,acc=>by
  have:=XX (rs:=rs) (acc:=Qg acc r);rw[Yi,yi];have:(Qg acc r).length<=acc.length+1:=by
   unfold Qg;split
   .lia
   .rw[yI];exact yg _
  lia
theorem iU:(?A5).length<=rs.length:=by
 have:=XX (rs:=rs) (acc:=[]);unfold yt;simpa using this
theorem fq:j7 true (.lst (yO xs))=true:=by
 rw[j7,xG];rfl
theorem GOk.gv {hs ws:?A1}{rs:?A4}(g:?HY){st:Str}(h:st∈hs):GV st rs where
 l1:=Qc.mpr g.r0
 l2:=by have:=g.rl;lia
 ok:=fun r hr=>⟨g.sym _ (Yu _ (by rw[←g.fst,JA];exact yA.mpr ⟨r,hr,rfl⟩)),(?Hj).1,(?Hj).2.1,fun x hx=>g.sym x ((?Hj).2.2 x hx),(?Ez).1⟩
 nd:=g.prs
 st:=by rw[g.fst];exact h
 one:=fun h hh=>g.one h (by rw[←g.fst];exact hh)
 sz:=fun r hr=>Sz.mono (m:=5) ⟨(?Ez).2.1,(?Ez).2.2⟩ ?A
theorem E6(h:x.cps.toList=[n]):leS x ?zS=decide (n<=c):=by
 unfold leS;rw[h,YH];simp[List.cons_lt_cons_iff]
theorem EJ(h:x.cps.toList=[n]):leS ?zS x=decide (c<=n):=by
 unfold leS;rw[h,YH];simp[List.cons_lt_cons_iff]
theorem pG(h:K6 c=true):c<128:=by
 unfold K6 at h;simp at h;lia
theorem pW(h:ki x):x.cps.all (·<128)=true:=by
 rw[Array.all_eq_true_iff_forall_mem];intro c hc;simpa using pG (h.2.2 c (by simpa using hc))
theorem ph {i:Nat}(h:(W8 x)[i]?=some d):∃ c,x.cps.toList[i]?=some c/\d=.str ?zS:=by
 unfold W8 at h;rw[yC] at h;obtain⟨c,h1,h2⟩:=Yt.mp h;exact⟨c,h1,h2.symm⟩
theorem pY:(W8 x).length=x.cps.size:=by unfold W8;simp
theorem Ey {t q:Rat}(ht:0<=t/\Sz (1+i*1001) t)(hq:0<=q/\Sz 1000 q):0<=t+q/\Sz (1+(i+1)*1001) (t+q):=⟨xX ht.1 hq.1,(Bv ht.2 hq.2).mono ?A⟩
theorem D6 {K:?A0}{C:Addr}(pg:W.plainGet K C Str.empty=true)(hd:?vE)(po:W.plainOver K C=true)(sa:?vT)
  (n1:W.findIn K ?AM "first" = some none) (n2:W.findIn K ?AM "kept_rules" = some none) (n3:W.findIn K ?AM "kept_heads" = some none) (n4:W.findIn K ?AM "kept_live" = some none):ClsG K C:=⟨?J6,n1,n2,n3,n4⟩
theorem ck {K:W.Frag}{h:Heap}{mg:Str->Option Value}(X:K.In h)(G:h.Ns mainGlobals mg){x:Str}{i:Int}{t:Tok}(a:W.nsIn K mainGlobals x=some (some (.int i t))):qV K mg x (.int i):=
 ⟨.int i,.int i t,W.mg_of X G a,⟨t,rfl⟩,fun F=>Jm F⟩
def wM (n:Nat)(W B:?H):?H:=fun i j=>if j<n then W i j else B i (j - n)
theorem mH {W B:?H}(h:kR n n s W)(hb:kR n m s B):kR n (n+m) s (wM n W B):=fun i j hi hj=>by
 unfold wM;by_cases q:j<n
 .rw[yc q];exact h i j hi q
 .rw[yd q];exact hb i (j - n) hi ?A
theorem Wm {W B:?H}:∀ i j,i<n->j<n->wM n W B i j=W i j:=fun i j _ hj=>by
 unfold wM;rw[yc hj]
theorem iR {W B:?H}(h:Piv n W):Piv n (wM n W B):=fun k hk=>by
 rw[bu Wm k (by lia) k k hk hk];exact h k hk
theorem ap:∀ {m:Nat} {g:Nat->α},tb n f++tb m g=tb (n+m) fun j=>if j<n then f j else g (j - n)
 |0,g=>by
  show tb n f++[]=tb n _;rw[Yq];exact kY fun j hj=>by rw[yc hj]
 |m+1,g=>by
  rw[show n+(m+1)=(n+m)+1 from rfl,J2,J2,←List.append_assoc,ap,yd ?A,jV]
theorem Gz {W B:?H}:(tb n fun j=>sh (W i j))++(tb m fun j=>sh (B i j))=tb (n+m) fun j=>sh (wM n W B i j):=by
 rw[ap];refine kY fun j _=>?_;unfold wM;by_cases q:j<n
 .rw[yc q,yc q]
 .rw[yd q,yd q]
theorem DU:(tb (n+m) f).drop n=tb m fun j=>f (n+j):=by
 refine Qj fun i=>?_;rw[List.getElem?_drop];by_cases h:i<m
 .rw[JU h,JU ?A]
 .rw[yG.mpr ?jH,yG.mpr ?jH]
def Lk (n m s:Nat)(W B:?H):Prop:=n<=1000/\m<=1000/\kR n n s W/\kR n m s B/\sK s n<=big
def Hk:?G:=fun ds d=>∃ (n m s:Nat) (W B:Nat->Nat->Rat),ds=[shM n n W,shM n m B]/\d=shM n m (fun i j=>EK (wM n W B) n i (n+j))/\Lk n m s W B/\Piv n W
section
variable {κ κ' α β:Type}[DecidableEq κ][DecidableEq κ']{f:κ->κ'}{g:α->β}
theorem k8 (hf:∀ x y,f x=f y->x=y):∀ {ks:List κ} {xs:List α},vA (ks.map f) (xs.map g) (f k)=(vA ks xs k).map g
 |[],_=>rfl
 |_::_,[]=>rfl
 |q::ks,x::xs=>by
  have ih:=k8 hf (k:=k) (ks:=ks) (xs:=xs);unfold vA at ih ⊢;rw[yD,yD,yU,yU,y3,y3];by_cases e:q=k
  .rw[yK e,yK (show f q=f k by rw[e])];rfl
  .rw[yu e,yu (show ¬ f q=f k from fun z=>e (hf _ _ z))];exact ih
theorem Kk (hf:∀ x y,f x=f y->x=y){k:κ}{ks:?Ax}:f k∈ks.map f ↔ k∈ks:=by
 rw[yA];exact⟨fun⟨x,h,e⟩=>hf _ _ e▸h,fun h=>⟨k,h,rfl⟩⟩
theorem xy (hf:∀ x y,f x=f y->x=y){k:κ}{ks:?Ax}:pK (ks.map f) (f k)=(?Da).map f:=by
 unfold pK;by_cases h:k∈ks
 .rw[yc h,yc ((Kk hf).mpr h)]
 .rw[yd h,yd fun z=>h ((Kk hf).mp z),yH];rfl
theorem W6 (hf:∀ x y,f x=f y->x=y){k:κ}{ks:?Ax}{xs:?B4}{v:α}:pA (ks.map f) (xs.map g) (f k) (g v)=(?Ep).map g:=by
 unfold pA;by_cases h:k∈ks
 .rw[yc h,yc ((Kk hf).mpr h),List.zip_map,qd,qd];refine jl fun p _=>?_;show(if f p.1=f k then g v else g p.2)=g ?xC;by_cases e:p.1=k
  .rw[yc e,yc (by rw[e])]
  .rw[yd e,yd fun z=>e (hf _ _ z)]
 .rw[yd h,yd fun z=>h ((Kk hf).mp z),yH];rfl
theorem bM:∀ {ks:List κ} {xs:List α},vA ks xs k=some v->v∈xs
 |[],_,h=>by simp[vA] at h
 |_::_,[],h=>by simp[vA] at h
 |q::ks,x::xs,h=>by
  unfold vA at h;rw[yU,y3] at h;by_cases e:q=k
  .rw[yK e] at h;cases h;exact yo
  .rw[yu e] at h;exact ye _ (bM h)
theorem Ft {k:κ}{v x:α}{ks:?Ax}{xs:?B4}(h:x∈pA ks xs k v):x=v∨x∈xs:=by
 unfold pA at h;split at h
 .obtain⟨p,hp,e⟩:=yA.mp h;split at e
  .exact .inl e.symm
  .exact .inr (e▸(Qu hp).2)
 .rcases Yw.mp h with z|z
  .exact ?BR
  .exact ?Fp
theorem bv {k:κ}{ks:?Ax}:(?Da).length<=ks.length+1:=by
 unfold pK;split
 .lia
 .rw[yI];exact yg _
theorem B1 {k x:κ}{ks:?Ax}(h:x∈pK ks k):x=k∨x∈ks:=by
 unfold pK at h;split at h
 .exact .inr h
 .rcases Yw.mp h with z|z
  .exact ?BR
  .exact ?Fp
theorem IU {ks:?Ax}{F:Nat->α}{k:κ}:∀ {i:Nat},ks.Nodup->ks[i]?=some k->vA ks (tb ks.length F) k=some (F i):=by
 induction ks generalizing F with
 |nil=>intro i _ h;simp at h
 |cons q ks ih=>
  intro i nd h;rw[yi,BH];unfold vA;rw[yU,y3];cases i with
  |zero=>
   rw[yK (show q=k by simpa using h)];rfl
  |succ i=>
   have hk:ks[i]?=some k:=by simpa using h
   have ne:¬ q=k:=fun e=>(?FC).1 (e▸yr hk);rw[yu ne];exact ih (F:=fun i=>F (i+1)) (?FC).2 hk
end
def JX (hs L:?A1)(rs:?A4):?A4:=rs.filter fun r=>Qs hs L r.2.1
def Qz (L:?A1)(r:yw):Bool:=match r.2.1 with|[x]=>decide (x∈L)|_=>false
def b0 (r:yw):Str:=r.2.1.headD ""
def kW (p:Str×Str):?Av:=[.inr p.1,.inr p.2]
def kS (p:Str×Nat×Nat):?Av:=[.inr p.1,.inl (p.2.1:Int),.inl (p.2.2:Int)]
theorem ln:∀ x y,kW x=kW y->x=y:=fun⟨a,b⟩ ⟨c,d⟩ h=>by
 unfold kW at h;simp only[List.cons.injEq,Sum.inr.injEq,and_true] at h;rw[h.1,h.2]
theorem vJ:∀ x y,kS x=kS y->x=y:=fun⟨a,b,c⟩ ⟨d,e,f⟩ h=>by
 unfold kS at h;simp only[List.cons.injEq,Sum.inr.injEq,Sum.inl.injEq,and_true,Int.ofNat_inj] at h;rw[h.1,h.2.1,h.2.2]
def jz:Str->Key:=Sum.inr
theorem Vl:∀ x y,jz x=jz y->x=y:=fun x y h=>Sum.inr.inj h
def vw (ss:?A4)(h o:Str):Rat:=(vA (ss.map fun r=>?U) (ss.map ?yD) (h,o)).getD 0
abbrev Kn:=List (Str×Nat×Nat)×List Rat
def knK (kn:Kn):?ED:=kn.1.map kS
def knV (kn:Kn):?AD:=kn.2.map sh
def knD (kn:Kn):D:=.dt (knK kn) (knV kn)
def vK (kn:Kn)(h:Str)(i j:Nat):Rat:=(vA kn.1 kn.2 ?Y).getD 0
def fM (kn:Kn)(h:Str)(i j:Nat)(t:Rat):Kn:=(pK kn.1 ?Y,pA kn.1 kn.2 ?Y t)
def woS (hs row:?A1)(kn:Kn)(i j:Nat)(x:Str):Rat:=if x∈hs then vK kn x i j else if j=i+1/\row[i]?=some x then 1 else 0
abbrev En:=List Str×List Rat
def enD (e:En):D:=.dk (e.1.map jz) (e.2.map sh)
def chS (L:?A1)(ch:?H)(h o:Str):Rat:=ch (L.idxOf h) (L.idxOf o)
def chD (L:?A1)(ch:?H):D:=.dk ?Ca (tb L.length fun i=>.dk ?Ca (tb L.length fun j=>sh (ch i j)))
def Zl (ps:?jB):Rat:=ps.foldl (fun a p=>a+p.1*p.2) 0
def UG (L:?A1)(ch:?H)(e:En)(h:Str):?jB:=e.1.map fun o=>(?HU,(vA e.1 e.2 o).getD 0)
def ug (L:?A1)(ch:?H)(e:En)(h:Str):Rat:=Zl (UG L ch e h)
def QD (L:?A1)(ch:?H)(e:En)(i j:Nat)(kn:Kn)(h:Str):Kn:=if ug L ch e h=0 then kn else fM kn h i j (ug L ch e h)
def YT (n:Nat):List (Nat×Nat):=(?BU).flatMap fun l=>(List.range (n - l)).map fun i=>(i,i+l+1)
def wQ (p:Nat×Nat):D:=.tup [.int (p.1:Int),.int (p.2:Int)]
def kP (p:Rat×Rat):D:=.tup [sh p.1,sh p.2]
def sF:?A1:=["grammar", "row", "known_heads", "branches", "chains", "known_sums", "known_worths"]
def Hm (n s:Nat):Nat:=n*(4*s+2)+2
def HN:?G:=fun ds d=>∃ (ps:List (Rat×Rat)) (s:Nat),ds=[.lst (ps.map kP)]/\d=sh (Zl ps)/\(∀ p∈ps,(0<=p.1/\Sz s p.1)/\0<=p.2/\Sz s p.2)/\Hm ps.length s<=big/\s<=10000000
def F8:?G:=fun ds d=>∃ row:List Str,ds=[y9 row]/\d=.lst ((?AS).map wQ)/\row.length<=10
def Dr (C:Addr):?G:=fun ds d=>∃ (st:Str) (rs:List yw),ds=[gD C st rs]/\d=.lst (yL (JX ?A5 ?F9 rs))/\rs.length<=30/\∀ r∈rs,r.2.1.length<=4
def Ep:?G:=fun ds d=>∃ (r:yw) (L:List Str),ds=[zo r,.lst (yO L)]/\d=.bl (Qz L r)
def wM2 (L:?A1)(ss:?A4):?H:=fun i j=>vw ss (L.getD i "") ?zO
def idM (L:?A1):?H:=fun i j=>if L.getD i "" = L.getD j "" then 1 else 0
def chF (L:?A1)(ss:?A4):?H:=fun i j=>EK (wM L.length ?EA (idM L)) L.length i (L.length+j)
def tE:?G:=fun ds d=>∃ (L:List Str) (ss:List yw) (s:Nat),ds=[.lst (yO L),.lst (yL ss)]/\d=chD L (chF L ss)/\L.Nodup/\L.length<=30/\ss.length<=30/\(∀ r∈ss,∃ x,r.2.1=[x])/\(ss.map fun r=>?U).Nodup/\(∀ r∈ss,0<=r.2.2/\Sz s r.2.2)/\1<=s/\sK s L.length<=big/\Piv L.length ?EA
def sO (Cs:Addr)(g row hs br ch kn kw:D):D:=.obj Cs sF [g,row,hs,br,ch,kn,kw]
def BX (Cs:Addr):?G:=fun ds d=>∃ (g row hs br ch kw:D) (kn:Kn) (h:Str) (i j:Nat),ds=[sO Cs g row hs br ch (knD kn) kw,.str h,.int (i:Int),.int (j:Int)]/\d=sh (vK kn h i j)
def sI (Cs Cg:Addr):?G:=fun ds d=>∃ (st:Str) (rs:List yw) (row:List Str) (hs br ch kw:D) (kn:Kn),ds=[sO Cs (gD Cg st rs) ?Ah hs br ch (knD kn) kw]/\d=sh (vK kn st 0 row.length)
def Eh (Cs:Addr):?G:=fun ds d=>∃ (g br ch kw:D) (row hs:List Str) (kn:Kn) (x:Str) (i j:Nat),ds=[sO Cs g ?Ah ?BC br ch (knD kn) kw,.str x,.int (i:Int),.int (j:Int)]/\d=sh ?Et/\i<row.length
def pX:?G:=fun ds d=>∃ (c:Int) (m:Nat),ds=[.int c,.int (m:Int)]/\d=.lst (yO ((List.range m).map (KR c)))/\m<=20
def ie (sy b:?A1):Prop:=1<=b.length/\b.length<=4/\∀ x∈b,x∈sy
def dN (sy:?A1)(bs:List ?A1):Prop:=bs≠[]/\bs.length<=3/\bs.Nodup/\∀ b∈bs,ie sy b
def oS:?zL:=fun ds=>∃ (hs ws:List Str) (f:Bool),ds=[.lst ?Az,.lst ?Bh,.bl f]/\ws≠[]/\hs.length<=4/\ws.length<=3
def Ab:?G:=fun ds d=>∃ (hs ws:List Str) (f:Bool) (bs:List (List Str)),ds=[.lst ?Az,.lst ?Bh,.bl f]/\d=.lst ?D0/\dN (hs++ws) bs
def o7:?zL:=fun ds=>∃ hs ws:List Str,ds=[.lst ?Az,.lst ?Bh]/\ws≠[]/\hs.length<=4/\ws.length<=3
def rR:?G:=fun ds d=>∃ (hs ws:List Str) (ps:List (Str×Grp)),ds=[.lst ?Az,.lst ?Bh]/\d=.lst (yL (ve ps))/\ps.map ?C=hs/\∀ p∈ps,GrpOk (hs++ws) p.2
def UV (K:?A0):Sp:=fun vs H Q _=>∃ (c o:Int) (m:Nat) (F:Hp),vs=[.int c,.int o,.int (m:Int)]/\1<=m/\m<=4/\Yc F H/\
 ∀ (hs ws:List Str) (rs:List yw),GOk hs ws rs->hs.length<=m->∀ (v:V) (H' F':Hp),Pur F H F' H'->Is K F' (.tup [.lst ?Az,.lst ?Bh,.lst ?AP]) v->Q v H'
theorem UV.len {K:?A0}{vs:?AL}{H:Hp}{Q:VK}{E:XK}(h:UV K vs H Q E):vs.length=3:=by
 obtain⟨c,o,m,F,rfl,_⟩:=h;rfl
theorem Hg {k:Nat}{i j:Int}{m:Nat}{R:?yK}(o:OkF X.prog X.w X.K X.mg X.base CX0 k x ps (UV X.K))(hr:?Aw)(hg:?Af)(ha:?B2)(hb:?B0)(hc:P3 X Γ c (.int (m:Int)))(h1:1<=m)(h2:m<=4)
  (h:∀ hs ws rs,GOk hs ws rs->hs.length<=m->R (.tup [.lst ?Az,.lst ?Bh,.lst ?AP]) Ω) (hdb:?L:=by decide)
  (he:starEach [a,b,c] X.env=?qZ::starEach [b,c] X.env:=by rfl) (he2:starEach [b,c] X.env=(?AE,?Em)::starEach [c] X.env:=by rfl) (he3:starEach [c] X.env=(?AE,eval c X.env)::starEach [] X.env:=by rfl) (hpl:(backTo pos (starEach [b,c] X.env)).any ?C=false:=by rfl):V3 X B (.Call ?GJ [a,b,c] [] pos) Γ Ω R:=fun F σ H S pins s I=>
 xZ o hr hg (yb ha (yb hb (yb hc yq he3) he2) he) hdb he hpl pins s σ H _ I ⟨F,S.fh,S.sl,fun vs H' F' pu i=>by
  dsimp only;rw[Yq];simp only[IsL] at i;obtain⟨x1,r1,rfl,i1,x2,r2,rfl,i2,x3,r3,rfl,i3,rfl⟩:=i;cases isI i1;cases isI i2;cases isI i3;exact⟨_,_,m,F',rfl,h1,h2,pu.fh,fun hs ws rs g hl v H2 F2 p2 iv=>⟨_,Ω,F2,S.pur ?Fk,pu.ff.trans p2.ff,iv,h hs ws rs g hl⟩⟩⟩
theorem Dc {P:?AA}{w:?A9}{K:?A0}{mg:?J}{base:Heap}{x:Str}{st:Stmt}{N ps:?A1}{k:Nat}(d:?F2)(S:?BW)(hn:ps.length=3)
  (body:∀ (f:Addr) (cdv:Value) (A:Around) (outer:List Env) (s:Shared) (H:Hp) (E:XK),Room k ?FV->∀ (c o:Int) (m:Nat),1<=m->m<=4->∀ B:Bs,B.M=[]->
   W3 ?GW B ?Ar (jD N [.int c,.int o,.int (m:Int)]) [] ⟨fun _ _=>?AB,fun r _=>∃ hs ws rs,GOk hs ws rs/\hs.length<=m/\r=.tup [.lst (yO hs),.lst ?Bh,.lst ?AP],fun _ _=>?AB,fun _ _=>?AB⟩):OkF P w K mg base CX0 (k+1) x ps (UV K):=by
 refine d.ok S (fun vs H Q E h=>(UV.len h).trans hn.symm) fun f cdv A outer s H vs Q E hr h=>?DS
 obtain⟨c,o,m,F,rfl,h1,h2,fh,q⟩:=h;have il:IsL K F [.int c,.int o,.int (m:Int)] [.int c,.int o,.int (m:Int)]:=IsL.cons (Jm F) (IsL.cons (Jm F) (IsL.cons (Jm F) IsL.nil));refine Qa (D:=E3.to K ?yA F ⟨fun _ _=>?AB,fun r _=>∃ hs ws rs,GOk hs ws rs/\hs.length<=m/\r=.tup [.lst (yO hs),.lst ?Bh,.lst ?AP],fun _ _=>?AB,fun _ _=>?AB⟩) (D':={nx:=fun _ H'=>?Ay,rt:=Q}) ?_ ?_ ?_ ?_ (body f cdv A outer s H E hr c o m h1 h2 ?yA rfl F _ H ?G3)
 .rintro σ' H' ⟨_,_,_,_,_,z⟩;exact ?AQ
 .rintro v H' ⟨r,Ω',F',⟨σ',S'⟩,f',iv,hs,ws,rs,g,hl,rfl⟩;exact q hs ws rs g hl v H' F' ?E6 iv
 .rintro σ' H' ⟨_,_,_,_,_,z⟩;exact ?AQ
 .rintro σ' H' ⟨_,_,_,_,_,z⟩;exact ?AQ
theorem l8 {m n:Nat}(h:n<=ds.length)(hm:m<=ds.length):vt ds (some (m:Int)) (some (n:Int))=(ds.drop m).take (n - m):=by
 unfold vt;rw[show HT.sIx ds.length 0 (some (m:Int))=m from Up hm,show HT.sIx ds.length ds.length (some (n:Int))=n from Up h]
theorem aJ:(yO xs).take n=yO (xs.take n):=by unfold yO;rw[List.map_take]
theorem pd:(yO xs).drop n=yO (xs.drop n):=by unfold yO;rw[List.map_drop]
theorem Fw {ns:?CZ}(hb:dN sy bs)(hl:ns.length=bs.length)(hn:∀ x∈ns,1<=x/\x<=5):GrpOk sy ((?FK).map fun p=>?wC):=by
 obtain⟨h1,h2,h3,h4⟩:=hb;have hs:∀ {l:List Int},(∀ x∈l,1<=x/\x<=5)->(l.length:Int)<=l.sum/\l.sum<=5*l.length:=by
  intro l
  induction l with
  |nil=>intro _;simp
  |cons a l ih=>
   intro h;have a1:=h a (by simp);have a2:=ih fun x hx=>h x ?As;rw[zf,yi];lia
 have b0:0<bs.length:=Qc.mpr h1;have hw:=hs hn;have w0:0<ns.sum:=by lia
 refine⟨?_,?_,?_,?_,fun p hp=>?_,fun p hp=>?_⟩
 .intro z;have:=congrArg List.length z;rw[yf,YZ,Yz] at this;lia
 .rw[yf,YZ];lia
 .rw[qd,show((fun x:List Str×Rat=>x.1) ∘ fun p:List Str×Int=>?wC)=Prod.fst from rfl,List.map_fst_zip ?A];exact h3
 .rw[qd,show((fun x:List Str×Rat=>x.2) ∘ fun p:List Str×Int=>?wC)=(fun n=>?HD) ∘ Prod.snd from rfl,←qd,List.map_snd_zip ?A];have go:∀ {l:List Int},(l.map fun n=>?HD).sum=Rat.divInt l.sum ns.sum:=by
   intro l
   induction l with
   |nil=>simp[Rat.zero_divInt]
   |cons a l ih=>
    rw[yD,zf,zf,ih,jr _ _ ?A ?A,←Int.add_mul,Rat.divInt_mul_right ?A]
  rw[go];exact Rat.divInt_self' ?A
 .obtain⟨q,hq,rfl⟩:=yA.mp hp;exact h4 q.1 (Qu hq).1
 .obtain⟨q,hq,rfl⟩:=yA.mp hp;have a:=hn q.2 (Qu hq).2;have z:=zh (n:=5) w0 (show q.2.natAbs<2 ^ 5 by lia) (show ns.sum.natAbs<2 ^ 5 by lia);refine⟨?_,z.1,z.2⟩;refine Rat.lt_of_le_of_ne (Rat.divInt_nonneg ?A ?A) fun z=>?_;have z:0=Rat.divInt q.2 ns.sum:=z;have e:=My.q_cross (t:=q.2) w0;rw[←z,show(0:Rat).num=0 from rfl,show(0:Rat).den=1 from rfl] at e;lia
theorem o8 {X:Cx}{ds es:?AD}(hz:?wZ):∀ (x y:V) (H F:Hp) (Q:VK),Yc F H->Is X.K F ?CF x->Is X.K F (.tup es) y->(∀ v H' F',Pur F H F' H'->Is X.K F' (.tup (ds++es)) v->Q v H')->AD X.K x y H Q:=fun x y H F Q fh i1 i2 k=>by
 obtain⟨l,xs,rfl,s1,j1⟩:=isT i1;obtain⟨l2,ys,rfl,s2,j2⟩:=isT i2;have e1:=j1.len;have e2:=j2.len;refine⟨l,l2,xs,ys,rfl,rfl,qD fh s1,qD fh s2,by rw[e1,e2];exact hz,fun z=>?_,fun z=>?_,fun q hq=>k _ _ _ ?HJ (Is.tupI ?Cr ((j1.append j2).mono (?HJ).ff))⟩
 .have:ds=[]:=qr.mp (by rw[←e1,z];rfl);subst this;exact ?LU
 .have:es=[]:=qr.mp (by rw[←e2,z];rfl);subst this;rw[Yq] at k;exact ?LZ
theorem bi(h:(wW 0 n)[i]?=some d):i<n/\d=.int (i:Int):=by
 unfold wW at h;have hi:i<n:=by
  have:=(?FE).1;simpa using this
 rw[yC,jk hi] at h;refine⟨hi,?_⟩;have h':D.int (0+(i:Int))=d:=by simpa using h
 rw[←h',Int.zero_add]
theorem Wt:(wW 0 n).length=n:=by unfold wW;simp
theorem GR {r:Int}(h1:0<=r)(h2:r<6):∃ w:Int,0<=w/\w<=3/\atI [D.int 0,.int 1,.int 1,.int 2,.int 0,.int 3] r=some (.int w):=by
 have:r=0∨r=1∨r=2∨r=3∨r=4∨r=5:=by lia
 rcases this with rfl|rfl|rfl|rfl|rfl|rfl <;> exact⟨_,?B,?B,rfl⟩
theorem Ee {r:Int}(h1:0<=r)(h2:r<so.length):∃ x∈so,atI (yO so) r=some ?CL:=by
 obtain⟨k,rfl⟩:=YR h1;have hk:k<so.length:=by lia
 refine⟨so[k],List.getElem_mem hk,Jo ?_⟩;unfold yO;rw[yC,yj hk];rfl
theorem C8 {c:Int}(q:Int)(h:q=(stp c k p:Nat)):atI Bi.cps.toList (q % 52)=some (lt (stp c k p % 52)):=by
 have e:q % 52=((stp c k p % 52:Nat):Int):=by lia
 rw[e];exact Jo (Bb ⟨stp c k p % 52,?H6⟩)
theorem oW {bs:List ?A1}{ns:?CZ}{j:Nat}{d:D}(h:(V6 ?D0 ?GG)[j]?=some d):∃ b n,(?FK)[j]?=some (b,n)/\d=.tup [y9 b,.int n]:=by
 unfold V6 at h;rw[List.zip_map,qd,yC] at h;obtain⟨p,h1,h2⟩:=Yt.mp h;exact⟨p.1,p.2,h1,h2.symm⟩
theorem rG {bs:List ?A1}{ns:?CZ}:(V6 ?D0 ?GG).length=(?FK).length:=by
 unfold V6;rw[List.zip_map,qd,yf]
theorem Ax:∀ {l:List Int},(∀ x∈l,1<=x/\x<=5)->(l.length:Int)<=l.sum
 |[],_=>by simp
 |a::l,h=>by
  have a1:=h a (by simp);have a2:=Ax (l:=l) fun x hx=>h x ?As;rw[zf,yi];lia
theorem rO:(⟨l.toArray⟩:Str)++?zS=⟨(l++[c]).toArray⟩:=by
 show Str.mk (l.toArray++#[c])=_;simp
theorem gQ {p:List Str×Rat}:yL (rs++grp h (g++[p]))=yL (rs++grp h g)++[zo ?zH]:=by
 unfold yL grp;simp
section
theorem BP (hp:?ET)(J:Nat->Ga->Om->Prop)(h0:J n Γ Ω)
  (step:∀ m Γ Ω,J m Γ Ω->VT3 X B c Γ Ω fun k Ω1=>(k=true->W3 X B body Γ Ω1 {E with nx:=fun Γ' Ω'=>∃ m',?wM,ct:=fun Γ' Ω'=>∃ m',?wM,bk:=fun Γ' Ω'=>?CP})/\(k=false->W3 X B rest Γ Ω1 E)) :
  W3 X B (.While c body [] pos::rest) Γ Ω E:=fun F σ H S pins s I=>by
 refine qm (fF hp FK Qb) Qb pins s σ H _ I ⟨fun m σ H=>∃ Γ Ω F1,Sat X.K B Γ Ω F1 σ H/\Yc F F1/\J m Γ Ω,⟨n,Γ,Ω,F,S,Yc.refl _,h0⟩,?_⟩;rintro m σ H ⟨Γ,Ω,F1,S,f1,j⟩;refine(step m Γ Ω j F1 σ H S).mono fun k H' ⟨Ω',F',S',f',ht,hf⟩=>?_;cases k with
 |true=>
  refine rN ⟨nX X.K B F fun Γ' Ω'=>∃ m',m'<m/\J m' Γ' Ω',?_,Qa (D:=E3.to X.K B F {E with nx:=fun Γ' Ω'=>∃ m',?wM,ct:=fun Γ' Ω'=>∃ m',?wM,bk:=fun Γ' Ω'=>?CP})
   (D':={nx:=nX X.K B F fun Γ' Ω'=>∃ m',?wM,rt:=(?Ct).rt,bk:=?DK,ct:=nX X.K B F fun Γ' Ω'=>∃ m',?wM}) ?zT ?zT (fun _ _ q=>uL q) ?zT (qp (f1.trans f') (ht rfl F' σ H' S'))⟩
  rintro σ' H' ⟨Γ',Ω',F',S',f',m',l,j'⟩;exact⟨m',l,Γ',Ω',F',S',f',j'⟩
 |false=>exact Cb (qp (f1.trans f') (hf rfl F' σ H' S'))
theorem AY {i:Nat}(hi:?zN)(hv:?Ed)(hΓ:Γ[i]?=some ?DE)(he:PF3 X Γ e es)(hz:?wZ)(h:W3 X B rest Γ ((a,QO X.K (ds++es))::Ω) E)
  (hs:∀ {t:TE},PE X ?vZ t->PS X (.Expr ?vZ pos) (nB t):=by exact fun h=>uJ h)
  (hd:?L:=by decide) (hcd:?wA:=by decide) (hst:?xZ:=by rfl)
  (hp:∀ {to:TE} {ta:TA},PE X ?GB to->PA X [e] ta->PE X ?vZ (tBM X.K "list" oK to ta):=by exact fun a b=>rU PySem.F.plainAttrs_list PySem.F.slot_list_extend PySem.F.type_list_extend pT a b) :
  W3 X B (.Expr ?vZ pos::rest) Γ ((a,?CD)::Ω) E:=fun F σ H S pins s I=>by
 obtain⟨v,e1,e2⟩:=S.sl i _ hΓ;cases isR e2;obtain⟨fa,o0,ha,ho⟩:=S.own (a,?CD) (by simp);obtain⟨xs,rfl,il⟩:=ho F ?AH;refine qm (hs (hp ?JU (vx he UA hst))) Qb pins s σ H _ I ⟨_,e1,?II,F,S.fh,S.sl,fun p ys H' F' pu hp fp e' iv=>?_⟩;have S1:=S.pur pu;exact⟨a,p,xs,ys,rfl,rfl,pu.hh _ _ ha,e',by rw[il.len,iv.len];exact hz,qp pu.ff (h F' σ _ (S1.turn fun F2 e2=>⟨_,rfl,(?Lp).append (iv.mono e2)⟩))⟩
end
structure SopOk (s:Nat)(ps:?jB)(n:Nat)(t b:Int):Prop where
 t0:0<=t
 b0:0<b
 tb:t.natAbs<2 ^ (n*(2*s+1)+1)
 bb:b.natAbs<2 ^ (n*(2*s+1)+1)
 e:Rat.divInt t b=Zl ps
theorem IP {s:Nat}{ps:?jB}:SopOk s (ps.take 0) 0 0 1:=⟨Int.le_refl _,?B,by rw[Nat.zero_mul];decide,by rw[Nat.zero_mul];decide,by simp[Zl]⟩
theorem UE {ps:?jB}{p:Rat×Rat}:Zl (ps++[p])=Zl ps+p.1*p.2:=by
 unfold Zl;rw[yY];rfl
theorem SopOk.skip {ps:?jB}{p:Rat×Rat}{t b:Int}(h:SopOk s ps n t b)(hp:p.1=0∨p.2=0):SopOk s (ps++[p]) (n+1) t b:=by
 have hm:2 ^ (n*(2*s+1)+1)<=2 ^ ((n+1)*(2*s+1)+1):=YD ?B (by rw[Qe n 1,Q7];lia);refine⟨h.t0,h.b0,yW h.tb hm,yW h.bb hm,?_⟩;rw[UE,h.e];rcases hp with z|z
 .rw[z,Rat.zero_mul,Rat.add_zero]
 .rw[z,Jr,Rat.add_zero]
theorem Ur {x y g:Int}(h:0<g):Rat.divInt (x*g) (y*g)=Rat.divInt x y:=Rat.divInt_mul_right ?A
theorem Fx {t b n e:Int}(hb:0<b)(he:0<e):Rat.divInt (t*(e / My.G b e)+n*(b / My.G b e)) (b / My.G b e*e)=Rat.divInt t b+Rat.divInt n e:=by
 have g0:0<My.G b e:=My.G_pos he;obtain⟨b',eb⟩:My.G b e ∣ b:=by have:=Int.gcd_dvd_left b e;exact this
 obtain⟨e',ee⟩:My.G b e ∣ e:=by have:=Int.gcd_dvd_right b e;exact this
 generalize hg:My.G b e=g at *;have d1:b / g=b':=by rw[eb,jN _ ?A]
 have d2:e / g=e':=by rw[ee,jN _ ?A]
 rw[d1,d2,jr _ _ ?A ?A,←Ur (x:=t*e'+n*b') (y:=b'*e) g0];congr 1
 .rw[ee,eb];grind
 .rw[eb];grind
theorem SopOk.more {ps:?jB}{p:Rat×Rat}{t b:Int}(h:SopOk s ps n t b)(h1:0<=p.1/\Sz s p.1)(h2:0<=p.2/\Sz s p.2) :
  SopOk s (ps++[p]) (n+1) (t*((p.1.den:Int)*(p.2.den:Int) / My.G b ?yO)+p.1.num*p.2.num*(b / My.G b ?yO)) (b / My.G b ?yO*?yO):=by
 have he:0<(p.1.den:Int)*(p.2.den:Int):=JE ?HS ?HS;have g0:0<My.G b ((p.1.den:Int)*(p.2.den:Int)):=My.G_pos he;have n1:=My.q_num_nn h1.1;have n2:=My.q_num_nn h2.1;have eb:((p.1.den:Int)*(p.2.den:Int)).natAbs<2 ^ (s+s):=qB (jW h1.2) (jW h2.2);have c1:=W2 (a:=b) (g:=?GE) (yQ h.b0) g0;have c2:=W2 (a:=?yO) (g:=?GE) (yQ he) g0;have b1:=kJ c1 h.bb;have b2:=kJ c2 eb;have bn:(p.1.num*p.2.num).natAbs<2 ^ (s+s):=qB h1.2.1 h2.2.1;have x1:=qB h.tb b2;have x2:=qB bn b1;have x3:=qB b1 eb;have eX:n*(2*s+1)+1+(s+s)+1=(n+1)*(2*s+1)+1:=by rw[Qe n 1,Q7];lia
 have e2:2 ^ ((n+1)*(2*s+1)+1)=2 ^ (n*(2*s+1)+1+(s+s))+2 ^ (n*(2*s+1)+1+(s+s)):=by rw[←eX,QW];lia
 rw[Nat.add_comm (s+s)] at x2;refine⟨Int.add_nonneg (Jc h.t0 c2.1) (Jc (Jc n1 n2) c1.1),JE ?_ he,?_,?_,?_⟩
 .obtain⟨q,hq⟩:My.G b ((p.1.den:Int)*(p.2.den:Int)) ∣ b:=by have:=Int.gcd_dvd_left b ?yO;exact this
  have hb:=h.b0;generalize My.G b ?yO=g at *;subst hq;rw[jN _ (by lia)];exact Int.pos_of_mul_pos_right hb g0
 .rw[e2];exact jm (Int.natAbs_add_le _ _) ?A
 .rw[e2];lia
 .rw[Fx h.b0 he,UE,h.e];congr 1;exact My.q_mul p.1 p.2
theorem VQ {α:Type}{f:α->D}{xs:?B4}{i:Nat}{d:D}(h:(xs.map f)[i]?=some d):∃ x,xs[i]?=some x/\d=f x:=by
 rw[yC] at h;obtain⟨x,h1,h2⟩:=Yt.mp h;exact ?Io
def ao (n i:Nat):List (Nat×Nat):=(List.range i).flatMap fun l=>(List.range (n - l)).map fun j=>(j,j+l+1)
theorem xM:ao n (i+1)=ao n i++(List.range (n - i)).map fun j=>(j,j+i+1):=by
 unfold ao;rw[YC,Qf];simp
theorem p7:(ao n i).length<=n*i:=by
 induction i with
 |zero=>simp[ao]
 |succ i ih=>
  rw[xM,yI,yf,List.length_range,Nat.mul_succ];lia
theorem X2:yO L=(?Ca).map KU:=by unfold yO;rw[qd];rfl
theorem xT {L:?A1}(h:L.Nodup):(?Ca).Nodup:=by
 rw[List.nodup_iff_pairwise_ne,List.pairwise_map];exact(List.nodup_iff_pairwise_ne.mp h).imp fun a b=>a (Vl _ _ b)
theorem mZ(hs:∀ r∈ss,0<=r.2.2/\Sz s r.2.2)(h1:1<=s):0<=vw ss h o/\Sz s (vw ss h o):=by
 unfold vw;cases q:vA (ss.map fun r=>?U) (ss.map ?yD) (h,o) with
 |none=>exact⟨?B,Uq.mono h1⟩
 |some v=>
  obtain⟨r,hr,e⟩:=yA.mp (bM q);rw[←e];exact hs r hr
theorem AR {F:?H}{i:Nat}(h:(V6 (yO L) (tb L.length fun i=>shR L.length (F i)))[i]?=some d):∃ x,i<L.length/\L[i]?=some x/\d=.tup [.str x,shR L.length (F i)]:=by
 unfold V6 at h;rw[yC] at h;obtain⟨p,h1,h2⟩:=Yt.mp h;obtain⟨a,b⟩:=qw.mp h1;obtain⟨x,hx,ex⟩:=jH a;have hi:i<L.length:=(yk.mp hx).1;rw[JU hi] at b;refine⟨x,hi,hx,?_⟩;rw[←h2,ex,←Option.some.inj b]
theorem sf {F:?H}:(V6 (yO L) (tb L.length fun i=>shR L.length (F i))).length=L.length:=by
 unfold V6;rw[yf,YZ,YL,Y1];lia
end L3
namespace Law
open PySem L2 L3
theorem VL:FnScope ["row", "found", "length"] ["row"] (yp JC):=qJ
theorem Jl:FnScope ["one", "other", "rest"] ["one", "other"] (yp Q1):=qJ
theorem dP:FnScope ["top", "bottom", "divisor"] ["top", "bottom"] (yp VY):=qJ
theorem Uf:FnScope ["one", "other", "divisor", "top", "left"] ["one", "other"] (yp VA):=qJ
theorem ft:FnScope ["one", "other"] ["one", "other"] (yp Zc):=qJ
theorem Xb:FnScope ["one", "other", "first", "second"] ["one", "other"] (yp KH):=qJ
theorem oZ:FnScope ["one", "other"] ["one", "other"] (yp vY):=qJ
theorem qi:FnScope ["pairs", "top", "bottom", "one", "other", "below", "divisor"] ["pairs"] (yp Qd):=qJ
theorem lE:FnScope ["one", "other"] ["one", "other"] (yp ZZ):=qJ
theorem zv:FnScope ["self", "grammar", "row", "i", "j"] ["self", "grammar", "row"] (yp QZ):=qJ
theorem Xw:FnScope ["self", "head", "i", "j"] ["self", "head", "i", "j"] (yp JI):=qJ
theorem Q4:FnScope ["self", "i", "j", "grown", "number"] ["self", "i", "j"] (yp QF):=qJ
theorem Jk:FnScope ["self", "number", "i", "j", "rule", "parting", "product"] ["self", "number", "i", "j"] (yp QY):=qJ
theorem Ji:FnScope ["self", "body", "i", "j", "only"] ["self", "body", "i", "j"] (yp qY):=qJ
theorem Y2:FnScope ["self", "body", "i", "j", "best", "middle", "first", "rest", "product"] ["self", "body", "i", "j"] (yp Y8):=qJ
theorem uf:FnScope ["self", "symbol", "i", "j"] ["self", "symbol", "i", "j"] (yp QE):=qJ
theorem Z2:FnScope ["grammar", "row", "bests", "found", "head", "i", "j"] ["grammar", "row"] (yp Vv):=qJ
theorem Uc:FnScope ["grammar", "row", "found"] ["grammar", "row"] (yp zd):=qJ
theorem KW:FnScope ["self", "start", "rules"] ["self", "start", "rules"] (yp Qr):=qJ
theorem Ux:FnScope ["self"] ["self"] (yp jg):=qJ
theorem UF:FnScope ["self"] ["self"] (yp jd):=qJ
theorem UZ:FnScope ["self"] ["self"] (yp jf):=qJ
theorem Wa:FnScope ["self"] ["self"] (yp jK):=qJ
theorem va:FnScope ["rules", "seen", "rule"] ["rules"] (yp Jb):=qJ
theorem K1:FnScope ["rule", "symbol"] ["rule"] (yp JN):=qJ
theorem Wb:FnScope ["text"] ["text"] (yp jL):=qJ
theorem cK:FnScope ["text"] ["text"] (yp Jw):=qJ
theorem bq:FnScope ["sign"] ["sign"] (yp za):=qJ
theorem WC:FnScope ["start", "heads"] ["start", "heads"] (yp Jd):=qJ
theorem JY:FnScope ["heads", "rules", "head", "total", "rule"] ["heads", "rules"] (yp JL):=qJ
theorem Kh:FnScope ["rules", "heads", "rule"] ["rules"] (yp Za):=qJ
theorem zX:FnScope ["heads", "rules", "live", "grown", "found"] ["heads", "rules"] (yp zU):=qJ
theorem UN:FnScope ["head", "rules", "heads", "live"] ["head", "rules", "heads", "live"] (yp QJ):=qJ
theorem wY:FnScope ["body", "heads", "live"] ["body", "heads", "live"] (yp Q8):=qJ
theorem Jv:FnScope ["ways", "ends", "rows", "k", "found"] ["ways", "ends"] (yp Qv):=qJ
theorem vE:FnScope ["row", "k", "left"] ["row", "k"] (yp Qq):=qJ
theorem aR:FnScope ["row", "k", "found", "way"] ["row", "k", "found"] (yp vd):=qJ
theorem iu:FnScope ["row", "k"] ["row", "k"] (yp ZY):=qJ
theorem jA:FnScope ["self", "grammar", "row", "live", "rules", "i", "j"] ["self", "grammar", "row"] (yp Qm):=qJ
theorem WP:FnScope ["self", "head", "i", "j"] ["self", "head", "i", "j"] (yp j9):=qJ
theorem Xx:FnScope ["self"] ["self"] (yp JK):=qJ
theorem zx:FnScope ["self", "i", "j", "ends", "head", "total"] ["self", "i", "j"] (yp ju):=qJ
theorem J5:FnScope ["self", "i", "j", "ends", "rule", "worth"] ["self", "i", "j"] (yp jJ):=qJ
theorem Xz:FnScope ["self", "symbol", "i", "j"] ["self", "symbol", "i", "j"] (yp JO):=qJ
theorem zO:FnScope ["self", "body", "i", "j"] ["self", "body", "i", "j"] (yp qX):=qJ
theorem QG:FnScope ["self", "body", "i", "j", "pairs", "middle", "worth"] ["self", "body", "i", "j"] (yp qg):=qJ
theorem vN:FnScope ["grammar", "heads", "live"] ["grammar"] (yp JP):=qJ
theorem h8:FnScope ["rule", "heads"] ["rule", "heads"] (yp Vb):=qJ
theorem QU:FnScope ["heads", "steps", "straight", "rule", "ways", "ends", "head", "chains", "found"] ["heads", "steps"] (yp JD):=qJ
theorem WH:FnScope ["_law_script", "_law_k"] ["_law_script", "_law_k"] (yp JZ):=qJ
theorem fQ:FnScope ["_law_cell"] ["_law_cell"] (yp vg):=qJ
theorem eV:FnScope ["_law_dice_here", "_law_most_here"] ["_law_dice_here", "_law_most_here"] (yp Z5):=qJ
theorem cq:FnScope ["_law_found"] ["_law_found"] (yp Zz):=qJ
theorem qC:FnScope ["_law_cell", "_law_many", "_law_letters", "_law_size", "_law_at", "_law_out", "_law_k", "_law_name", "_law_place", "_law_step"] ["_law_cell", "_law_many"] (yp j8):=qJ
theorem JJ:FnScope ["_law_top", "_law_bottom", "_law_one", "_law_other", "_law_rest"] ["_law_top", "_law_bottom"] (yp ze):=qJ
theorem cE:FnScope ["_law_one", "_law_other"] ["_law_one", "_law_other"] (yp ZA):=qJ
theorem QV:FnScope ["_law_dice_here", "_law_heads", "_law_words_here", "_law_first", "_law_out", "_law_k", "_law_body", "_law_place", "_law_some"] ["_law_dice_here", "_law_heads", "_law_words_here", "_law_first"] (yp zl):=qJ
theorem jR:FnScope ["_law_dice_here", "_law_heads", "_law_words_here", "_law_out", "_law_head", "_law_bodies_here", "_law_weights", "_law_body", "_law_weight"] ["_law_dice_here", "_law_heads", "_law_words_here"] (yp zk):=qJ
theorem Zk:FnScope ["_law_cell", "_law_other", "_law_most_here", "_law_symbols_here", "_law_dice_here", "_law_heads", "_law_words_here"] ["_law_cell", "_law_other", "_law_most_here"] (yp vc):=qJ
theorem zm:FnScope ["_law_tree_here", "_law_out", "_law_part"] ["_law_tree_here"] (yp Zp):=qJ
theorem j4:FnScope ["_law_rules_here", "_law_tree_here", "_law_found", "_law_part"] ["_law_rules_here", "_law_tree_here"] (yp Jx):=qJ
theorem zp:FnScope ["_law_rules_here", "_law_symbol", "_law_thing", "_law_body", "_law_one", "_law_part"] ["_law_rules_here", "_law_symbol", "_law_thing"] (yp Jf):=qJ
theorem xm:FnScope ["_law_cell", "_law_words_here", "_law_most_here", "_law_dice_here"] ["_law_cell", "_law_words_here", "_law_most_here"] (yp Z1):=qJ
theorem VZ:FnScope ["_law_script", "_law_way", "_law_made_here"] ["_law_script"] (yp Zj):=qJ
theorem zb:FnScope ["_law_box", "_law_body", "_law_i", "_law_j", "_law_out", "_law_cut", "_law_first"] ["_law_box", "_law_body", "_law_i", "_law_j"] (yp z9):=qJ
theorem Y9:FnScope ["_law_rules_here", "_law_found", "_law_row_here", "_law_box", "_law_i", "_law_j", "_law_head", "_law_body", "_law_own", "_law_bound", "_law_one", "_law_other"] ["_law_rules_here", "_law_found", "_law_row_here"] (yp jq):=qJ
theorem zY:FnScope ["_law_script", "_law_heads", "_law_words_here", "_law_rules_here", "_law_row_here", "_law_start", "_law_by", "_law_grammar", "_law_whole_here", "_law_found", "_law_tree_here", "_law_mine"] ["_law_script"] (yp eM):=qJ
section
variable (P w K mg base) in
abbrev mM:Prop:=OkF P w K mg base CX0 2 "common_divisor" ["one", "other"] (spP K 2 IX)
theorem Ud  (d:Yo K mg "common_divisor" Q1 ["one", "other"])  : ?HE:=by
 refine YJ d Jl rfl fun f cdv A outer s H E hr ds r hC B hB=>?_;obtain⟨a,b,rfl,rfl,ha,hb⟩:=hC;refine cf PassesOwn.never (fun Γ _=>∃ (x y:Int) (z:Option D),Γ=[some (.int x),some (.int y),z]/\0<=x/\0<=y/\My.G x y=My.G a b) (fun Γ _=>match Γ with|[_,some (.int y),_]=>y.toNat|_=>0) ⟨a,b,none,rfl,ha,hb,rfl⟩ ?_;rintro Γ Ω ⟨x,y,z,rfl,hx,hy,hg⟩;refine⟨_,(ql (o6 ?AO yx)),fun hk=>?_,fun hk=>?_⟩
 .have hk:=of_decide_eq_true hk;refine YM (i:=2) Jl.nd rfl ?A2 (wG ?A8 ?AO ?_) ?_
  .exact hk
  refine YM (i:=0) Jl.nd rfl ?A2 ?AO ?_;refine YM (i:=1) Jl.nd rfl ?A2 ?AT ?_;refine y8 ⟨⟨y,x % y,_,rfl,hy,(ZU hk).1,(nR hx hk).trans hg⟩,?_⟩;have:=ZU (a:=x) hk;show(x % y).toNat<y.toNat
  lia
 .have hk:=of_decide_eq_false hk;refine YK ?A8 ?_;have y0:y=0:=by lia
  subst y0;rw[My.G_end hx] at hg;show D.int x=D.int (My.G a b);rw[hg]
variable (P w K mg base) in
abbrev mX:Prop:=OkF P w K mg base CX0 33 "share" ["top", "bottom"] (spP K 2 mC)
theorem CB (ht:?jC)(d:Yo K mg "share" VY ["top", "bottom"])(Q3:?HE):?HB:=by
 refine YJ d dP rfl fun f cdv A outer s H E hr ds r hC B hB=>?_;obtain⟨t,b,rfl,rfl,h1,h2⟩:=hC;have py:Pyl (cx0 P w K mg base ["top", "bottom", "divisor"] "share" VY f cdv A outer s H E):=(?Ic).nox;have g0:=My.G_pos (a:=t) h2;refine QT (ql (dX ?A8 yx)) ?_ ?_
 .intro hk;have hk:=of_decide_eq_true hk;lia
 .intro hk;refine ?AR;refine QT (ql (dX ?AO yx)) ?_ ?_
  .intro hk;have hk:=of_decide_eq_true hk;lia
  .intro hk;refine ?AR;refine YM (i:=2) dP.nd rfl ?A2 (Yk (d:=.int (My.G t b)) Q3 ?A3 rfl ?J4 ?_) ?_
   .exact⟨t,b,rfl,rfl,h1,yQ h2⟩
   refine ?KI
   .exact g0
   .exact g0
   show D.tup [D.int (t / My.G t b),D.int (b / My.G t b)]=sh ?Cp;unfold sh;rw[←My.num_share h2,←My.den_share h2,Ym _ (yQ g0),Ym _ (yQ g0)]
variable (P w K mg base) in
abbrev nU:Prop:=OkF P w K mg base CX0 33 "added" ["one", "other"] (spP K 2 C9)
theorem Bu (ht:?jC)(d:Yo K mg "added" VA ["one", "other"])(Q3:?HE):?H8:=by
 refine YJ d Uf rfl fun f cdv A outer s H E hr ds r hC B hB=>?_;obtain⟨p,q,m,n,rfl,rfl,hp,hq,s1,s2,l1,l2,-⟩:=hC;have py:Pyl (cx0 P w K mg base ["one", "other", "divisor", "top", "left"] "added" VA f cdv A outer s H E):=(xp ht rfl rfl hr ?B).nox;have g0:0<My.G p.den q.den:=My.G_pos ?BK;have n1:=My.q_num_nn hp;have n2:=My.q_num_nn hq;have c1:=W2 (a:=(p.den:Int)) (g:=?Dt) (yQ ?BT) g0;have c2:=W2 (a:=(q.den:Int)) (g:=?Dt) (yQ ?BK) g0;refine YM (i:=2) Uf.nd rfl ?A2 (Yk (d:=.int ?Dt) Q3 ?A3 rfl (yb ?Bn (yb ?Cn yq)) ?_) ?_
 .exact⟨_,_,rfl,rfl,yQ ?BT,yQ ?BK⟩
 refine YM (i:=3) Uf.nd rfl ?A2 (J0 (JS ?Bn (Jn py ?Cn ?AT ?_) ?_) (JS ?Cn (Jn py ?Bn ?AT ?_) ?_)) ?_
 .exact g0
 .exact zw s1.1 (kJ c2 (jW s2)) (by have:big=67108864:=rfl;lia)
 .exact g0
 .exact zw s2.1 (kJ c1 (jW s1)) (by have:big=67108864:=rfl;lia)
 have t0:0<=p.num*((q.den:Int) / My.G p.den q.den)+q.num*((p.den:Int) / My.G p.den q.den):=Int.add_nonneg (Jc n1 c2.1) (Jc n2 c1.1);have e:=My.add_num n1 n2;generalize hT:p.num*((q.den:Int) / My.G p.den q.den)+q.num*((p.den:Int) / My.G p.den q.den)=T at *;have h0:0<My.G T (My.G p.den q.den):=My.G_pos g0;have c3:=W2 (a:=(q.den:Int)) (g:=My.G T ?Dt) (yQ ?BK) h0;refine YM (i:=4) Uf.nd rfl ?A2 (Yk (d:=.int (My.G T ?Dt)) Q3 ?A3 rfl (yb ?AZ ?Dh) ?_) ?_
 .exact⟨_,_,rfl,rfl,t0,yQ g0⟩
 refine YK (qM (yb (Jn py ?AZ ?AX ?_) (yb (JS (Jn py ?Bn ?AT ?_) (Jn py ?Cn ?AX ?_) ?_) yq))) ?_
 .exact h0
 .exact g0
 .exact h0
 .exact zw (kJ c1 (jW s1)) (kJ c3 (jW s2)) (by have:big=67108864:=rfl;lia)
 show D.tup [D.int (T / My.G T ?Dt),D.int ((p.den:Int) / My.G p.den q.den*((q.den:Int) / My.G T ?Dt))]=sh (p+q);unfold sh;rw[e.1,e.2]
variable (P w K mg base) in
abbrev af:Prop:=OkF P w K mg base CX0 2 "is_less" ["one", "other"] (spP K 2 Hb)
theorem gH  (d:Yo K mg "is_less" ZZ ["one", "other"])  : ?FF:=by
 refine YJ d lE rfl fun f cdv A outer s H E hr ds r hC B hB=>?_;obtain⟨p,q,m,n,rfl,rfl,s1,s2,l1,l2⟩:=hC;refine YK (vZ (dX ?FR (JS ?Cn ?Bn ?_))) ?_
 .exact kK s1 s2 l1 l2
 .exact kK s2 s1 l2 l1
 .show D.bl (decide (p.num*q.den<q.num*p.den))=D.bl (decide (p<q));rw[decide_eq_decide.mpr (My.q_lt p q)]
variable (P w K mg base) in
abbrev Fj:Prop:=OkF P w K mg base CX0 34 "lessened" ["one", "other"] (spP K 2 lC)
theorem dW  (d:Yo K mg "lessened" Zc ["one", "other"])(KQ:?HB)(JQ:?FF):Fj P w K mg base:=by
 refine YJ d ft rfl fun f cdv A outer s H E hr ds r hC B hB=>?_;obtain⟨p,q,m,n,rfl,rfl,hp,hq,s1,s2,l1,l2,hle⟩:=hC;refine QT (jn (Yk (d:=.bl (decide (p<q))) JQ ?A3 rfl ?J4 ?_)) ?_ ?_
 .exact⟨p,q,m,n,rfl,rfl,s1,s2,l1,l2⟩
 .intro hk;have hk:=of_decide_eq_true hk;exact absurd hk (Rat.not_lt.mpr hle)
 .intro hk;refine ?AR;refine YK (Yk (d:=sh (p - q)) KQ ?A3 rfl (yb (dL ?FR (JS ?Cn ?Bn ?_)) (yb ?FR yq)) ?_) ?_
  .exact kK s1 s2 l1 l2
  .exact kK s2 s1 l2 l1
  .exact h7 s1 s2 l1 l2
  .exact⟨_,_,rfl,by rw[My.q_sub],GI hle,AA⟩
  .rfl
variable (P w K mg base) in
abbrev WO:Prop:=OkF P w K mg base CX0 34 "timed" ["one", "other"] (spP K 2 mF)
theorem sq  (d:Yo K mg "timed" KH ["one", "other"])(KQ:?HB):?Dx:=by
 refine YJ d Xb rfl fun f cdv A outer s H E hr ds r hC B hB=>?_;obtain⟨p,q,m,n,rfl,rfl,hp,hq,s1,s2,l1,l2,-⟩:=hC;have n1:=My.q_num_nn hp;have n2:=My.q_num_nn hq;have z1:=zh (n:=max m n) ?BK (yW s1.1 (Ul (jC m n))) (yW (jW s2) (Ul (ji m n)));have z2:=zh (n:=max m n) ?BT (yW s2.1 (Ul (ji m n))) (yW (jW s1) (Ul (jC m n)));refine YM (i:=2) Xb.nd rfl ?A2 (Yk (d:=sh ?Fg) KQ ?A3 rfl (yb ?Bn (yb ?Cn yq)) ?_) ?_
 .exact⟨_,_,rfl,rfl,n1,?BK⟩
 refine YM (i:=3) Xb.nd rfl ?A2 (Yk (d:=sh ?FY) KQ ?A3 rfl (yb ?Cn (yb ?Bn yq)) ?_) ?_
 .exact⟨_,_,rfl,rfl,n2,?BT⟩
 refine YK (qM (yb (JS ?Fr ?IC ?_) (yb (JS ?Fr ?IC ?_) yq))) ?_
 .exact Aq z1 z2 ?A ?A
 .exact h7 z1 z2 ?A ?A
 show D.tup [D.int ((?Fg).num*(?FY).num),D.int (((?Fg).den:Int)*((?FY).den:Int))]=sh (p*q);exact(FX p q).symm
variable (P w K mg base) in
abbrev EL:Prop:=OkF P w K mg base CX0 35 "parted" ["one", "other"] (spP K 2 CA)
theorem pV (yZ:?X)(d:Yo K mg "parted" vY ["one", "other"])(zH:?Dx):EL P w K mg base:=by
 refine YJ d oZ rfl fun f cdv A outer s H E hr ds r hC B hB=>?_;obtain⟨p,q,m,n,rfl,rfl,hp,hq,s1,s2,l1,l2,h0⟩:=hC;have hu:=hr.units;refine QT (ql (XH hr.units (pq 1 rfl) (qo yZ rfl) zD zA)) ?_ ?_
 .intro hk;rw[JB] at hk;have hk:=of_decide_eq_true hk;rw[hk] at h0;exact absurd h0 ?B
 .intro hk;refine ?AR;refine YK (Yk (d:=sh (p / q)) zH ?A3 rfl (yb (pq 0 rfl) (yb (qM (yb (y7 (pq 1 rfl) yx rfl) (yb (y7 (pq 1 rfl) yx rfl) yq))) yq)) ?_) ?_
  .refine⟨p,q⁻¹,m,n,by rw[Gp h0],by rw[Rat.div_def],hp,Yx (Rat.inv_pos.mpr h0),s1,Gs h0 s2,l1,l2,trivial⟩
  .rfl
end
end Law
namespace L3
open PySem PySem.Spec PySem.Calls PyProof.Rows L2
structure ClsS (K:?A0)(C:Addr):Prop where
 c:Cls K C
 n_grammar:QH K C "grammar"
 n_row:QH K C "row"
 n_known_heads:QH K C "known_heads"
 n_branches:QH K C "branches"
 n_chains:QH K C "chains"
 n_known_sums:QH K C "known_sums"
 n_known_worths:QH K C "known_worths"
theorem El {K:?A0}{C:Addr}(pg:W.plainGet K C Str.empty=true)(hd:?vE)(po:W.plainOver K C=true)(sa:?vT)
  (n1:W.findIn K ?AM "grammar" = some none) (n2:W.findIn K ?AM "row" = some none) (n3:W.findIn K ?AM "known_heads" = some none) (n4:W.findIn K ?AM "branches" = some none) (n5:W.findIn K ?AM "chains" = some none) (n6:W.findIn K ?AM "known_sums" = some none) (n7:W.findIn K ?AM "known_worths" = some none):ClsS K C:=⟨?J6,n1,n2,n3,n4,n5,n6,n7⟩
theorem kX:("within" : Str)∉sF:=by decide +kernel
theorem XG:("whole" : Str)∉sF:=by decide +kernel
theorem Wy:("settle" : Str)∉sF:=by decide +kernel
theorem wS:("ends_at" : Str)∉sF:=by decide +kernel
theorem K5:("worth" : Str)∉sF:=by decide +kernel
theorem zN:("worth_of_body" : Str)∉sF:=by decide +kernel
theorem nj [DecidableEq κ]:∀ {ks:List κ} {xs:List α},k∈ks->ks.length=xs.length->∃ v,vA ks xs k=some v
 |[],_,h,_=>by cases h
 |_::_,[],_,h=>by simp at h
 |q::ks,x::xs,h,hl=>by
  unfold vA;rw[yU,y3];by_cases e:q=k
  .rw[yK e];exact⟨x,rfl⟩
  .rw[yu e];exact nj ((yB.mp h).resolve_left fun z=>e z.symm) (by simpa using hl)
theorem bY {L:?A1}{x:Str}(h:x∈L):L[L.idxOf x]?=some x:=by
 have hl:L.idxOf x<L.length:=Y6.mpr h;rw[yj hl,Qp]
theorem WX {ch:?H}:(UG L ch e h).length=e.1.length:=by unfold UG;rw[yf]
theorem CC {L:?A1}{F:Nat->D}{h:Str}(nd:L.Nodup)(hh:h∈L):vA ?Ca (tb L.length F) (jz h)=some (F (L.idxOf h)):=by
 have:=IU (ks:=?Ca) (F:=F) (k:=jz h) (i:=L.idxOf h) (xT nd) (by rw[yC,bY hh];rfl)
 rw[yf] at this;exact this
theorem Hl {e:En}{o:Str}(hl:e.1.length=e.2.length)(ho:o∈e.1):vA (e.1.map jz) (e.2.map sh) (jz o)=some (sh ((vA e.1 e.2 o).getD 0)):=by
 rw[k8 Vl];obtain⟨v,hv⟩:=nj ho hl;rw[hv];rfl
theorem By {ch:?H}:∀ {hs:List Str} {kn:Kn},(hs.foldl ?Ej kn).1.length<=kn.1.length+hs.length
 |[],kn=>yg _
 |h::hs,kn=>by
  rw[Yi,yi];have:=By (L:=L) (ch:=ch) (e:=e) (i:=i) (j:=j) (hs:=hs) (kn:=QD L ch e i j kn h);have:(QD L ch e i j kn h).1.length<=kn.1.length+1:=by
   unfold QD fM;split
   .lia
   .exact bv
  lia
def yy (rs:?A4):?A1:=zj ?A5 rs
def Z9 (rs:?A4):?A4:=(?BX).filter fun r=>!Qz ?A7 r
def zM (rs:?A4):?A4:=(?BX).filter ?DB
def vL (rs:?A4):?H:=chF ?A7 ?B5
theorem tZ(hs:∀ r∈ss,0<=r.2.2/\Sz s r.2.2)(h1:1<=s)(hp:Piv L.length ?EA):kR L.length L.length (sK s L.length) (chF L ss):=by
 have gI:kR L.length L.length s (idM L):=fun i j _ _=>by
  unfold idM;split
  .exact⟨?B,wX.mono h1⟩
  .exact⟨?B,Uq.mono h1⟩
 have gW:kR L.length L.length s (wM2 L ss):=fun i j _ _=>mZ hs h1;have G:=(mH gW gI).at (QK _ _) L.length (yg _) fun k hk=>iR hp k hk;intro i j hi hj;exact G i (L.length+j) hi ?A
section
theorem oC (hu:?Q)(h:V3 X B o Γ Ω fun d Ω1=>∃ l,d=.raw ?Df/\V3 X B i Γ Ω1 fun di Ω2=>∃ ks kvs e,di=kD ks/\(l,?EP)∈Ω2/\atD kvs ks=some e/\R e Ω2)(hs:BW i:=by exact ?yH):V3 X B ?Ff Γ Ω R:=fun F σ H S pins s I=>by
 refine mJ PySem.F.slot_dict_getitem.lookup hs (thn (h F σ H S pins s I) fun u s1 ⟨x,H1,I1,rx,d,Ω1,F1,S1,f1,i1,l,e1,h1⟩=>thn (h1 F1 σ H1 S1 pins s1 I1) fun iv s2 ⟨y,H2,I2,ry,di,Ω2,F2,S2,f2,i2,ks,kvs,e,e2,m,e3,q⟩=>?_);subst e1 e2;cases isR i1;cases rx;obtain⟨fa,o',ha,ho⟩:=S2.own _ m;obtain⟨xs,rfl,dp⟩:=ho F2 ?AH;obtain⟨c,_,rfl,_⟩:=isT i2;cases ry;obtain⟨h0,dd⟩:=dg I2 ha (dp.mono S2.fh);rcases dp.at (k:=ks) with ⟨_,z⟩|⟨p,d',v,z1,z2,r,iv⟩
 .rw[e3] at z;cases z
 .rw[e3] at z2;cases z2;refine⟨?_,wpAny_getItem_heap ?kR (xE I2 (i2.mono S2.fh)) dd z1 ⟨v,H2,I2.tok _,r,e,Ω2,F2,S2,?Dv,iv,q⟩⟩;obtain⟨ob,_,_,g1,g2,_⟩:=dd;exact⟨ob,g1,g2.1⟩
end
def io (K:?A0)(n:Nat)(Cc:Addr)(C0:?zL)(C:?qB):Sp:=fun vs H Q _=>∃ (a:Addr) (us:List V) (ds:List D) (F:Hp) (dx:Addr),vs=.ref a::us/\ds.length+1=n/\Yc F H/\F a=none/\H a=some (.ins Cc dx [])/\IsL K F ds us/\C0 ds/\
 ∀ r,C ds r->∀ (H' F':Hp) (dx':Addr) (xs:List V),Yc F F'->Yc F' H'->(∀ b o,b≠a->H b=some o->H' b=some o)->?kG->F' a=none->H' a=some (.ins Cc dx' (r.1.zip xs))->r.1.length=xs.length->IsL K F' r.2 xs->Q .non H'
theorem io.len {K:?A0}{n:Nat}{Cc:Addr}{C0:?zL}{C:?qB}{vs:?AL}{H:Hp}{Q:VK}{E:XK}(h:io K n Cc C0 C vs H Q E):vs.length=n:=by
 obtain⟨a,us,ds,F,dx,rfl,l,_,_,_,i,_⟩:=h;rw[yi,i.len,l]
theorem eE {P:?AA}{w:?A9}{K:?A0}{mg:?J}{base:Heap}{x q:Str}{st:Stmt}{N ps:?A1}{k n:Nat}{Cc:Addr}{C0:?zL}{C:?qB}(d:vz K mg x Cc q st ps)(S:?BW)(hn:?qQ)
  (body:∀ (f:Addr) (cdv:Value) (A:Around) (outer:List Env) (s:Shared) (H:Hp) (E:XK),Room k ?Dj->∀ (a:Addr) (ds:List D),C0 ds->∀ B:Bs,B.M=[a]->
   W3 ?DD B ?Ar (jD N (.raw ?AI::ds)) [(a,JW K Cc [] [])] ⟨fun _ Ω=>∃ r,C ds r/\Ω=[(a,JW K Cc r.1 r.2)],fun _ _=>?AB,fun _ _=>?AB,fun _ _=>?AB⟩):OkI P w K mg base CX0 (k+1) x Cc ps (io K n Cc C0 C):=
 d.ok S (fun vs H Q E h=>(io.len h).trans hn.symm) fun f cdv A outer s H vs Q E hr h=>⟨_,Qb,by
  obtain⟨a,us,ds,F,dx,rfl,hl,fh,fa,ha,il,hC,q⟩:=h;have il':IsL K F (.raw (.ref a)::ds) (.ref a::us):=IsL.cons (Vg F) il;have S0:Sat K ⟨[a],F,H⟩ (jD N (.raw (.ref a)::ds)) [(a,JW K Cc [] [])] F (L2.start N (.ref a::us)) H:=by
   refine ?xQ
   .rw[yE.mp hp];exact .inl (by simp)
   .rw[yE.mp hp];exact⟨fa,_,ha,fun _ _=>⟨dx,[],rfl,rfl,?CG⟩⟩
  refine Qa (D:=E3.to K ?wQ F ⟨fun _ Ω=>∃ r,C ds r/\Ω=[(a,JW K Cc r.1 r.2)],fun _ _=>?AB,fun _ _=>?AB,fun _ _=>?AB⟩) (D':={nx:=fun _ H'=>?Ay,rt:=Q}) ?_ ?_ ?_ ?_ (body f cdv A outer s H E hr a ds hC ?wQ rfl F _ H S0)
  .rintro σ' H' ⟨Γ',Ω',F',S',f',r,hr',rfl⟩;obtain⟨fa',o,ha',ho⟩:=S'.own (a,JW K Cc r.1 r.2) (by simp);obtain⟨dx',xs,rfl,hl',il2⟩:=ho F' ?AH;refine q r hr' H' F' dx' xs S'.f0 S'.fh ?uB ?jO fa' ha' hl' il2;rcases S'.fr b hb with z|z|z
   .exact ?Ap
   .exact ?BR
   .have e:b=a:=by simpa using z
    subst e;exact ?Jt
  .rintro v H' ⟨_,_,_,_,_,_,z⟩;exact ?AQ
  .rintro σ' H' ⟨_,_,_,_,_,z⟩;exact ?AQ
  .rintro σ' H' ⟨_,_,_,_,_,z⟩;exact ?AQ⟩
section
theorem a8(ok:OkI X.prog X.w X.K X.mg X.base CX0 k x Cc ps (io X.K n Cc C0 C))(hr:Room (k+1) X.A)(hg:?Af)(ha:?yP)(h0:C0 ds)(h:∀ r,C ds r->R (.obj Cc r.1 r.2) Ω)(hn:ds.length+1=n:=by rfl)(hdb:?L:=by decide)
  (he:?W:=by rfl) (hpl:?zD:=by rfl):?Iy:=fun F σ H S pins s I=>by
 obtain⟨f,fd,Fn,M,hm,hb⟩:=ok;refine lS M Fn hr hg hm hb .nil uZ ha hdb he hpl pins s σ H _ I ⟨F,S.fh,S.sl,fun vs H1 F1 p1 i1 a dx ha' hdx hne=>?_⟩;rw[Yq];have f1:F1 a=none:=p1.fh.free ha';have sm:Yc H1 (upd (upd H1 dx (.own a)) a (.ins Cc dx [])):=fun b u e1=>by
  rw[yX (Ys e1 ha'),yX (Ys e1 hdx)];exact e1
 refine⟨a,vs,ds,F1,dx,rfl,hn,p1.fh.trans sm,f1,yT,i1,h0,fun r hC H' F' dx' xs g1 g2 g3 g4 g5 g6 g7 g8=>⟨rfl,?_⟩⟩;have pu:Pur F1 H1 F' H':=by
  refine⟨g1,g2,fun b u e1=>?LF,fun b e1=>?_⟩;rcases g4 b e1 with z|z
  .exact ?Ap
  .exact .inr (sm.free z)
 obtain⟨pf,w⟩:=WY pu ha' g5 g6;refine⟨.obj Cc r.1 r.2,Ω,_,S.pur (p1.trans pf),(p1.trans pf).ff,?_,h r hC⟩;simp only[Is];exact ?L0
end
def OkN (D n e:Nat)(q:Rat):Prop:=∃ z:Nat,q=Rat.divInt (z:Int) ((D ^ e:Nat):Int)/\z<=n*D ^ (2*e)
abbrev OkD (D e:Nat)(q:Rat):Prop:=OkN D 1 e q
section
variable {D n m e f:Nat}{p q:Rat}
theorem Xf (h:0<D):(0:Int)<((D ^ e:Nat):Int):=by have:=Nat.pow_pos (n:=e) h;lia
theorem OkN.nn (hD:0<D)(h:OkN D n e q):0<=q:=by
 obtain⟨z,rfl,_⟩:=h;exact Rat.divInt_nonneg ?A (yQ (Xf hD))
theorem OkN.sz(hD:0<D)(hb:D<2 ^ b)(h:OkD D e q):Sz (2*e*b+1) q:=by
 obtain⟨z,rfl,hz⟩:=h;rw[Q7] at hz;have h1:D ^ (2*e)<=2 ^ (b*(2*e)):=by have:=Nat.pow_le_pow_left (Qk hb) (2*e);rwa [←Nat.pow_mul] at this
 have h2:D ^ e<=D ^ (2*e):=YD hD ?A;have h3:2 ^ (2*e*b+1)=2 ^ (b*(2*e))+2 ^ (b*(2*e)):=by rw[QW,jP (2*e) b];lia
 have h4:0<2 ^ (b*(2*e)):=Nat.pow_pos ?B;refine zh (Xf hD) ?_ ?_
 .rw[Qh];lia
 .rw[Qh];lia
theorem OkN.more (h:OkN D n e q)(l:n<=m):OkN D m e q:=by
 obtain⟨z,e1,e2⟩:=h;exact⟨z,e1,yz e2 (qq _ l)⟩
theorem OkN.up (hD:0<D)(h:OkN D n e q)(l:n<=D):OkD D (e+1) q:=by
 obtain⟨z,e1,e2⟩:=h;refine⟨z*D,?_,?_⟩
 .rw[e1,QW,jI,jI,Ur ?A]
 .rw[Q7,show 2*(e+1)=2*e+1+1 by lia,QW,QW];have:=qq D (yz e2 (qq (D ^ (2*e)) l));rw[jP D (D ^ (2*e))] at this;exact this
theorem OkD.mono (hD:0<D)(h:OkD D e q)(l:e<=f):OkD D f q:=by
 induction f with
 |zero=>rw[Jq.mp l] at h;exact h
 |succ f ih=>
  rcases Ql e (f+1) with h1|h1
  .exact OkN.up hD (ih ?A) hD
  .rw[show f+1=e by lia];exact h
theorem XI:OkN D n e 0:=⟨0,by simp,Y0 _⟩
theorem Dn:OkD D 0 1:=⟨1,by simp;decide,by simp⟩
theorem OkN.mul (hD:0<D)(h:OkN D n e p)(g:OkN D m f q):OkN D (n*m) (e+f) (p*q):=by
 obtain⟨z,e1,e2⟩:=h;obtain⟨y,f1,f2⟩:=g;refine⟨z*y,?_,?_⟩
 .rw[e1,f1,Rat.divInt_mul_divInt,Nat.pow_add];push_cast;rfl
 .have:=qa e2 f2;rw[show n*D ^ (2*e)*(m*D ^ (2*f))=n*m*(D ^ (2*e)*D ^ (2*f)) by grind,←Nat.pow_add,←Nat.mul_add] at this;exact this
theorem OkD.mul (hD:0<D)(h:OkD D e p)(g:OkD D f q):OkD D (e+f) (p*q):=OkN.mul hD h g
theorem OkN.add (hD:0<D)(h:OkN D n e p)(g:OkN D m e q):OkN D (n+m) e (p+q):=by
 obtain⟨z,e1,e2⟩:=h;obtain⟨y,f1,f2⟩:=g;refine⟨z+y,?_,?_⟩
 .have:=Xf (D:=D) (e:=e) hD;rw[e1,f1,jr _ _ ?A ?A,←Int.add_mul,Ur this];push_cast;rfl
 .rw[Qe];lia
theorem gt (hD:0<D):∀ {ps:List (Rat×Rat)},(∀ p∈ps,OkD D e (p.1*p.2))->OkN D ps.length e (Zl ps):=by
 intro ps;have go:∀ (ps:List (Rat×Rat)) (a:Rat) (n:Nat),OkN D n e a->(∀ p∈ps,OkD D e (p.1*p.2))->OkN D (n+ps.length) e (ps.foldl (fun a p=>a+p.1*p.2) a):=by
  intro ps
  induction ps with
  |nil=>intro a n h _;exact h
  |cons p ps ih=>
   intro a n h hp;rw[Yi,yi,show n+(ps.length+1)=(n+1)+ps.length by lia];exact ih _ _ (h.add hD (hp p (by simp))) fun x hx=>hp x ?As
 intro h;have:=go ps 0 0 XI h;rw[qK] at this;exact this
end
abbrev BK:=List Str×Nat×Nat
abbrev Kw:=List (BK×Rat)
def kB (p:BK):?BB:=[.inr (p.1.map Sum.inr),.inl (.inl (p.2.1:Int)),.inl (.inl (p.2.2:Int))]
theorem wF:∀ {a b:List Str},a.map (Sum.inr (α:=Int))=b.map Sum.inr->a=b
 |[],[],_=>rfl
 |[],_::_,h=>by simp at h
 |_::_,[],h=>by simp at h
 |x::a,y::b,h=>by
  rw[yD,yD,List.cons.injEq] at h;rw[Sum.inr.inj h.1,wF h.2]
theorem cG(h:kB x=kB y):x=y:=by
 obtain⟨a,b,c⟩:=x;obtain⟨d,e,f⟩:=y;unfold kB at h;simp only[List.cons.injEq,Sum.inr.injEq,Sum.inl.injEq,and_true,Int.ofNat_inj] at h;rw[wF h.1,h.2.1,h.2.2]
def kwV (kw:Kw):?zX:=kw.map fun p=>(kB p.1,sh p.2)
def kO (kw:Kw)(k:BK):Option Rat:=(kw.find? fun p=>?wP).map ?zC
def Xu (kw:Kw)(k:BK)(v:Rat):Kw:=if (kO kw k).isSome=true then kw.map fun p=>if p.1=k then (p.1,v) else p else kw++[(k,v)]
theorem Uv:∀ {kw:Kw},atD (kwV kw) (kB k)=(kO kw k).map sh
 |[]=>rfl
 |p::kw=>by
  have ih:=Uv (k:=k) (kw:=kw);unfold atD kO kwV at ih ⊢;rw[yD,y3,y3];by_cases e:p.1=k
  .rw[yK e,yK (show kB p.1=kB k by rw[e])];rfl
  .rw[yu e,yu (show ¬ kB p.1=kB k from fun z=>e (cG z))];exact ih
theorem CZ {v:Rat}:xr (kwV kw) (kB k) (sh v)=kwV (Xu kw k v):=by
 unfold xr Xu;rw[Uv];cases q:kO kw k with
 |none=>
  simp[kwV]
 |some u=>
  simp only[Option.map_some,Js,if_true];unfold kwV;rw[qd,qd];refine jl fun p _=>?_;show(if kB p.1=kB k then (kB p.1,sh v) else (kB p.1,sh p.2))=(kB (?jY).1,sh (?jY).2)
  by_cases e:p.1=k
  .rw[yc (by rw[e]),yc e]
  .rw[yd (fun z=>e (cG z)),yd e]
theorem Bj {v:Rat}:∀ {kw:Kw},kO (Xu kw k v) k=some v:=by
 intro kw;unfold Xu;cases q:kO kw k with
 |none=>
  simp only[Option.isSome_none,Y3,if_false];unfold kO at q ⊢;rw[List.find?_append];have:kw.find? (fun p=>?wP)=none:=by simpa using q
  rw[this];simp
 |some u=>
  simp only[Js,if_true];have go:∀ {kw:Kw} {u:Rat},kO kw k=some u->kO (kw.map fun p=>?jY) k=some v:=by
   intro kw
   induction kw with
   |nil=>intro u h;simp[kO] at h
   |cons p kw ih=>
    intro u h;unfold kO at h ⊢;rw[yD,y3];rw[y3] at h;by_cases e:p.1=k
    .rw[yc e,yK e];rfl
    .rw[yd e,yu e];rw[yu e] at h;exact ih h
  exact go q
theorem fJ {v:Rat}{p:BK×Rat}(h:p∈Xu kw k v):p=(k,v)∨p∈kw:=by
 unfold Xu at h;split at h
 .obtain⟨q,hq,e⟩:=yA.mp h;split at e
  .rename_i e2;exact .inl (by rw[←e,e2])
  .exact .inr (e▸hq)
 .rcases Yw.mp h with z|z
  .exact ?BR
  .exact ?Fp
theorem Be {v:Rat}:(Xu kw k v).length<=kw.length+1:=by
 unfold Xu;split
 .rw[yf];lia
 .rw[yI];exact yg _
theorem dU {v:Rat}(h:kO kw k=some v):(k,v)∈kw:=by
 unfold kO at h;obtain⟨p,h1,h2⟩:=Yt.mp h;have a:=jB h1;have b:=List.find?_some h1;have b:p.1=k:=by simpa using b
 rw[←b,←h2];exact a
theorem E4:kD (kB (b,i,j))=.tup [y9 b,.int (i:Int),.int (j:Int)]:=by
 unfold kD kB;simp only[yD,Q6,k2D,KU,qd];rfl
abbrev Ac:=List (Rat×Rat)×Kw
def QQ (wo:?N)(f:Nat->Kw->Rat×Kw)(i:Nat)(acc:Ac)(t:Nat):Ac:=if wo ?E=0 then acc else (acc.1++[(wo ?E,(?jM).1)],(?jM).2)
def nP (n i j:Nat):Nat:=(j+1) - (n+i)
def wBm (hs row:?A1)(kn:Kn):List Str->Nat->Nat->Kw->Rat×Kw
  |[],_,_,kw=>(0,kw)
  |[x],i,j,kw=>(?Et,kw)
  |x::y::rest,i,j,kw=>
    match kO kw ?zJ with
    |some v=>(v,kw)
    |none=>
      (Zl ((?CQ).foldl ?yE ([],kw)).1,
       Xu ((?CQ).foldl ?yE ([],kw)).2 ?zJ (Zl ((?CQ).foldl ?yE ([],kw)).1))
def KnD (D:Nat)(kn:Kn):Prop:=∀ p∈kn.1.zip kn.2,OkD D (9*(p.1.2.2 - p.1.2.1) - 5) p.2
def KwD (D:Nat)(kw:Kw):Prop:=∀ p∈kw,OkD D (9*(p.1.2.2 - p.1.2.1) - 9) p.2
theorem GS {κ α:Type}[DecidableEq κ]{k:κ}{v:α}{ks:?Ax}{xs:?B4}(h:vA ks xs k=some v):(k,v)∈ks.zip xs:=by
 unfold vA at h;obtain⟨p,h1,h2⟩:=Yt.mp h;have b:=List.find?_some h1;have b:p.1=k:=by simpa using b
 rw[←b,←h2];exact jB h1
section
variable {D:Nat}{hs row:?A1}{kn:Kn}{kw:Kw}
theorem Ci (hD:0<D)(h:KnD D kn){x:Str}{i j:Nat}:OkD D (9*?I - 5) (vK kn x i j):=by
 unfold vK;cases q:vA kn.1 kn.2 (x,i,j) with
 |none=>exact XI
 |some v=>exact h _ (GS q)
theorem Fm (hD:0<D)(h:KnD D kn):OkD D (9*?I - 5) ?Et:=by
 unfold woS;split
 .exact Ci hD h
 .split
  .exact OkD.mono hD Dn (Y0 _)
  .exact XI
theorem Ix (hD:0<D)(hx:x∉hs):OkD D e ?Et:=by
 unfold woS;rw[yd hx];split
 .exact OkD.mono hD Dn (Y0 _)
 .exact XI
structure AcOk (D e n m:Nat)(acc:Ac):Prop where
 len:acc.1.length<=n
 prs:∀ p∈acc.1,OkD D e (p.1*p.2)/\OkD D (e+5) p.1/\OkD D (e+5) p.2
 kw:KwD D acc.2
 kl:acc.2.length<=m
theorem KwD.put {v:Rat}(h:KwD D kw)(hv:OkD D (9*(k.2.2 - k.2.1) - 9) v):KwD D (Xu kw k v):=fun p hp=>by
 rcases fJ hp with z|z
 .subst z;exact hv
 .exact h p z
def WB (D:Nat)(hs row:?A1)(kn:Kn)(b:?A1):Prop:=∀ i j kw,i<j->j - i<=10->KwD D kw->OkD D (9*?I - 5) (?Dm).1/\(2<=b.length->OkD D (9*?I - 9) (?Dm).1)/\KwD D (?Dm).2/\(?Dm).2.length<=kw.length+11 ^ b.length
theorem nu (hD:0<D)(hk:KnD D kn)(ih:WB D hs row kn ?K)(hij:j - i<=10)(hw:KwD D kw):∀ t,t<=nP ?qL i j->
  AcOk D (9*?I - 10) t (kw.length+t*11 ^ (rest.length+1)) ((?CX).foldl ?yE ([],kw))
 |0,_=>⟨yg _,(fun p hp=>by cases hp),hw,by simp⟩
 |t+1,ht=>by
  have a:=nu hD hk (x:=x) (y:=y) (rest:=rest) (i:=i) (j:=j) ih hij hw t ?A;rw[YC,yY];generalize (?CX).foldl ?yE ([],kw)=acc at *;have hn:i+1+t+1<=j:=by unfold nP at ht;lia
  obtain⟨w1,w2,w3,w4⟩:=ih ?E j acc.2 ?A ?A a.kw;have wx:=Fm (hs:=hs) (row:=row) (x:=x) (i:=i) (j:=?E) hD hk;rw[Yi,qH];unfold QQ;split
  .exact⟨?MC,a.prs,a.kw,yz a.kl (by rw[Qe];lia)⟩
  .refine⟨by rw[yI];exact je a.len,fun p hp=>?_,w3,?_⟩
   .rcases Yw.mp hp with z|z
    .exact a.prs p z
    .rw[yE.mp z];exact⟨(wx.mul hD w1).mono hD ?A,wx.mono hD ?A,w1.mono hD ?A⟩
   .have:=a.kl;rw[yi] at w4;rw[Qe,Q7];show(wBm hs row kn ?K ?E j acc.2).2.length<=_;lia
theorem ez (hD:32<=D)(hk:KnD D kn):∀ b:List Str,b≠[]->WB D hs row kn b
 |[],h=>absurd rfl h
 |[x],_=>fun i j kw hi hj hw=>by
  rw[wBm];exact⟨Fm ?A hk,fun h=>by simp at h,hw,by simp⟩
 |x::y::rest,_=>fun i j kw hi hj hw=>by
  have ih:=ez hD hk ?K (by simp);have hD0:0<D:=by lia
  rw[wBm];cases q:kO kw ?zJ with
  |some v=>
   have:=hw _ (dU q);exact⟨OkD.mono hD0 this (by simp only;lia),fun _=>this,hw,by simp⟩
  |none=>
   have a:=nu hD0 hk (x:=x) (y:=y) (rest:=rest) (i:=i) (j:=j) ih hj hw _ ?AC;have np:nP (rest.length+2) i j<=9:=by unfold nP;lia
   dsimp only;generalize (?CQ).foldl ?yE ([],kw)=acc at *;have v:OkD D (9*(j - i) - 9) (Zl acc.1):=by
    by_cases h2:2<=j - i
    .have:=OkN.up hD0 (gt hD0 fun p hp=>(a.prs p hp).1) (by have:=a.len;lia);exact OkD.mono hD0 this ?A
    .have z:nP (rest.length+2) i j=0:=by unfold nP;lia
     have:acc.1=[]:=qr.mp (by have:=a.len;lia);rw[this];exact XI
   refine⟨OkD.mono hD0 v ?A,fun _=>v,a.kw.put v,yz Be ?_⟩;have h1:=a.kl;have h2:nP (rest.length+2) i j*11 ^ (rest.length+1)<=9*11 ^ (rest.length+1):=qq _ np;have h3:0<11 ^ (rest.length+1):=Nat.pow_pos ?B;rw[show(x::y::rest).length=(rest.length+1)+1 from rfl,QW];lia
end
theorem Ja {τ:Type}{om:τ->Om}{C:τ->List D->τ->D->Prop}{P:?AA}{w:?A9}{K:?A0}{mg:?J}{base:Heap}{m q:Str}{st:Stmt}{N ps:?A1}{k n:Nat}{Cc:Addr}(d:?JT)(S:?BW)(hn:?qQ)(hm:∀ t ds t' d,C t ds t' d->(om t').map ?C=(om t).map ?C)
  (body:∀ (f:Addr) (cdv:Value) (A:Around) (outer:List Env) (s:Shared) (H:Hp) (E:XK),Room k ?Dj->∀ (t:τ) (ds:List D) (t':τ) (r:D),C t ds t' r->∀ B:Bs,
   W3 ?DD B ?Ar ?D6 (om t) ⟨fun _ Ω=>r=.non/\∀ p∈om t',p∈Ω,fun r' Ω=>r'=r/\∀ p∈om t',p∈Ω,fun _ _=>?AB,fun _ _=>?AB⟩):OkM P w K mg base CX0 (k+1) Cc m ps (spS K n om C):=
 d.ok S (fun vs H Q E h=>(spS.len h).trans hn.symm) fun f cdv A outer s H vs Q E hr h=>⟨_,Qb,by
  obtain⟨t,ds,t',r,F,hC,hl,fh,il,nd,own,q⟩:=h;have S0:Sat K (⟨(om t).map (fun p:Addr×Ow=>p.1),F,H⟩:Bs) (jD N ds) (om t) F (L2.start N vs) H:=
   ⟨?AH,fh,fun _ q=>?Ck,fun _ _ _ e=>e,nd,fun p hp=>.inl (yA.mpr ⟨p,hp,rfl⟩),own,Sl.start il⟩
  have fin:∀ {Ω':Om} {F' H':Hp} {σ':L2.St} {Γ':Ga} {v:V},(∀ p∈om t',p∈Ω')->Sat K (⟨(om t).map (fun p:Addr×Ow=>p.1),F,H⟩:Bs) Γ' Ω' F' σ' H'->Is K F' r v->Q v H':=by
   intro Ω' F' H' σ' Γ' v e S' iv;refine q v H' F' S'.f0 S'.fh (fun b o hb e=>S'.kp b o hb e) ?jO (fun p hp=>S'.own p (e p hp)) iv;rcases S'.fr b hb with z|z|z
   .exact ?Ap
   .exact ?BR
   .have z':b∈(om t).map ?C:=z;rw[←hm _ _ _ _ hC] at z';obtain⟨p,hp,rfl⟩:=yA.mp z';exact absurd (S'.own p (e p hp)).1 hb
  refine Qa (D:=E3.to K (⟨(om t).map (fun p:Addr×Ow=>p.1),F,H⟩:Bs) F ⟨fun _ Ω=>r=.non/\∀ p∈om t',p∈Ω,fun r' Ω=>r'=r/\∀ p∈om t',p∈Ω,fun _ _=>?AB,fun _ _=>?AB⟩) (D':={nx:=fun _ H'=>?Ay,rt:=Q}) ?_ ?_ ?_ ?_ (body f cdv A outer s H E hr t ds t' r hC (⟨(om t).map (fun p:Addr×Ow=>p.1),F,H⟩:Bs) F _ H S0)
  .rintro σ' H' ⟨Γ',Ω',F',S',f',e1,e2⟩;exact fin e2 S' (by rw[e1];exact BJ F')
  .rintro v H' ⟨d',Ω',F',⟨σ',S'⟩,f',i',e1,e2⟩;subst e1;exact fin e2 S' i'
  .rintro σ' H' ⟨_,_,_,_,_,z⟩;exact ?AQ
  .rintro σ' H' ⟨_,_,_,_,_,z⟩;exact ?AQ⟩
theorem HM:vt (d::ds) (some 1) none=ds:=by
 unfold vt;simp[HT.sIx]
structure GSt where
 a:Addr
 b:Addr
 c:Addr
 g:D
 row:List Str
 hs:List Str
 br:List yw
 L:List Str
 ch:Nat->Nat->Rat
 kn:Kn
 kw:Kw
def omG (P:?AA)(w:?A9)(K:?A0)(Cs:Addr)(t:GSt):Om:=[(t.a,JW K Cs sF [t.g,y9 t.row,.lst ?FN,.lst (yL t.br),chD t.L t.ch,.raw (.ref t.b),.raw (.ref t.c)]),(t.b,?LS),(t.c,?M8)]
structure GsOk (t:GSt)(D b:Nat):Prop where
 d:32<=D
 db:D<2 ^ b
 bl:b<=16500
 rl:t.row.length<=5
 kn:KnD D t.kn
 kw:KwD D t.kw
theorem GsOk.sz {D b e:Nat}{q:Rat}(g:GsOk t D b)(h:OkD D e q)(he:e<=50):0<=q/\Sz 1650001 q:=by
 have d:=g.d;refine⟨h.nn ?A,(h.sz ?A g.db).mono ?_⟩;have:2*e*b<=100*16500:=qa ?A g.bl;lia
def ZQ (t:GSt)(x y:Str)(rest:?A1)(i j n:Nat):Ac:=(?BU).foldl (QQ (fun m=>?MG) (fun m=>?Lh) i) ([],t.kw)
def ID (n:Nat):?kZ:=fun t ds t' d=>∃ (x y:Str) (rest:List Str) (i j D b:Nat),ds=[.raw ?DV,y9 ?Z,.int (i:Int),.int (j:Int)]/\t'={t with kw:=(?FX).2}/\d=sh (Zl (?FX).1)/\rest.length+2<=n/\n<=4/\i<j/\j<=t.row.length/\GsOk t D b/\t.kw.length+n*20000<=16000000
def C2 (n:Nat):?kZ:=fun t ds t' d=>∃ (body:List Str) (i j D b:Nat),ds=[.raw ?DV,y9 body,.int (i:Int),.int (j:Int)]/\t'={t with kw:=(?L4).2}/\d=sh (?L4).1/\1<=body.length/\body.length<=n/\n<=4/\i<j/\j<=t.row.length/\GsOk t D b/\t.kw.length+n*20000<=16000000
theorem IC {P:?AA}{w:?A9}{K:?A0}{Cs:Addr}{n:Nat}:∀ t ds t' d,ID n t ds t' d->(?H5).map ?C=(?Fm).map ?C:=fun t ds t' d ⟨_,_,_,_,_,_,_,_,e,_⟩=>by subst e;rfl
theorem E8 {P:?AA}{w:?A9}{K:?A0}{Cs:Addr}{n:Nat}:∀ t ds t' d,C2 n t ds t' d->(?H5).map ?C=(?Fm).map ?C:=fun t ds t' d ⟨_,_,_,_,_,_,e,_⟩=>by subst e;rfl
theorem bX {P:?AA}{w:?A9}{K:?A0}{Cs:Addr}{t:GSt}{L:Bool}:fY L ?Fm:=jE kH (jE lP (jE gm kI))
theorem Vt:("sum_of_partings" : Str)∉sF:=by decide +kernel
theorem oF(h:n<=9):Hm n 1650001<=big:=by
 show n*6600006+2<=67108864;lia
theorem mT:1650001<=10000000:=by decide
theorem si {P:?AA}{w:?A9}{K:?A0}{Cs:Addr}{t:GSt}:(omG P w K Cs t++[]).Perm ((t.c,?M8)::[(t.a,JW K Cs sF [t.g,y9 t.row,.lst ?FN,.lst (yL t.br),chD t.L t.ch,.raw (.ref t.b),.raw (.ref t.c)]),(t.b,?LS)]):=qI (l₁:=[_,_]) (l₂:=[_])
def QP (hs row:?A1)(kn:Kn)(i j:Nat)(acc:En×Kw)(r:yw):En×Kw:=
 if (?kS).1=0 then (acc.1,(?kS).2)
 else ((pK acc.1.1 r.1,pA acc.1.1 acc.1.2 r.1 ((vA acc.1.1 acc.1.2 r.1).getD 0+r.2.2*(?kS).1)),(?kS).2)
def Zt (hs row:?A1)(kn:Kn)(br:?A4)(i j:Nat)(kw:Kw):En×Kw:=br.foldl ?DL ?zZ
structure BrG (M:Nat)(hs L:?A1)(br:?A4):Prop where
 len:br.length<=30
 hd:∀ r∈br,r.1∈L
 body:∀ r∈br,1<=r.2.1.length/\r.2.1.length<=4/\∀ x,r.2.1=[x]->x∉hs
 sz:∀ r∈br,OkD M 1 r.2.2
structure EnG (M e n m:Nat)(L:?A1)(a:En×Kw):Prop where
 len:a.1.1.length<=n
 nd:a.1.1.Nodup
 eq:a.1.1.length=a.1.2.length
 keys:∀ x∈a.1.1,x∈L
 vals:∀ q∈a.1.2,OkN M n e q
 kw:KwD M a.2
 kl:a.2.length<=m
theorem fA {κ:Type}[DecidableEq κ]{k:κ}{ks:?Ax}(h:ks.Nodup):(?Da).Nodup:=by
 unfold pK;split
 .exact h
 .rename_i hk;rw[Yr];exact⟨h,by simp,fun a ha b hb e=>hk (by rw[yE.mp hb] at e;exact e▸ha)⟩
theorem cu [DecidableEq α]:∀ {xs ys:List α},xs.Nodup->(∀ x∈xs,x∈ys)->xs.length<=ys.length
 |[],_,_,_=>Y0 _
 |x::xs,ys,h,hs=>by
  have hx:=hs x (by simp);have:=cu (xs:=xs) (ys:=ys.erase x) (yR.mp h).2 fun z hz=>(List.mem_erase_of_ne (a:=z) (b:=x) (fun e=>by subst e;exact(yR.mp h).1 hz)).mpr (hs z (ye _ hz));rw[List.length_erase_of_mem hx] at this;have:0<ys.length:=List.length_pos_of_mem hx;rw[yi];lia
section
variable {M:Nat}{hs row L:?A1}{kn:Kn}{br:?A4}{i j:Nat}{kw:Kw}
theorem II (hM:32<=M)(hk:KnD M kn)(hij:i<j)(hj:j - i<=10)(hw:KwD M kw)(h1:1<=b.length)(hx:∀ x,b=[x]->x∉hs):OkD M (9*?I - 9) (?Dm).1:=by
 obtain⟨_,w2,_,_⟩:=ez (hs:=hs) (row:=row) hM hk b (by intro z;rw[z] at h1;simp at h1) i j kw hij hj hw;by_cases h:2<=b.length
 .exact w2 h
 .obtain⟨x,rfl⟩:∃ x,b=[x]:=QA.mp ?A;rw[wBm];exact Ix ?A (hx x rfl)
theorem b8 (hM:0<M){e n:Nat}{a:En}(h:∀ q∈a.2,OkN M n e q){x:Str}:OkN M n e ((vA a.1 a.2 x).getD 0):=by
 cases q:vA a.1 a.2 x with
 |none=>exact XI
 |some v=>exact h v (bM q)
theorem uB (hM:32<=M)(hk:KnD M kn)(hb:BrG M hs L br)(hij:i<j)(hj:j - i<=10)(hw:KwD M kw):∀ n,n<=br.length->EnG M (9*(j - i) - 8) n (kw.length+n*20000) L ((br.take n).foldl (QP hs row kn i j) (([],[]),kw))
 |0,_=>⟨yg _,Qw,rfl,(fun x hx=>by cases hx),(fun q hq=>by cases hq),hw,by simp⟩
 |n+1,hn=>by
  have hr:br[n]?=some br[n]:=yj (by lia);have a:=uB hM hk hb hij hj hw n (by lia);rw[Yl hr,yY];generalize (br.take n).foldl (QP hs row kn i j) (([],[]),kw)=acc at *;have hm:=yr hr;generalize br[n]=r at *;obtain⟨b1,b2,b3⟩:=hb.body r hm;have w9:=II (hs:=hs) (row:=row) hM hk hij hj a.kw b1 b3;obtain⟨_,_,w3,w4⟩:=ez (hs:=hs) (row:=row) hM hk r.2.1 (by intro z;rw[z] at b1;simp at b1) i j acc.2 hij hj a.kw;have h11:11 ^ r.2.1.length<=11 ^ 4:=YD (by decide) b2;have kl:=a.kl;rw[Yi,qH];unfold QP;split
  .exact⟨Nat.le_succ_of_le a.len,a.nd,a.eq,a.keys,fun q hq=>(a.vals q hq).more (by lia),w3,by dsimp only;lia⟩
  .refine⟨yz bv (je a.len),fA a.nd,V1 a.eq,fun x hx=>?_,fun q hq=>?_,w3,by dsimp only;lia⟩
   .rcases B1 hx with z|z
    .rw[z];exact hb.hd r hm
    .exact a.keys x z
   .rcases Ft hq with z|z
    .rw[z];have t:=OkD.mul (by lia) (hb.sz r hm) w9;exact OkN.add (by lia) (b8 (by lia) a.vals) (OkD.mono (by lia) t (by lia))
    .exact(a.vals q z).more (by lia)
def ChD (M:Nat)(L:?A1)(ch:?H):Prop:=∀ i j,i<L.length->j<L.length->OkD M 1 (ch i j)
theorem Bh (hM:32<=M){ch:?H}{e n m:Nat}{a:En×Kw}{h:Str}(c:ChD M L ch)(he:?JR)(hn:n<=30)(hh:h∈L):∀ p∈UG L ch a.1 h,OkD M (e+2) (p.1*p.2)/\OkD M 1 p.1/\OkD M (e+1) p.2:=fun p hp=>by
 obtain⟨o,ho,rfl⟩:=yA.mp hp;have a1:=c _ _ (Y6.mpr hh) (Y6.mpr (he.keys o ho));have a2:=OkN.up ?A (b8 ?A he.vals (x:=o)) ?A;exact⟨OkD.mono ?A (OkD.mul ?A a1 a2) ?A,a1,a2⟩
theorem Lz (hM:32<=M){ch:?H}(c:ChD M L ch)(he:?JR)(hn:n<=30)(hh:h∈L):OkD M (e+3) (ug L ch a.1 h):=by
 have:=OkN.up ?A (gt ?A fun p hp=>(Bh hM c he hn hh p hp).1) (by rw[WX];have:=he.len;lia);exact this
end
abbrev KS:=Kn×Kw
def vy (hs row L:?A1)(br:?A4)(ch:?H)(k:KS)(p:Nat×Nat):KS:=(L.foldl (QD L ch (?vA).1 p.1 p.2) k.1,(?vA).2)
theorem GG [DecidableEq κ]:∀ {ks:List κ} {xs:List α},ks.length=xs.length->p∈(?Da).zip ?Ep->p=(k,v)∨p∈ks.zip xs:=by
 intro ks xs hl h;unfold pK pA at h;by_cases hk:k∈ks
 .rw[yc hk,yc hk,←zip_map hl] at h;obtain⟨q,hq,e⟩:=yA.mp h;split at e
  .rename_i e2;exact .inl (by rw[←e,e2])
  .exact .inr (e▸hq)
 .rw[yd hk,yd hk,←UY hl] at h;rcases Yw.mp h with z|z
  .exact ?BR
  .exact ?Fp
structure KnG (M m:Nat)(kn:Kn):Prop where
 d:KnD M kn
 eq:kn.1.length=kn.2.length
 len:kn.1.length<=m
theorem KnG.put {t:Rat}(k:KnG M m kn)(ht:OkD M (9*?I - 5) t):KnG M (m+1) ?HI:=by
 refine⟨fun p hp=>?_,V1 k.eq,yz bv (je k.len)⟩;rcases GG k.eq hp with z|z
 .subst z;exact ht
 .exact k.d p z
theorem eT {ch:?H}:∀ {hs:List Str} {m:Nat} {kn:Kn},KnG M m kn->(∀ h∈hs,OkD M (9*?I - 5) (ug L ch e h))->KnG M (m+hs.length) (hs.foldl ?Ej kn)
 |[],m,kn,k,_=>k
 |h::hs,m,kn,k,ht=>by
  rw[Yi,yi,show m+?yS=(m+1)+hs.length by lia];refine eT ?_ fun x hx=>ht x ?As;unfold QD;split
  .exact⟨k.d,k.eq,by have:=k.len;lia⟩
  .exact k.put (ht h (by simp))
structure GPar (M b:Nat)(hs row L:?A1)(br:?A4)(ch:?H):Prop where
 d:32<=M
 db:M<2 ^ b
 bl:b<=16500
 rl:row.length<=5
 br:BrG M hs L br
 ch:ChD M L ch
 nd:L.Nodup
 ll:L.length<=9
def fX (M m:Nat)(k:KS):Prop:=KnG M (m*30) k.1/\KwD M k.2/\k.2.length<=m*600000
theorem fX.settle {ch:?H}(g:?IR)(h:fX M m k)(hp:p.1<p.2/\p.2<=row.length):fX M (m+1) (vy hs row L br ch k p):=by
 obtain⟨h1,h2,h3⟩:=h;have rl:=g.rl;have bl:=g.br.len;have ll:=g.ll;have eo:=uB (row:=row) g.d h1.d g.br hp.1 ?A h2 br.length ?AC;rw[yM] at eo;refine⟨?_,eo.kw,?_⟩
 .have:=eT (L:=L) (ch:=ch) (e:=(?vA).1) (i:=p.1) (j:=p.2) (hs:=L) h1 fun x hx=>OkD.mono (by have:=g.d;lia) (Lz g.d g.ch eo g.br.len hx) ?A;refine⟨this.d,this.eq,?_⟩;have:=this.len;show(L.foldl (QD L ch (?vA).1 p.1 p.2) k.1).1.length<=_;lia
 .have:=eo.kl;show(?vA).2.length<=_;unfold Zt;lia
theorem fX.gs {ch:?H}(g:?IR)(h:fX M m k):GsOk ⟨a,b',c,gd,row,hs,br,L,ch,k.1,k.2⟩ M b:=⟨g.d,g.db,g.bl,g.rl,h.1.d,h.2.1⟩
theorem DW {ch:?H}(g:?IR)(h:?JR):a.1.1.length<=9:=yz (cu h.nd h.keys) g.ll
def Iv:?kZ:=fun t ds t' d=>∃ (i j M b m:Nat),ds=[.raw ?DV,.int (i:Int),.int (j:Int)]/\t'={t with kw:=(?LB).2}/\d=enD (?LB).1/\i<j/\j<=t.row.length/\GPar M b t.hs t.row t.L t.br t.ch/\fX M m (t.kn,t.kw)/\m<=20
def HZ:?kZ:=fun t ds t' d=>∃ (i j M b m:Nat),ds=[.raw ?DV,.int (i:Int),.int (j:Int)]/\t'={t with kn:=(vy t.hs t.row t.L t.br t.ch (t.kn,t.kw) (i,j)).1,kw:=(vy t.hs t.row t.L t.br t.ch (t.kn,t.kw) (i,j)).2}/\d=.non/\i<j/\j<=t.row.length/\GPar M b t.hs t.row t.L t.br t.ch/\fX M m (t.kn,t.kw)/\m<=20
theorem HK {P:?AA}{w:?A9}{K:?A0}{Cs:Addr}:∀ t ds t' d,Iv t ds t' d->(?H5).map ?C=(?Fm).map ?C:=fun t ds t' d ⟨_,_,_,_,_,_,e,_⟩=>by subst e;rfl
theorem IB {P:?AA}{w:?A9}{K:?A0}{Cs:Addr}:∀ t ds t' d,HZ t ds t' d->(?H5).map ?C=(?Fm).map ?C:=fun t ds t' d ⟨_,_,_,_,_,_,e,_⟩=>by subst e;rfl
section
theorem sv (h:V3 X B e Γ Ω fun d Ω1=>∃ ds,d=.lst ds/\RL ds Ω1):IV3 X B tg e Γ Ω RL:=fun F σ H S pins s I=>
 l7 j6 pins s σ H _ I ((?AV).mono fun v H1 ⟨d,Ω1,F1,S1,f1,i1,ds,ed,r⟩=>by
  subst ed;obtain⟨l,xs,rfl,s1,j1⟩:=zy i1;refine⟨l,rfl,⟨xs,S1.fh.seq s1⟩,ds,Ω1,F1,S1,f1,fun n F2 H2 e1 e2=>⟨fun d w=>?_,fun w=>⟨xs,?jL,by rw[j1.len];exact w⟩⟩,r⟩;obtain⟨x,hx,ix⟩:=j1.get w;refine⟨⟨xs,x,?jL,hx⟩,fun y H3 ⟨z,w'⟩=>?_⟩;subst z;have:=w' xs ?jL;rw[hx] at this;cases this;exact ?I6)
end
theorem xv:∀ {a b:List Str},a.map D.str=b.map D.str->a=b
 |[],[],_=>rfl
 |[],_::_,h=>by simp at h
 |_::_,[],h=>by simp at h
 |x::a,y::b,h=>by
  rw[yD,yD,List.cons.injEq] at h;rw[D.str.inj h.1,xv h.2]
theorem Uz(h:y9 a=y9 b):a=b:=xv (D.tup.inj h)
theorem ra(h:zo r=zo q):r=q:=by
 obtain⟨a,b,c⟩:=r;obtain⟨d,e,f⟩:=q;unfold zo at h;simp only[D.tup.injEq,List.cons.injEq,D.str.injEq,and_true] at h;rw[h.1,Uz h.2.1,sJ h.2.2]
theorem xB:∀ {a b:List yw},yL a=yL b->a=b
 |[],[],_=>rfl
 |[],_::_,h=>by simp[yL] at h
 |_::_,[],h=>by simp[yL] at h
 |x::a,y::b,h=>by
  unfold yL at h;rw[yD,yD,List.cons.injEq] at h;rw[ra h.1,xB (a:=a) (b:=b) h.2]
theorem sx {st st':Str}{rs rs':?A4}(h:gD C st rs=gD C st' rs'):st=st'/\rs=rs':=by
 unfold gD gDs at h;simp only[D.obj.injEq,List.cons.injEq,D.str.injEq,D.lst.injEq,true_and] at h;exact⟨h.1,xB h.2.1⟩
def zR (rs:?A4)(row:?A1)(k:Nat):KS:=((?AS).take k).foldl (vy ?A5 row ?A7 ?BG ?Bw) (([],[]),[])
def knG (rs:?A4)(row:?A1):Kn:=(zR rs row (?AS).length).1
theorem Vk(h:?qC):zR rs row (k+1)=vy ?A5 row ?A7 ?BG ?Bw ?Al (p.1,p.2):=by
 unfold zR;rw[Yl h,yY];rfl
theorem ZT(h:p∈YT n):p.1<p.2/\p.2<=n:=by
 unfold YT at h;obtain⟨l,hl,hp⟩:=Q5.mp h;obtain⟨i,hi,rfl⟩:=yA.mp hp;rw[qk] at hl hi;show i<i+l+1/\i+l+1<=n;lia
theorem uF(h:n<=5):(YT n).length<=15:=by
 rcases (show n=0∨n=1∨n=2∨n=3∨n=4∨n=5 by lia) with rfl|rfl|rfl|rfl|rfl|rfl <;> decide
structure SumG (rs:?A4)(row:?A1)(M b s:Nat):Prop where
 rl:rs.length<=30
 body:∀ r∈rs,r.2.1.length<=4
 keys:((?B5).map fun r=>?U).Nodup
 sz:∀ r∈rs,0<=r.2.2/\Sz s r.2.2
 s1:1<=s
 sk:sK s (?A7).length<=big
 piv:Piv (?A7).length (wM2 ?A7 ?B5)
 par:GPar M b ?A5 row ?A7 ?BG ?Bw
theorem KI(g:?Aj):∀ k,k<=(?AS).length->fX M k ?Al
 |0,_=>⟨⟨(fun p hp=>by cases hp),rfl,Y0 _⟩,(fun p hp=>by cases hp),Y0 _⟩
 |k+1,hk=>by
  have hp:(YT row.length)[k]?=some (YT row.length)[k]:=yj ?A;rw[Vk hp];exact(KI g k ?A).settle g.par (ZT (yr hp))
def sGs (Cg:Addr)(st:Str)(rs:?A4)(row:?A1)(c:Addr):?AD:=[gD Cg st rs,y9 row,.lst ?DC,.lst (yL ?BG),chD ?A7 ?Bw,knD (knG rs row),.raw (.ref c)]
def tJ (Cg:Addr):?zL:=fun ds=>∃ (st:Str) (rs:List yw) (row:List Str) (M b s:Nat),ds=[gD Cg st rs,y9 row]/\SumG rs row M b s
def lW (Cg:Addr):?qB:=fun ds r=>∀ (st:Str) (rs:List yw) (row:List Str),ds=[gD Cg st rs,y9 row]->∃ c,r=(sF,sGs Cg st rs row c)
theorem A5 {st:Str}{rs:?A4}{row:?A1}:lW Cg [gD Cg st rs,y9 row] (sF,sGs Cg st rs row c):=fun st' rs' row' h=>by
 simp only[List.cons.injEq,and_true] at h;obtain⟨e1,e2⟩:=sx h.1;rw[←e1,←e2,←Uz h.2];exact⟨c,rfl⟩
theorem Ef {f g:?N}(h:∀ j,j<n->f j<=g j):YV n f<=YV n g:=by
 induction n with
 |zero=>exact yJ
 |succ n ih=>rw[YV,YV];have:=ih (fun j hj=>h j ?A);have:=h n ?A;grind
theorem oM {f:?N}(h:∀ j,j<n->0<=f j):0<=YV n f:=by
 have:=Ef (f:=fun _=>0) (g:=f) (n:=n) h
 rwa [jO (f:=fun _=>0) fun _ _=>rfl] at this
theorem WG {f:?N}(h:∀ j,j<n->0<=f j)(hk:k<n):f k<=YV n f:=by
 have e:=uX (f:=f) hk;have:0<=YV n (fun j=>if j=k then 0 else f j):=oM fun j hj=>by
  split
  .exact yJ
  .exact h j hj
 grind
theorem WW {a b c:Rat}(h:a<b)(hc:0<c):a*c<b*c:=Rat.mul_lt_mul_of_pos_right h hc
theorem fo {a b c:Rat}(h:a<=b)(hc:0<=c):a*c<=b*c:=qL h hc
structure PvI (n:Nat)(v:?N)(E:?H):Prop where
 nn:∀ i j,i<n->j<n->0<=E i j
 lt:∀ i,i<n->YV n (fun j=>E i j*v j)<v i
theorem PvI.piv {v:?N}{E:?H}(hv:∀ i,i<n->0<v i)(h:PvI n v E)(hk:k<n):E k k<1:=by
 have a:=WG (f:=fun j=>E k j*v j) (fun j hj=>Rat.mul_nonneg (h.nn k j hk hj) (Yx (hv j hj))) hk;have b:=h.lt k hk;have c:E k k*v k<1*v k:=by grind
 exact Rat.lt_of_mul_lt_mul_right c (Yx (hv k hk))
theorem G9 {a b c:Rat}(hc:0<c)(h:a<b*c):a / c<b:=by
 have:a*c⁻¹<b*c*c⁻¹:=WW h (Rat.inv_pos.mpr hc);rw[Rat.mul_assoc,Rat.mul_inv_cancel _ (by grind),Rat.mul_one] at this;rw[Rat.div_def];exact this
theorem PvI.step {n k:Nat}{v:?N}{E:?H}(hv:∀ i,i<n->0<v i)(h:PvI n v E)(hk:k<n):PvI n v (zW E k):=by
 have p:=h.piv hv hk;have p1:=v9 p;have ne:1 - E k k≠0:=by grind
 have row:∀ c:Nat->Rat,YV n (fun j=>(if j=k then 0 else c j)*v j)=YV n (fun j=>c j*v j) - c k*v k:=fun c=>by
  rw[←uX (f:=fun j=>c j*v j) hk];refine qc fun j _=>?_;by_cases hj:j=k
  .rw[yc hj,yc hj];grind
  .rw[yd hj,yd hj]
 have g:YV n (fun j=>E k j / ?yM*v j)=YV n (fun j=>E k j*v j) / (1 - E k k):=by
  have:YV n (fun j=>E k j / ?yM*v j)=YV n (fun j=>(1 / ?yM)*(E k j*v j)):=qc fun j _=>by grind
  rw[this,Vc];grind
 have lk:=h.lt k hk;have q:(YV n (fun j=>E k j*v j) - E k k*v k) / (1 - E k k)<v k:=G9 p1 (by grind);have dn:∀ j,j<n->0<=E k j / ?yM:=fun j hj=>xx (h.nn k j hk hj) p1;constructor
 .intro i j hi hj;unfold zW;split
  .split
   .exact yJ
   .exact dn j hj
  .split
   .exact yJ
   .exact xX (h.nn i j hi hj) (Qo (h.nn i k hi hk) (dn j hj))
 .intro i hi;by_cases hik:i=k
  .subst hik;have e1:(fun j=>zW E i i j*v j)=fun j=>(if j=i then 0 else E i j / (1 - E i i))*v j:=by
    funext j;unfold zW;rw[yc rfl]
   rw[e1,row (fun j=>E i j / (1 - E i i)),g];grind
  .have e1:(fun j=>zW E k i j*v j)=fun j=>(if j=k then 0 else E i j+E i k*?qF)*v j:=by
    funext j;unfold zW;rw[yd hik]
   have e3:YV n (fun j=>(E i j+E i k*?qF)*v j)=YV n (fun j=>E i j*v j)+E i k*(YV n (fun j=>E k j*v j) / (1 - E k k)):=by
    rw[←g,←Vc,←Zu];exact qc fun j _=>by grind
   rw[e1,row (fun j=>E i j+E i k*?qF),e3];have li:=h.lt i hi;have m:=fo (Yx q) (h.nn i k hi hk);grind
theorem Ge {W:?H}{v:?N}(hv:∀ i,i<n->0<v i)(h:PvI n v W):Piv n W:=by
 have go:∀ k,k<=n->PvI n v (EK W k):=fun k=>by
  induction k with
  |zero=>intro _;exact h
  |succ k ih=>intro hk;exact(ih ?A).step hv ?A
 intro k hk;exact(go k ?A).piv hv hk
def pw (e:Rat):Nat->Rat
 |0=>1
 |k+1=>e*pw e k
theorem a9 {e:Rat}(h:0<e):∀ k,0<pw e k
 |0=>by show(0:Rat)<1;decide
 |k+1=>Rat.mul_pos h (a9 h k)
theorem oy {e:Rat}(h:0<e)(h1:e<1){k:Nat}:pw e (k+1)<pw e k:=by
 have:=WW h1 (a9 h k);rw[pw];grind
theorem mY {e:Rat}(h:0<e)(h1:e<1):∀ {m k:Nat},k<=m->pw e m<=pw e k
 |0,k,hk=>by rw[Jq.mp hk];exact yJ
 |m+1,k,hk=>by
  rcases Ql k (m+1) with h2|h2
  .have a:=mY h h1 (m:=m) (k:=k) ?A;have b:=oy h h1 (k:=m);grind
  .rw[show k=m+1 by lia];exact yJ
theorem Ah {n:Nat}{W:?H}{ρ:Nat->Nat}(hW:∀ i j,i<n->j<n->0<=W i j)(hs:∀ i,i<n->YV n (W i)<=1)(h:∀ i,i<n->YV n (W i)<1∨∃ j,j<n/\0<W i j/\ρ j<ρ i):Piv n W:=by
 have eps:∃ e:Rat,0<e/\e<1/\∀ i,i<n->e<1 - YV n (W i)∨∃ j,j<n/\e<W i j/\ρ j<ρ i:=by
  have go:∀ m,m<=n->∃ e:Rat,0<e/\e<1/\∀ i,i<m->e<1 - YV n (W i)∨∃ j,j<n/\e<W i j/\ρ j<ρ i:=fun m=>by
   induction m with
   |zero=>intro _;exact⟨1 / 2,?D,?D,fun i hi=>?A⟩
   |succ m ih=>
    intro hm;obtain⟨e,e0,e1,he⟩:=ih ?A;have Ee:∃ d:Rat,0<d/\(d<1 - YV n (W m)∨∃ j,j<n/\d<W m j/\ρ j<ρ m):=by
     rcases h m (by lia) with z|⟨j,hj,hp,hr⟩
     .exact⟨(1 - YV n (W m)) / 2,by grind,.inl (by grind)⟩
     .exact⟨W m j / 2,by grind,.inr ⟨j,hj,by grind,hr⟩⟩
    obtain⟨d,d0,hd⟩:=Ee;by_cases hed:e<=d
    .refine⟨e,e0,e1,fun i hi=>?_⟩;rcases Ql i m with hlt|hge
     .exact he i hlt
     .have:i=m:=by lia
      subst this;rcases hd with z|⟨j,hj,hp,hr⟩
      .exact .inl (by grind)
      .exact .inr ⟨j,hj,by grind,hr⟩
    .refine⟨d,d0,by grind,fun i hi=>?_⟩;rcases Ql i m with hlt|hge
     .rcases he i hlt with z|⟨j,hj,hp,hr⟩
      .exact .inl (by grind)
      .exact .inr ⟨j,hj,by grind,hr⟩
     .have:i=m:=by lia
      subst this;exact hd
  exact go n ?AC
 obtain⟨e,e0,e1,he⟩:=eps;have ple:∀ k,pw e (k+1)<1:=fun k=>by
  have a:=oy e0 e1 (k:=k);have b:=mY e0 e1 (m:=k) (k:=0) ?A;rw[show pw e 0=1 from rfl] at b;grind
 refine Ge (v:=fun i=>1 - pw e (ρ i+1)) (fun i hi=>by have:=ple (ρ i);grind) ⟨hW,fun i hi=>?_⟩;have split:YV n (fun j=>W i j*(1 - pw e (ρ j+1)))=YV n (W i) - YV n (fun j=>W i j*pw e (ρ j+1)):=by
  have:YV n (W i)=YV n (fun j=>W i j*(1 - pw e (ρ j+1)))+YV n (fun j=>W i j*pw e (ρ j+1)):=by
   rw[←Zu];exact qc fun j _=>by grind
  grind
 rw[split];have nn:∀ j,j<n->0<=W i j*pw e (ρ j+1):=fun j hj=>Rat.mul_nonneg (hW i j hi hj) (Yx (a9 e0 _));rcases he i hi with z|⟨j,hj,hp,hr⟩
 .have a:=oM nn;have b:pw e (ρ i+1)<=e:=by
   have:=mY e0 e1 (m:=ρ i+1) (k:=1) ?A;rw[show pw e 1=e*1 from rfl] at this;grind
  grind
 .have a:=WG nn hj;have b:=hs i hi;have c:pw e (ρ i)<=pw e (ρ j+1):=mY e0 e1 ?A;have d:=WW hp (a9 e0 (ρ i));have f:W i j*pw e (ρ i)<=W i j*pw e (ρ j+1):=by
   have:=fo c (hW i j hi hj);grind
  have g:pw e (ρ i+1)=e*pw e (ρ i):=rfl;grind
def Rk (hs:?A1)(rs:?A4):Nat->Str->Prop
 |0,_=>False
 |n+1,h=>∃ r∈rs,r.1=h/\∀ x∈r.2.1,x∈hs->Rk hs rs n x
theorem Rk.succ:∀ {n:Nat} {h:Str},Rk hs rs n h->Rk hs rs (n+1) h
 |0,_,k=>k.elim
 |n+1,h,k=>by
  obtain⟨r,hr,e,hb⟩:=k;exact⟨r,hr,e,fun x hx hh=>Rk.succ ?Ex⟩
theorem Rk.mono(k:Rk hs rs n h)(l:n<=m):Rk hs rs m h:=by
 induction m with
 |zero=>rw[Jq.mp l] at k;exact k
 |succ m ih=>
  rcases Ql n (m+1) with z|z
  .exact(ih ?A).succ
  .rw[show m+1=n by lia];exact k
theorem Rk.live:∀ {n:Nat} {h:Str},Rk hs rs n h->Live hs rs h
 |0,_,k=>k.elim
 |n+1,h,k=>by
  obtain⟨r,hr,e,hb⟩:=k;rw[←e];exact .mk r hr fun x hx hh=>Rk.live ?Ex
theorem Ce:∀ {b:List Str},(∀ x∈b,x∈hs->∃ n,Rk hs rs n x)->∃ n,∀ x∈b,x∈hs->Rk hs rs n x
 |[],_=>⟨0,fun x hx=>by cases hx⟩
 |y::b,h=>by
  obtain⟨n,hn⟩:=Ce (b:=b) fun x hx=>h x ?As;by_cases hy:y∈hs
  .obtain⟨k,hk⟩:=h y (by simp) hy;refine⟨max n k,fun x hx qx=>?_⟩;rcases yB.mp hx with z|z
   .exact z▸hk.mono (ji ..)
   .exact(hn x z qx).mono (jC ..)
  .refine⟨n,fun x hx qx=>?_⟩;rcases yB.mp hx with z|z
   .exact absurd (z▸qx) hy
   .exact hn x z qx
theorem Ie(l:Live hs rs h):∃ n,Rk hs rs n h:=by
 induction l with
 |mk r hr hb ih=>
  obtain⟨n,hn⟩:=Ce (b:=r.2.1) fun x hx hh=>ih x hx hh;exact⟨n+1,r,hr,rfl,hn⟩
theorem rW {p:Nat->Prop}(h:∃ n,p n):∃ n,p n/\∀ m,p m->n<=m:=by
 obtain⟨n,hn⟩:=h
 induction n using Nat.strongRecOn with
 |ind n ih=>
  by_cases q:∃ m,m<n/\p m
  .obtain⟨m,h1,h2⟩:=q;exact ih m h1 h2
  .exact⟨n,hn,fun m hm=>Nat.le_of_not_lt fun z=>q ⟨m,z,hm⟩⟩
open Classical in
def XO (hs:List Str)(rs:List yw)(h:Str):Nat:=if e:∃ n,Rk hs rs n h then (rW e).choose else 0
theorem oA {hs:?A1}{rs:?A4}{h:Str}(e:∃ n,Rk hs rs n h):Rk hs rs (XO hs rs h) h/\∀ m,Rk hs rs m h->XO hs rs h<=m:=by
 unfold XO;rw[dif_pos e];exact(rW e).choose_spec
theorem XW(l:Live hs rs h):∃ r∈rs,r.1=h/\∀ x∈r.2.1,x∈hs->Live hs rs x/\XO hs rs x<XO hs rs h:=by
 have k:=(oA (Ie l)).1;generalize hn:XO hs rs h=n at k;cases n with
 |zero=>exact k.elim
 |succ n=>
  obtain⟨r,hr,e,hb⟩:=k;refine⟨r,hr,e,fun x hx hh=>⟨(?Ex).live,Nat.lt_succ_of_le ((oA ⟨n,?Ex⟩).2 n ?Ex)⟩⟩
theorem jw:QN h (r::rs)=(if r.1=h then r.2.2 else 0)+QN h rs:=by
 have go:∀ (rs:List yw) (a:Rat),rs.foldl (JR h) a=a+QN h rs:=by
  intro rs
  induction rs with
  |nil=>intro a;simp[QN];grind
  |cons r rs ih=>
   intro a;unfold QN;rw[Yi,Yi,ih,ih (JR h 0 r)];unfold JR;split <;> grind
 unfold QN;rw[Yi,go];unfold JR;split
 .show 0+r.2.2+QN h rs=r.2.2+QN h rs;grind
 .rfl
theorem ZV:∀ {rs:List yw},(∀ r∈rs,0<=r.2.2)->QN h (rs.filter p)<=QN h rs
 |[],_=>yJ
 |r::rs,hn=>by
  have ih:=ZV (h:=h) (p:=p) (rs:=rs) fun x hx=>hn x ?As;have h0:=hn r (by simp);cases q:p r with
  |true=>
   rw[YE (by exact q),jw,jw];grind
  |false=>
   rw[YF ?qI,jw];split <;> grind
theorem Xa:∀ {rs:List yw},(∀ r∈rs,0<=r.2.2)->r∈rs->r.1=h->p r=false->0<r.2.2->QN h (rs.filter p)<QN h rs
 |[],_,hr,_,_,_=>by cases hr
 |x::rs,hn,hr,e,hp,h0=>by
  have hn':∀ r∈rs,0<=r.2.2:=fun y hy=>hn y (ye _ hy);have le:=ZV (h:=h) (p:=p) (rs:=rs) hn';have hx:=hn x (by simp);rcases yB.mp hr with z|z
  .subst z;rw[YF (by rw[hp];decide),jw,yc e];grind
  .have ih:=Xa (rs:=rs) hn' z e hp h0;cases q:p x with
   |true=>
    rw[YE (by exact q),jw,jw];grind
   |false=>
    rw[YF ?qI,jw];split <;> grind
theorem Z0:vw (r::ss) h o=if r.1=h/\b0 r=o then r.2.2 else vw ss h o:=by
 unfold vw vA;rw[yD,yD,yU,y3];by_cases e:r.1=h/\b0 r=o
 .rw[yc e,yK (by rw[e.1,e.2])];rfl
 .rw[yd e,yu (fun z=>e (by simpa using z))]
theorem fc(hn:(h,o)∉ss.map fun r=>?U):vw ss h o=0:=by
 induction ss with
 |nil=>rfl
 |cons r ss ih=>
  rw[Z0,yd (fun z=>hn (by rw[yD,z.1,z.2];exact yo)),ih fun z=>hn (by rw[yD];exact ?Db)]
theorem uP {c:Rat}(hk:k<n):YV n (fun j=>if j=k then c else 0)=c:=by
 have e:=uX (f:=fun j=>if j=k then c else 0) hk;rw[jO fun j _=>by by_cases h:j=k <;> simp[h]] at e;simp at e;grind
theorem fe {L:?A1}{h:Str}(nd:L.Nodup):∀ {ss:List yw},(ss.map fun r=>?U).Nodup->(∀ r∈ss,b0 r∈L)->YV L.length (fun j=>vw ss h ?zO)=QN h ss
 |[],_,_=>jO fun j _=>rfl
 |r::ss,hk,hL=>by
  rw[yD,yR] at hk;have ih:=fe nd (h:=h) (ss:=ss) hk.2 fun x hx=>hL x ?As;rw[jw,←ih];have hb:=hL r (by simp);by_cases e:r.1=h
  .rw[yc e];have hi:=Y6.mpr hb;have:YV L.length (fun j=>vw (r::ss) h ?zO)=YV L.length (fun j=>(if j=L.idxOf (b0 r) then r.2.2 else 0)+vw ss h ?zO):=qc fun j hj=>by
    have gj:L.getD j "" = L[j]:=by rw[yv,yj hj];rfl
    rw[Z0,gj];by_cases ej:j=L.idxOf (b0 r)
    .have e2:b0 r=L[j]:=by subst ej;exact(Qp hi).symm
     rw[yc ⟨e,e2⟩,yc ej,fc (by rw[←e2,←e];exact hk.1)];grind
    .have e2:¬ b0 r=L[j]:=fun z=>ej (by
      have h1:=Qp hi;have:L[L.idxOf (b0 r)]=L[j]:=h1.trans z;exact((?Il).mp this).symm)
     rw[yd (fun z=>e2 z.2),yd ej];grind
   rw[this,Zu,uP hi]
  .rw[yd e,qc (g:=fun j=>vw ss h ?zO) fun j _=>by rw[Z0,yd (fun z=>e z.1)]];grind
theorem Wu:∀ {rs:List yw} {acc:List Str},acc.Nodup->(rs.foldl Qg acc).Nodup
 |[],acc,h=>h
 |r::rs,acc,h=>by
  rw[Yi];refine Wu ?_;unfold Qg;split
  .exact h
  .rename_i hn;rw[Yr];exact⟨h,by simp,fun a ha b hb e=>hn (by rw[yE.mp hb] at e;exact e▸ha)⟩
theorem Jz:h∈zj hs rs ↔ h∈hs/\Live hs rs h:=by
 unfold zj;rw[YA];simp
section
theorem lV:(?A7).Nodup:=List.Pairwise.filter _ (Wu Qw)
theorem Wh {r:yw}:Qs ?A5 ?A7 r.2.1=true ↔ ∀ x∈r.2.1,x∈yt rs->Live ?A5 rs x:=by
 rw[uq];refine forall_congr' fun x=>forall_congr' fun _=>⟨fun h hh=>(Jz.mp (h hh)).2,fun h hh=>Jz.mpr ⟨hh,h hh⟩⟩
theorem UJ:r∈zM rs ↔ r∈rs/\Qs ?A5 ?A7 r.2.1=true/\Qz ?A7 r=true:=by
 unfold zM JX;rw[YA,YA];exact⟨fun h=>⟨h.1.1,h.1.2,h.2⟩,fun h=>⟨⟨h.1,h.2.1⟩,h.2.2⟩⟩
theorem iA:r∈Z9 rs ↔ r∈rs/\Qs ?A5 ?A7 r.2.1=true/\Qz ?A7 r=false:=by
 unfold Z9 JX;rw[YA,YA];simp only[Bool.not_eq_true'];exact⟨fun h=>⟨h.1.1,h.1.2,h.2⟩,fun h=>⟨⟨h.1,h.2.1⟩,h.2.2⟩⟩
theorem uM(h:Qz L r=true):r.2.1=[b0 r]/\b0 r∈L:=by
 unfold Qz at h;split at h
 .rename_i x hx;have:b0 r=x:=by unfold b0;rw[hx];rfl
  rw[this];exact⟨hx,of_decide_eq_true h⟩
 .cases h
theorem U6:∀ {l:List α},(l.map f).Nodup->((l.filter p).map f).Nodup
 |[],_=>Qw
 |a::l,h=>by
  rw[yD,yR] at h;have ih:=U6 (p:=p) h.2;cases q:p a with
  |true=>
   rw[YE (by exact q),yD,yR];refine⟨fun z=>h.1 ?_,ih⟩;obtain⟨b,hb,e⟩:=yA.mp z;exact yA.mpr ⟨b,(YA.mp hb).1,e⟩
  |false=>rw[YF ?qI];exact ih
theorem nZ (h:(rs.map fun r=>?zI).Nodup):((?B5).map fun r=>?U).Nodup:=by
 have a:((zM rs).map fun r=>?zI).Nodup:=U6 (U6 h);have go:∀ {l:List yw},(∀ r∈l,r.2.1=[b0 r])->(l.map fun r=>?zI).Nodup->(l.map fun r=>?U).Nodup:=by
  intro l
  induction l with
  |nil=>intro _ _;exact Qw
  |cons r l ih=>
   intro h1 h2;rw[yD,yR] at h2 ⊢;refine⟨fun z=>h2.1 ?_,ih (fun x hx=>h1 x ?As) h2.2⟩;obtain⟨q,hq,e⟩:=yA.mp z;simp only[Prod.mk.injEq] at e;refine yA.mpr ⟨q,hq,?_⟩;rw[h1 q (ye _ hq),h1 r (by simp),e.1,e.2]
 exact go (fun r hr=>(uM (?GL).2.2).1) a
theorem AF:∀ {ss:List yw},(ss.map fun r=>?U).Nodup->r∈ss->vw ss r.1 (b0 r)=r.2.2
 |[],_,h=>by cases h
 |q::ss,hn,h=>by
  rw[yD,yR] at hn;rw[Z0];rcases yB.mp h with z|z
  .subst z;rw[yc ⟨rfl,rfl⟩]
  .rw[yd fun e=>hn.1 (by rw[e.1,e.2];exact yA.mpr ⟨r,z,rfl⟩)];exact AF hn.2 z
theorem Ba (hp:(rs.map fun r=>?zI).Nodup)(h0:∀ r∈rs,0<r.2.2)(h1:∀ h∈yt rs,QN h rs=1):Piv (?A7).length (wM2 ?A7 ?B5):=by
 have nn:∀ r∈rs,0<=r.2.2:=fun r hr=>Yx (h0 r hr)
 have ks:=nZ hp;have hd:∀ i,i<(?A7).length->(?A7).getD i "" ∈ yy rs:=fun i hi=>by
  rw[yv,yj hi];exact List.getElem_mem hi
 have row:∀ i,YV (?A7).length (wM2 ?A7 ?B5 i)=QN ((?A7).getD i "") ?B5:=fun i=>fe lV ks fun r hr=>(uM (?GL).2.2).2;have lr:∀ h,QN h ?BX<=QN h rs:=fun h=>ZV nn;have lrn:∀ r∈JX (yt rs) (yy rs) rs,0<=r.2.2:=fun r hr=>nn r (YA.mp hr).1;refine Ah (ρ:=fun i=>XO ?A5 rs ((?A7).getD i "")) (fun i j _ _=>?_) (fun i hi=>?_) fun i hi=>?_
 .show 0<=vw _ _ _;unfold vw;cases q:vA ((zM rs).map fun r=>?U) ((zM rs).map ?yD) ((yy rs).getD i "", ?jD) with
  |none=>exact yJ
  |some v=>
   obtain⟨r,hr,e⟩:=yA.mp (bM q);rw[←e];exact nn r (?GL).1
 .rw[row,←h1 _ (Jz.mp (hd i hi)).1];have a:=ZV (h:=(?A7).getD i "") (p:=?DB) lrn;exact yV a (lr _)
 .obtain⟨lh,ll⟩:=Jz.mp (hd i hi);obtain⟨r,hr,e,hb⟩:=XW ll;have ok:Qs (yt rs) (yy rs) r.2.1=true:=Wh.mpr fun x hx hh=>(?Ex).1;cases q:Qz (yy rs) r with
  |true=>
   obtain⟨o1,o2⟩:=uM q;have hx:b0 r∈yt rs:=(Jz.mp o2).1;refine .inr ⟨(?A7).idxOf (b0 r),Y6.mpr o2,?_,?_⟩
   .have ei:(yy rs).getD ((yy rs).idxOf (b0 r)) "" = b0 r:=by rw[yv,bY o2];rfl
    show 0<vw _ _ _;rw[ei,←e,AF ks (UJ.mpr ⟨hr,ok,q⟩)];exact h0 r hr
   .show XO _ _ ((?A7).getD ((?A7).idxOf (b0 r)) "")<_;rw[yv,bY o2];exact(hb (b0 r) (by rw[o1];simp) hx).2
  |false=>
   refine .inl ?_;rw[row,←h1 _ lh];have a:=Xa (h:=(?A7).getD i "") (p:=?DB) lrn (YA.mpr ⟨hr,ok⟩) e q (h0 r hr);have b:=lr ((?A7).getD i "");unfold zM;grind
theorem OkD.times {q:Rat}(h:OkD M 1 q)(hk:0<k):OkD (M*k) 1 q:=by
 obtain⟨z,e1,e2⟩:=h;refine⟨z*k,?_,?_⟩
 .rw[e1,Nat.pow_one,Nat.pow_one,jI,jI,Ur ?A]
 .rw[Q7] at e2 ⊢;have a:=qq k e2;have b:M ^ (2*1)*k<=(M*k) ^ (2*1):=by
   rw[show 2*1=2 from rfl,Nat.mul_pow];refine qT _ ?_;rw[Nat.pow_two];exact Nat.le_mul_of_pos_left k hk
  exact yz a b
theorem OkD.self {q:Rat}(hq:0<=q)(hM:0<M):OkD (M*(q.den*(q.num.natAbs+1))) 1 q:=by
 have dp:=q.den_pos;obtain⟨n,hn⟩:=YR (My.q_num_nn hq);refine⟨n*(M*(n+1)),?_,?_⟩
 .rw[Nat.pow_one,hn,Qh];have e:q=Rat.divInt q.num q.den:=(qt q).symm;have z:(0:Int)<((M*(n+1):Nat):Int):=Int.natCast_pos.mpr (Nat.mul_pos hM (Nat.succ_pos n));rw[show((n*(M*(n+1)):Nat):Int)=(n:Int)*((M*(n+1):Nat):Int) by push_cast;rfl,show((M*(q.den*(n+1)):Nat):Int)=(q.den:Int)*((M*(n+1):Nat):Int) by push_cast;grind,Ur z,←hn];exact e
 .rw[Q7,hn,Qh,show 2*1=2 from rfl,Nat.pow_two];have a:n<=M*(q.den*(n+1)):=by
   have:n+1<=M*q.den*(n+1):=Nat.le_mul_of_pos_left _ (Nat.mul_pos hM dp);rw[Nat.mul_assoc] at this;lia
  have b:M*(n+1)<=M*(q.den*(n+1)):=qT M (Nat.le_mul_of_pos_left _ dp);exact qa a b
theorem HI:∀ {qs:List Rat},(∀ q∈qs,0<=q/\Sz t q)->∃ M,32<=M/\M<2 ^ (6+qs.length*(2*t))/\∀ q∈qs,OkD M 1 q
 |[],_=>⟨32,yg _,by simp,fun q hq=>by cases hq⟩
 |q::qs,h=>by
  obtain⟨M,h1,h2,h3⟩:=HI (qs:=qs) fun x hx=>h x ?As;obtain⟨q0,s1,s2⟩:=h q (by simp);have kp:0<q.den*(q.num.natAbs+1):=Nat.mul_pos q.den_pos (Nat.succ_pos _);refine⟨M*(q.den*(q.num.natAbs+1)),yz h1 (Nat.le_mul_of_pos_right _ kp),?_,fun x hx=>?_⟩
  .rw[yi,show 6+(qs.length+1)*(2*t)=6+qs.length*(2*t)+(t+t) by rw[Qe];lia];generalize 6+qs.length*(2*t)=A at h2 ⊢;rw[Nat.pow_add 2 A,Nat.pow_add 2 t];exact Nat.mul_lt_mul_of_lt_of_le h2 (qa (Qk s2) ?A) (Nat.mul_pos (Nat.pow_pos ?B) (Nat.pow_pos ?B))
  .rcases yB.mp hx with z|z
   .subst z;exact OkD.self q0 ?A
   .exact(h3 x z).times kp
end
theorem DS {hs ws:?A1}{rs:?A4}(g:?HY)(h3:?jK){row:?A1}(hr:?zY):∃ M b,SumG rs row M b 5:=by
 have sz:∀ r∈rs,0<=r.2.2/\Sz 5 r.2.2:=fun r hr=>⟨Yx (?Ez).1,(?Ez).2⟩
 have rl:=g.rl;have ll:(yy rs).length<=3:=yz (YO _ _) (by rw[g.fst];exact h3)
 have pv:=Ba g.prs (fun r hr=>(?Ez).1) fun h hh=>g.one h (by rw[←g.fst];exact hh);have cg:=tZ (L:=?A7) (ss:=?B5) (s:=5) (fun r hr=>sz r (?GL).1) ?B pv;have s3:sK 5 (yy rs).length<=383:=yz (oj ll) ?B
 obtain⟨M,m1,m2,m3⟩:=HI (t:=383) (qs:=rs.map ?yD++(List.range (?A7).length).flatMap fun i=>(List.range (?A7).length).map fun j=>vL rs i j) fun q hq=>by
  rcases Yw.mp hq with z|z
  .obtain⟨r,h1,rfl⟩:=yA.mp z;exact⟨(sz r h1).1,(sz r h1).2.mono ?B⟩
  .obtain⟨i,hi,z⟩:=Q5.mp z;obtain⟨j,hj,rfl⟩:=yA.mp z;rw[qk] at hi hj;exact⟨(cg i j hi hj).1,(cg i j hi hj).2.mono s3⟩
 refine⟨M,16500,?A,fun r hr=>(?Hj).2.1,nZ g.prs,sz,?B,yz s3 ?B,pv,m1,yW m2 (YD ?B ?_),yg _,hr,⟨?_,fun r hr=>?_,fun r hr=>?_,fun r hr=>?_⟩,fun i j hi hj=>?_,lV,?A⟩
 .have:((List.range (yy rs).length).flatMap fun i=>(List.range (?A7).length).map fun j=>vL rs i j).length<=9:=by
   have e:∀ n k:Nat,((?BU).flatMap fun i=>(?Cs).map fun j=>vL rs i j).length=n*k:=fun n k=>by
    induction n with
    |zero=>simp
    |succ n ih=>rw[YC,Qf,yI,ih,Qe];simp
   rw[e];exact qa ll ll
  rw[yI,yf];lia
 .have a:(Z9 rs).length<=_:=YO _ _;have b:(JX (yt rs) (yy rs) rs).length<=rs.length:=YO _ _;lia
 .obtain⟨h1,h2,_⟩:=iA.mp hr;exact Jz.mpr ⟨JA.mpr (yA.mpr ⟨r,h1,rfl⟩),.mk r h1 (Wh.mp h2)⟩
 .obtain⟨h1,h2,h3⟩:=iA.mp hr;obtain⟨b1,b2,_⟩:=g.body r h1;refine⟨b1,b2,fun x hx hh=>?_⟩;unfold Qz at h3;rw[hx] at h3;have hl:x∉yy rs:=of_decide_eq_false h3;exact hl (Jz.mpr ⟨hh,Wh.mp h2 x (by rw[hx];simp) hh⟩)
 .exact m3 _ (Yu _ (yA.mpr ⟨r,(iA.mp hr).1,rfl⟩))
 .exact m3 _ (y6 _ (Q5.mpr ⟨i,qk.mpr hi,yA.mpr ⟨j,qk.mpr hj,rfl⟩⟩))
section
variable {p0 p1 p2 p3:Rat}
end
section
variable [DecidableEq κ]
theorem mR:∀ {ks:List κ} {xs:List α},ks.length=xs.length->vA ks ((?B1).map fun p=>?xC) k'=if k'=k then (if k∈ks then some v else none) else vA ks xs k'
 |[],[],_=>by by_cases h:k'=k <;> simp[vA,h]
 |[],_::_,h=>by simp at h
 |_::_,[],h=>by simp at h
 |q::ks,x::xs,h=>by
  have ih:=mR (k:=k) (k':=k') (v:=v) (ks:=ks) (xs:=xs) (by simpa using h);unfold vA at ih ⊢;rw[yU,yD,yU,y3,y3];by_cases e:q=k'
  .subst e;by_cases e2:q=k
   .subst e2;simp
   .simp[e2]
  .rw[yu e];dsimp only;rw[ih];by_cases e2:k'=k
   .subst e2;have:¬ k'=q:=fun z=>e z.symm;simp[this]
   .simp[e2]
theorem ni:∀ {ks:List κ} {xs:List α},ks.length=xs.length->k∉ks->vA (ks++[k]) (xs++[v]) k'=if k'=k then some v else vA ks xs k'
 |[],[],_,_=>by
  by_cases h:k'=k
  .subst h;simp[vA]
  .have:¬ k=k':=fun z=>h z.symm;simp[vA,h,this]
 |[],_::_,h,_=>by simp at h
 |_::_,[],h,_=>by simp at h
 |q::ks,x::xs,h,hk=>by
  have ih:=ni (k:=k) (k':=k') (v:=v) (ks:=ks) (xs:=xs) (by simpa using h) fun z=>hk ?Db;unfold vA at ih ⊢;rw[qP,qP,yU,yU,y3,y3];by_cases e:q=k'
  .subst e;have:¬ q=k:=fun z=>hk (by simp[z]);simp[this]
  .rw[yu e];exact ih
theorem hU {ks:?Ax}{xs:?B4}{k k':κ}{v:α}(h:ks.length=xs.length):vA ?Da ?Ep k'=if k'=k then some v else vA ks xs k':=by
 unfold pK pA;by_cases hk:k∈ks
 .rw[yc hk,yc hk,mR h,yc hk]
 .rw[yd hk,yd hk,ni h hk]
end
theorem Ae {i j i' j':Nat}{t:Rat}(hl:kn.1.length=kn.2.length):vK ?HI h' i' j'=if h'=h/\i'=i/\j'=j then t else vK kn h' i' j':=by
 unfold vK fM;dsimp only;rw[hU hl];by_cases e:h'=h/\i'=i/\j'=j
 .rw[yc e,yc (by rw[e.1,e.2.1,e.2.2])];rfl
 .rw[yd e,yd (fun z=>e (by simpa using z))]
theorem sd {t:Rat}(hl:kn.1.length=kn.2.length):(?HI).1.length=(?HI).2.length:=V1 hl
section
variable {p0 p1 p2 p3:Rat}
end
section
variable (hs row:?A1)(T:?S)
def wT (x:Str)(i j:Nat):Rat:=if x∈hs then T x i j else if j=i+1/\row[i]?=some x then 1 else 0
def wP:List Str->Nat->Nat->Rat
 |[],i,j=>if i=j then 1 else 0
 |x::xs,i,j=>YV ?I fun t=>wT hs row T x i ?E*wP xs ?E j
end
section
variable {T:?S}
theorem Kj:∀ {b:List Str} {i j:Nat},j<i+b.length->wP hs row T b i j=0
 |[],i,j,h=>by
  rw[Yz] at h;rw[wP,yd ?A]
 |x::xs,i,j,h=>by
  rw[wP];refine jO fun t ht=>?_;rw[yi] at h;rw[Kj (b:=xs) (by lia)];grind
theorem U5 {f:?N}:∀ {m:Nat},n<=m->(∀ t,n<=t->t<m->f t=0)->YV m f=YV n f
 |0,h,_=>by rw[Jq.mp h]
 |m+1,h,z=>by
  rcases Ql n (m+1) with q|q
  .rw[YV,U5 (m:=m) ?A fun t a b=>z t a ?A,z m ?A ?A];grind
  .rw[show n=m+1 by lia]
theorem xC(h:i<j):wP hs row T [x] i j=wT hs row T x i j:=by
 rw[wP,←uP (n:=?I) (k:=?zP) (c:=wT hs row T x i j) ?A];refine qc fun t ht=>?_;rw[wP];by_cases e:t=j - i - 1
 .rw[yc e,yc ?A,show i+1+t=j by lia];grind
 .rw[yd e,yd ?A];grind
theorem mI(hx:x∈hs)(hz:∀ i j,T x i j=0):∀ {b:List Str} {i j:Nat},x∈b->wP hs row T b i j=0
 |[],_,_,h=>absurd h (by simp)
 |y::ys,i,j,h=>by
  rw[wP];refine jO fun t ht=>?_;by_cases e:y=x
  .have:wT hs row T y i (i+1+t)=0:=by unfold wT;rw[e,yc hx,hz]
   rw[this];grind
  .rw[mI hx hz (b:=ys) ((yB.mp h).resolve_left fun z=>e z.symm)];grind
def Agr (row:?A1)(T:?S)(kn:Kn)(n:Nat):Prop:=∀ h i j,i<j->j<=row.length->j - i<n->vK kn h i j=T h i j
def KwE (hs row:?A1)(T:?S)(kw:Kw):Prop:=∀ p∈kw,p.2=wP hs row T p.1.1 p.1.2.1 p.1.2.2
theorem Fl(a:Agr row T kn n)(hij:i<j)(hj:?O)(h:x∉hs∨j - i<n):woS hs row kn i j x=wT hs row T x i j:=by
 unfold woS wT;by_cases hx:x∈hs
 .rw[yc hx,yc hx];exact a x i j hij hj (h.resolve_left fun z=>z hx)
 .rw[yd hx,yd hx]
theorem ET(a:Agr row T kn n):∀ (b:List Str) (i j:Nat) (kw:Kw),b≠[]->i<j->j<=row.length->j - i<=n->(∀ x,b=[x]->x∉hs∨j - i<n)->KwE hs row T kw->(?Dm).1=wP hs row T b i j/\KwE hs row T (?Dm).2
 |[],_,_,_,h,_,_,_,_,_=>absurd rfl h
 |[x],i,j,kw,_,hij,hj,hn,h1,hk=>by
  rw[wBm];exact⟨by rw[xC hij];exact Fl a hij hj (h1 x rfl),hk⟩
 |x::y::rest,i,j,kw,_,hij,hj,hn,_,hk=>by
  rw[wBm];cases q:kO kw ?zJ with
  |some v=>exact⟨hk _ (dU q),hk⟩
  |none=>
   have go:∀ t,t<=nP ?qL i j->Zl ((?CX).foldl ?yE ([],kw)).1=YV t (fun t=>wT hs row T x i ?E*wP hs row T ?K ?E j)/\KwE hs row T ((?CX).foldl ?yE ([],kw)).2:=by
    intro t
    induction t with
    |zero=>intro _;exact⟨rfl,hk⟩
    |succ t ih=>
     intro ht;obtain⟨e1,e2⟩:=ih ?A;rw[YC,yY];generalize (?CX).foldl ?yE ([],kw)=acc at *;have hm:i+1+t+1<=j:=by unfold nP at ht;lia
     have wx:woS hs row kn i (i+1+t) x=wT hs row T x i (i+1+t):=Fl a ?A ?A (.inr ?A);obtain⟨f1,f2⟩:=ET a ?K ?E j acc.2 (by simp) ?A hj ?A (fun _ _=>.inr ?A) e2;rw[Yi,qH,YV];unfold QQ;dsimp only;by_cases z:woS hs row kn i ?E x=0
     .rw[yc z];refine⟨?_,e2⟩;rw[e1,←wx,z];grind
     .rw[yd z];refine⟨?_,f2⟩;dsimp only;rw[UE,e1,f1,wx]
   obtain⟨e1,e2⟩:=go _ ?AC;dsimp only;generalize (?CQ).foldl ?yE ([],kw)=acc at *;have v:Zl acc.1=wP hs row T (x::y::rest) i j:=by
    rw[e1,wP];refine(U5 (by unfold nP;lia) fun t h1 h2=>?_).symm;rw[Kj (b:=?K) (by rw[yi];unfold nP at h1;lia)];grind
   refine⟨v,fun p hp=>?_⟩;rcases fJ hp with z|z
   .subst z;exact v
   .exact e2 p z
end
theorem Av {E E':?H}(hc:n<=c)(hc':n<=c')(h:∀ i j,i<n->j<n->E i j=E' i j)(g:∀ i,i<n->E i c=E' i c'):∀ k,k<=n->∀ i,i<n->EK E k i c=EK E' k i c'
 |0,_,i,hi=>g i hi
 |k+1,hk,i,hi=>by
  have ih:=Av hc hc' h g k ?A;have cols:=bu h k ?A;rw[EK,EK];unfold zW;rw[yd (show ¬ c=k by lia),yd (show ¬ c=k by lia),yd (show ¬ c'=k by lia),yd (show ¬ c'=k by lia),ih k ?A,cols k k ?A ?A,ih i hi,cols i k hi ?A]
theorem Gr(hp:Piv L.length ?EA)(hi:i<L.length)(hj:j<L.length):chF L ss i j=YV L.length (fun k=>wM2 L ss i k*chF L ss k j)+idM L i j:=by
 have e:∀ k,k<L.length->chF L ss k j=EK (wM L.length ?EA fun r _=>idM L r j) L.length k L.length:=fun k hk=>by
  unfold chF;refine Av (QK _ _) ?AC (fun a b ha hb=>by rw[Wm a b ha hb,Wm a b ha hb]) (fun a ha=>?_) _ ?AC k hk;unfold wM;rw[yd (by lia),yd ?A,jV]
 have s:=Slv.all (iR (B:=fun r _=>idM L r j) hp) i hi;dsimp only at s;rw[e i hi,s];congr 1
 .refine qc fun k hk=>?_;rw[Wm i k hi hk,e k hk]
 .unfold wM;rw[yd (by lia)]
def QR (f:?V):List yw->Rat
 |[]=>0
 |r::rs=>f r+QR f rs
theorem VB {f g:?V}:∀ {rs:List yw},(∀ r∈rs,f r=g r)->QR f rs=QR g rs
 |[],_=>rfl
 |r::rs,h=>by rw[QR,QR,h r (by simp),VB fun x hx=>h x ?As]
theorem gi {f g:?V}:∀ {rs:List yw},QR (fun r=>f r+g r) rs=QR f rs+QR g rs
 |[]=>by simp[QR];grind
 |r::rs=>by rw[QR,QR,QR,gi];grind
theorem Zx {f:?V}:∀ {rs:List yw},QR f (rs.filter p)=QR (fun r=>if p r=true then f r else 0) rs
 |[]=>rfl
 |r::rs=>by
  rw[QR,←Zx];cases q:p r with
  |true=>rw[YE (by exact q),QR,yc rfl]
  |false=>rw[YF ?qI,yd yN];grind
theorem aN {f:?V}:∀ {rs:List yw},(∀ r∈rs,f r=0)->QR f rs=0
 |[],_=>rfl
 |r::rs,h=>by rw[QR,h r (by simp),aN fun x hx=>h x ?As];grind
theorem nC {L:?A1}{h:Str}{T:?zM}(nd:L.Nodup):∀ {ss:List yw},(ss.map fun r=>?U).Nodup->(∀ r∈ss,b0 r∈L)->YV L.length (fun j=>vw ss h ?zO*T ?zO)=QR (fun r=>if r.1=h then r.2.2*T (b0 r) else 0) ss
 |[],_,_=>jO fun j _=>by show 0*_=(0:Rat);grind
 |r::ss,hk,hL=>by
  rw[yD,yR] at hk;have ih:=nC nd (h:=h) (T:=T) (ss:=ss) hk.2 fun x hx=>hL x ?As;rw[QR,←ih];have hb:=hL r (by simp);by_cases e:r.1=h
  .rw[yc e];have hi:=Y6.mpr hb;have:YV L.length (fun j=>vw (r::ss) h ?zO*T ?zO)=YV L.length (fun j=>(if j=L.idxOf (b0 r) then r.2.2*T (b0 r) else 0)+vw ss h ?zO*T ?zO):=qc fun j hj=>by
    have gj:L.getD j "" = L[j]:=by rw[yv,yj hj];rfl
    rw[Z0,gj];by_cases ej:j=L.idxOf (b0 r)
    .have e2:b0 r=L[j]:=by subst ej;exact(Qp hi).symm
     rw[yc ⟨e,e2⟩,yc ej,fc (by rw[←e2,←e];exact hk.1),e2];grind
    .have e2:¬ b0 r=L[j]:=fun z=>ej (by
      have h1:=Qp hi;have:L[L.idxOf (b0 r)]=L[j]:=h1.trans z;exact((?Il).mp this).symm)
     rw[yd (fun z=>e2 z.2),yd ej];grind
   rw[this,Zu,uP hi]
  .rw[yd e,qc (g:=fun j=>vw ss h ?zO*T ?zO) fun j _=>by rw[Z0,yd (fun z=>e z.1)]];grind
section
variable {M:Nat}{hs L:?A1}{br:?A4}{w:Str}
theorem ae {f:?V}:∀ {rs:List yw},QR f (rs++[r])=QR f rs+f r
 |[]=>by simp[QR];grind
 |x::rs=>by rw[qP,QR,QR,ae];grind
theorem Bf {ch:?H}{i:Nat}{f:?zM}(nd:L.Nodup):∀ {ks:List Str},ks.Nodup->(∀ x∈ks,x∈L)->Zl (ks.map fun o=>(?Fi,f o))=YV L.length (fun j=>if L.getD j "" ∈ ks then ch i j*f ?zO else 0):=by
 have go:∀ (ks:List Str) (a:Rat),(ks.map fun o=>(?Fi,f o)).foldl (fun a p=>a+p.1*p.2) a=a+Zl (ks.map fun o=>(?Fi,f o)):=by
  intro ks
  induction ks with
  |nil=>intro a;simp[Zl];grind
  |cons o ks ih=>
   intro a;unfold Zl;rw[yD,Yi,Yi,ih,ih (0+_)];grind
 intro ks
 induction ks with
 |nil=>intro _ _;rw[jO fun j _=>by simp];rfl
 |cons o ks ih=>
  intro hn hL;have hn':=yR.mp hn;have hi:=Y6.mpr (hL o (by simp));have e:Zl ((o::ks).map fun o=>(?Fi,f o))=ch i (L.idxOf o)*f o+Zl (ks.map fun o=>(?Fi,f o)):=by
   unfold Zl;rw[yD,Yi,go];unfold Zl;grind
  rw[e,ih hn'.2 fun x hx=>hL x ?As,←uP (c:=ch i (L.idxOf o)*f o) hi,←Zu];refine qc fun j hj=>?_;have gj:L.getD j "" = L[j]:=by rw[yv,yj hj];rfl
  rw[gj];by_cases ej:j=L.idxOf o
  .have e2:L[j]=o:=by subst ej;exact Qp hi
   rw[yc ej,yd (by rw[e2];exact hn'.1),yc (by rw[e2];exact yo),e2,ej];grind
  .have e2:¬ L[j]=o:=fun z=>ej (by
    have h1:=Qp hi;have:L[L.idxOf o]=L[j]:=h1.trans z.symm;exact((?Il).mp this).symm)
   rw[yd ej];by_cases q:L[j]∈ks
   .rw[yc q,yc (ye _ q)];grind
   .rw[yd q,yd (fun z=>(yB.mp z).elim e2 q)];grind
end
theorem XZ {m:Nat}{f:?H}:∀ {n:Nat},YV n (fun j=>YV m (fun k=>f j k))=YV m (fun k=>YV n (fun j=>f j k))
 |0=>(jO fun _ _=>rfl).symm
 |n+1=>by
  rw[YV,XZ,←Zu];rfl
section
end
section
variable {M n i j:Nat}{hs row L:?A1}{T:?S}{br:?A4}{kn:Kn}{kw:Kw}
def eW (hs row:?A1)(T:?S)(br:?A4)(i j:Nat)(h:Str):Rat:=QR (fun r=>if r.1=h then r.2.2*wP hs row T r.2.1 i j else 0) br
structure EW (hs row L:?A1)(T:?S)(br:?A4)(i j:Nat)(a:En×Kw):Prop where
 nd:a.1.1.Nodup
 eq:a.1.1.length=a.1.2.length
 keys:∀ x∈a.1.1,x∈L
 val:∀ h,(vA a.1.1 a.1.2 h).getD 0=eW hs row T br i j h
 out:∀ h,h∉a.1.1->eW hs row T br i j h=0
 kw:KwE hs row T a.2
theorem Cf (a:Agr row T kn ?I)(hij:i<j)(hj:?O)(hb:BrG M hs L br)(hk:KwE hs row T kw):∀ n,n<=br.length->EW hs row L T (br.take n) i j ((br.take n).foldl ?DL ?zZ)
 |0,_=>⟨Qw,rfl,(fun x hx=>by cases hx),(fun h=>rfl),(fun h _=>rfl),hk⟩
 |n+1,hn=>by
  have hr:br[n]?=some br[n]:=yj ?A;have c:=Cf a hij hj hb hk n ?A;rw[Yl hr,yY];have hm:=yr hr;generalize br.take n=b0' at *;generalize b0'.foldl ?DL ?zZ=acc at *;generalize br[n]=r at *;obtain⟨b1,b2,b3⟩:=hb.body r hm;obtain⟨w1,w2⟩:=ET (hs:=hs) a r.2.1 i j acc.2 (fun e=>by rw[e] at b1;simp at b1) hij hj ?AC (fun x e=>.inl (b3 x e)) c.kw;rw[Yi,qH];unfold QP;have ev:∀ h,eW hs row T (b0'++[r]) i j h=eW hs row T b0' i j h+if r.1=h then r.2.2*wP hs row T r.2.1 i j else 0:=fun h=>ae
  rw[w1];by_cases e:wP hs row T r.2.1 i j=0
  .rw[yc e];have ev':∀ h,eW hs row T (b0'++[r]) i j h=eW hs row T b0' i j h:=fun h=>by rw[ev,e];split <;> grind
   exact⟨c.nd,c.eq,c.keys,fun h=>by rw[ev'];exact c.val h,fun h hh=>by rw[ev'];exact c.out h hh,w2⟩
  .rw[yd e];refine⟨fA c.nd,V1 c.eq,fun x hx=>?_,fun h=>?_,fun h hh=>?_,w2⟩
   .rcases B1 hx with z|z
    .rw[z];exact hb.hd r hm
    .exact c.keys x z
   .show(vA (pK acc.1.1 r.1) (pA acc.1.1 acc.1.2 r.1 _) h).getD 0=_;rw[hU c.eq,ev,←c.val h];by_cases eh:h=r.1
    .subst eh;rw[yc rfl,yc rfl];rfl
    .rw[yd eh,yd (fun z=>eh z.symm)];grind
   .have h1:¬ r.1=h:=fun z=>hh (by
     show h∈pK acc.1.1 r.1;unfold pK;split
     .rename_i q;exact z▸q
     .rw[←z];simp)
    have h2:h∉acc.1.1:=fun z=>hh (by
     show h∈pK acc.1.1 r.1;unfold pK;split
     .exact z
     .exact Yu _ z)
    rw[ev,c.out h h2,yd h1];grind
theorem UL {ch:?H}(hl:kn.1.length=kn.2.length)(hz:∀ h,vK kn h i j=0):∀ n,n<=L.length->((L.take n).foldl ?Ej kn).1.length=((L.take n).foldl ?Ej kn).2.length/\∀ h i' j',vK ((L.take n).foldl ?Ej kn) h i' j'=if i'=i/\j'=j then (if h∈L.take n then ug L ch e h else 0) else vK kn h i' j'
 |0,_=>⟨hl,fun h i' j'=>by
  by_cases q:i'=i/\j'=j
  .rw[yc q,q.1,q.2];exact hz h
  .rw[yd q];rfl⟩
 |n+1,hn=>by
  have hr:L[n]?=some L[n]:=yj ?A;obtain⟨a1,a2⟩:=UL (ch:=ch) (e:=e) hl hz n ?A;rw[Yl hr,yY,Yi,qH];generalize (L.take n).foldl ?Ej kn=k' at *;generalize L[n]=x at *;unfold QD;by_cases z:ug L ch e x=0
  .rw[yc z];refine⟨a1,fun h i' j'=>?_⟩;rw[a2 h];by_cases q:i'=i/\j'=j
   .rw[yc q,yc q];by_cases m:h∈L.take n
    .rw[yc m,yc (Yu _ m)]
    .rw[yd m];by_cases e2:h=x
     .rw[yc (by rw[e2];simp),e2,z]
     .rw[yd (by simp[m,e2])]
   .rw[yd q,yd q]
  .rw[yd z];refine⟨sd a1,fun h i' j'=>?_⟩;rw[Ae a1,a2 h];by_cases q:i'=i/\j'=j
   .rw[yc q,yc q];by_cases e2:h=x
    .rw[yc ⟨e2,q⟩,yc (by rw[e2];simp),e2]
    .rw[yd (fun z=>e2 z.1)];by_cases m:h∈L.take n
     .rw[yc m,yc (Yu _ m)]
     .rw[yd m,yd (by simp[m,e2])]
   .rw[yd q,yd q,yd (fun z=>q z.2)]
end
theorem KG(h:n<=5):(YT n).Nodup:=by
 rcases (show n=0∨n=1∨n=2∨n=3∨n=4∨n=5 by lia) with rfl|rfl|rfl|rfl|rfl|rfl <;> decide +kernel
theorem CH(h:n<=5):((List.range (YT n).length).all fun k=>(YT n).all fun p=>!decide (p.2 - p.1<((YT n).getD k (0,0)).2 - ((YT n).getD k (0,0)).1)||decide (p∈(YT n).take k))=true:=by
 rcases (show n=0∨n=1∨n=2∨n=3∨n=4∨n=5 by lia) with rfl|rfl|rfl|rfl|rfl|rfl <;> decide +kernel
theorem Ub(h:i<j)(hj:j<=n):(i,j)∈YT n:=by
 unfold YT;refine Q5.mpr ⟨?zP,qk.mpr ?A,yA.mpr ⟨i,qk.mpr ?A,?_⟩⟩;rw[show i+(j - i - 1)+1=j by lia]
theorem oN(h:n<=5)(hk:k<(YT n).length)(hij:i<j)(hj:j<=n)(hl:j - i<((YT n).getD k (0,0)).2 - ((YT n).getD k (0,0)).1):(i,j)∈(YT n).take k:=by
 have a:=jM.mp (CH h) k (qk.mpr hk);have b:=jM.mp a (i,j) (Ub hij hj);rw[yK (show(i,j).2 - (i,j).1<_ from hl)] at b;simpa using b
def TW (rs:?A4)(row:?A1)(h:Str)(i j:Nat):Rat:=vK (knG rs row) h i j
section
variable {rs:?A4}{row:?A1}{M b s:Nat}
theorem u0 (g:?Aj)(h:Str):∀ k,k<=(?AS).length->∀ i j,(i,j)∉(?AS).take k->vK (?Al).1 h i j=0
 |0,_,i,j,_=>rfl
 |k+1,hk,i,j,hn=>by
  have hp:(YT row.length)[k]?=some (YT row.length)[k]:=yj ?A;rw[Yl hp] at hn;have n1:(i,j)∉(YT row.length).take k:=fun z=>hn (Yu _ z);have n2:¬ (i=(YT row.length)[k].1/\j=(YT row.length)[k].2):=fun z=>hn (by rw[z.1,z.2];exact y6 _ ?Hm);have ih:=u0 g h k ?A i j n1;have kk:=(KI g k ?A).1.eq;have nk:((YT row.length)[k].1,(?AS)[k].2)∉(YT row.length).take k:=fun z=>by
   have nd:=(KG g.par.rl).sublist (qF (k+1) _);rw[Yl hp,Yr] at nd;exact nd.2.2 _ z _ (by simp) rfl
  rw[Vk hp];unfold vy;dsimp only;have f:=(UL (L:=?A7) (ch:=?Bw) (e:=(Zt ?A5 row (?Al).1 ?BG (?AS)[k].1 (?AS)[k].2 (?Al).2).1) kk (fun x=>u0 g x k ?A _ _ nk) _ ?AC).2 h i j;rw[yM] at f;rw[f,yd n2];exact ih
theorem f8 (g:?Aj)(hp:?qC)(h:Str)(i j:Nat):vK (zR rs row (k+1)).1 h i j=if i=p.1/\j=p.2 then (if h∈yy rs then ug ?A7 ?Bw (Zt ?A5 row (?Al).1 ?BG p.1 p.2 (?Al).2).1 h else 0) else vK (?Al).1 h i j:=by
 have hk:=(?EM).1;have kk:=(KI g k ?A).1.eq;have nk:(p.1,p.2)∉(YT row.length).take k:=fun z=>by
  have nd:=(KG g.par.rl).sublist (qF (k+1) _);rw[Yl hp,Yr] at nd;exact nd.2.2 _ z p (by simp) rfl
 rw[Vk hp];unfold vy;dsimp only;have f:=(UL (L:=?A7) (ch:=?Bw) (e:=(Zt ?A5 row (?Al).1 ?BG p.1 p.2 (?Al).2).1) kk (fun x=>u0 g x k ?A _ _ nk) _ ?AC).2 h i j;rw[yM] at f;exact f
theorem xj (g:?Aj)(h:Str):∀ d k,k+d=(?AS).length->(i,j)∈(?AS).take k->vK (?Al).1 h i j=TW rs row h i j
 |0,k,hd,_=>by
  unfold TW knG;rw[show k=(YT row.length).length by lia]
 |d+1,k,hd,hm=>by
  have hp:(YT row.length)[k]?=some (YT row.length)[k]:=yj ?A;have ih:=xj g h d (k+1) ?A (by rw[Yl hp];exact Yu _ hm);rw[←ih,f8 g hp,yd];intro z;have nd:=(KG g.par.rl).sublist (qF (k+1) _);rw[Yl hp,Yr] at nd;exact nd.2.2 _ hm _ (by simp) (Prod.ext z.1 z.2)
theorem mf (g:?Aj)(hp:?qC):Agr row ?Ae (?Al).1 (p.2 - p.1):=fun h i j hij hj hl=>by
 have hk:=(?EM).1;have e:(YT row.length).getD k (0,0)=p:=by rw[yv,hp];rfl
 exact xj g h ((?AS).length - k) k ?A (oN g.par.rl hk hij hj (by rw[e];exact hl))
theorem mS (g:?Aj):∀ k,k<=(?AS).length->KwE ?A5 row ?Ae (?Al).2
 |0,_=>fun p hp=>by cases hp
 |k+1,hk=>by
  have hp:(YT row.length)[k]?=some (YT row.length)[k]:=yj ?A;have hi:=ZT (yr hp);have e:=Cf (mf g hp) hi.1 hi.2 g.par.br (mS g k ?A) _ ?AC;rw[yM] at e;rw[Vk hp];exact e.kw
theorem Fo (g:?Aj)(hij:i<j)(hj:?O)(h:Str):TW rs row h i j=if h∈yy rs then YV (?A7).length (fun o=>vL rs ?yG o*eW ?A5 row ?Ae ?BG i j ((?A7).getD o "")) else 0:=by
 obtain⟨k,hk,hp⟩:=List.mem_iff_getElem.mp (Ub hij hj);have hp:(YT row.length)[k]?=some (i,j):=by rw[yj hk,hp]
 rw[←xj g h ((YT row.length).length - (k+1)) (k+1) (by lia) (by rw[Yl hp];simp),f8 g hp,yc ?CV];have a:=Cf (mf g hp) hij hj g.par.br (mS g k ?A) _ ?AC;rw[yM] at a;change EW _ _ _ _ _ _ _ (Zt ?A5 row (?Al).1 ?BG i j (?Al).2) at a;generalize Zt ?A5 row (?Al).1 ?BG i j (?Al).2=e at *;by_cases m:h∈yy rs
 .rw[yc m,yc m];unfold ug UG;have:(e.1.1.map fun o=>(chS ?A7 ?Bw h o,?xB))=e.1.1.map fun o=>(vL rs ?yG ((?A7).idxOf o),eW ?A5 row ?Ae ?BG i j o):=jl fun o _=>by rw[a.val];rfl
  rw[this,Bf g.par.nd a.nd a.keys];refine qc fun o _=>?_;by_cases q:(?A7).getD o "" ∈ e.1.1
  .rw[yc q]
  .rw[yd q,a.out _ q];grind
 .rw[yd m,yd m]
theorem bZ (g:?Aj)(m:h∉yy rs)(i j:Nat):TW rs row h i j=0:=by
 by_cases q:(i,j)∈YT row.length
 .have:=ZT q;rw[Fo g this.1 this.2,yd m]
 .exact u0 g h _ ?AC i j (by rw[yM];exact q)
end
section
theorem Fq (g:?Aj){Tf ev:?zM}(he:∀ h,Tf h=if h∈yy rs then YV (?A7).length (fun j=>vL rs ?yG j*ev ?jD) else 0)(hh:h∈yy rs):Tf h=QR (fun r=>if r.1=h then r.2.2*Tf (b0 r) else 0) ?B5+ev h:=by
 have hi:=Y6.mpr hh;have nd:=g.par.nd;have gh:(yy rs).getD ((yy rs).idxOf h) "" = h:=by rw[yv,bY hh];rfl
 rw[he h,yc hh];have e1:YV (yy rs).length (fun j=>vL rs ?yG j*ev ?jD)=YV (yy rs).length (fun j=>YV (?A7).length (fun k=>wM2 ?A7 ?B5 ?yG k*(vL rs k j*ev ?jD))+idM ?A7 ?yG j*ev ?jD):=qc fun j hj=>by
  show chF ?A7 ?B5 _ _*_=_;rw[Gr g.piv hi hj];have:YV (yy rs).length (fun k=>wM2 ?A7 ?B5 ?yG k*(vL rs k j*ev ?jD))=ev ((yy rs).getD j "")*YV (yy rs).length (fun k=>wM2 ?A7 ?B5 ?yG k*chF ?A7 ?B5 k j):=by
   rw[←Vc];exact qc fun k _=>by show _*(chF ?A7 ?B5 k j*_)=_;grind
  rw[this];grind
 rw[e1,Zu,XZ];congr 1
 .rw[←nC nd (h:=h) (T:=Tf) g.keys fun r hr=>(uM (?GL).2.2).2];refine qc fun k hk=>?_;rw[Vc];have mk:(yy rs).getD k "" ∈ yy rs:=by
   rw[yv,yj hk];exact List.getElem_mem hk
  have ik:(yy rs).idxOf ((yy rs).getD k "")=k:=by
   rw[yv,yj hk];exact List.Nodup.idxOf_getElem nd k hk
  rw[he ((yy rs).getD k ""),yc mk,ik];show vw ?B5 ((?A7).getD ?yG "") _*_=_;rw[gh]
 .have:YV (yy rs).length (fun j=>idM ?A7 ?yG j*ev ?jD)=YV (yy rs).length (fun j=>if j=(?A7).idxOf h then ev h else 0):=qc fun j hj=>by
   unfold idM;rw[gh];by_cases q:j=(?A7).idxOf h
   .rw[yc q,q,gh,yc rfl];grind
   .have:¬ h=(yy rs).getD j "" := fun z=>q (by
     rw[z,yv,yj hj];exact(List.Nodup.idxOf_getElem nd j hj).symm)
    rw[yd q,yd this];grind
  rw[this,uP hi]
def d8 (rs:?A4)(row:?A1)(h:Str)(i j:Nat)(r:yw):Rat:=if r.1=h then r.2.2*wP ?A5 row ?Ae r.2.1 i j else 0
theorem lR (g:?Aj)(hh:h∈yt rs)(hij:i<j)(hj:?O):QR (d8 rs row h i j) rs=TW rs row h i j:=by
 have bad:∀ {r:yw},¬ Qs ?A5 ?A7 r.2.1=true->wP ?A5 row ?Ae r.2.1 i j=0:=fun {r} q=>by
  rw[uq] at q;have:∃ x,x∈r.2.1/\x∈yt rs/\x∉yy rs:=Classical.byContradiction fun z=>q fun x hx hf=>Classical.byContradiction fun y=>z ⟨x,hx,hf,y⟩;obtain⟨x,h1,h2,h3⟩:=this;exact mI h2 (fun a c=>bZ g h3 a c) h1
 by_cases m:h∈yy rs
 .rw[Fq g (Tf:=fun h=>TW rs row h i j) (ev:=eW ?A5 row ?Ae ?BG i j) (fun h=>Fo g hij hj h) m];have s1:QR (fun r=>if r.1=h then r.2.2*TW rs row (b0 r) i j else 0) (zM rs)=QR (fun r=>if Qs ?A5 ?A7 r.2.1=true/\Qz ?A7 r=true then (if r.1=h then r.2.2*TW rs row (b0 r) i j else 0) else 0) rs:=by
   unfold zM JX;rw[Zx,Zx];refine VB fun r _=>?_;by_cases q1:Qs ?A5 ?A7 r.2.1=true <;> by_cases q2:Qz ?A7 r=true <;> simp[q1,q2]
  have s2:eW (yt rs) row (TW rs row) (Z9 rs) i j h=QR (fun r=>if Qs ?A5 ?A7 r.2.1=true/\Qz ?A7 r=false then (if r.1=h then r.2.2*wP ?A5 row ?Ae r.2.1 i j else 0) else 0) rs:=by
   unfold eW Z9 JX;rw[Zx,Zx];refine VB fun r _=>?_;by_cases q1:Qs ?A5 ?A7 r.2.1=true <;> cases q2:Qz (yy rs) r <;> simp[q1,q2]
  rw[s1,s2,←gi];refine VB fun r hr=>?_;unfold d8;by_cases q1:Qs ?A5 ?A7 r.2.1=true
  .cases q2:Qz (yy rs) r with
   |true=>
    obtain⟨o1,o2⟩:=uM q2;have e:wP (yt rs) row (TW rs row) r.2.1 i j=TW rs row (b0 r) i j:=by
     rw[o1,xC hij];unfold wT;rw[yc (Jz.mp o2).1]
    rw[e];simp[q1,Rat.add_zero]
   |false=>
    simp[q1,Rat.zero_add]
  .rw[bad q1];simp[q1,Rat.add_zero,Jr]
 .rw[bZ g m];refine aN fun r hr=>?_;unfold d8;by_cases e:r.1=h
  .rw[yc e,bad]
   .grind
   .intro q;exact m (Jz.mpr ⟨hh,e▸.mk r hr (Wh.mp q)⟩)
  .rw[yd e]
theorem LA (g:?Aj):OkD M (9*?I - 5) (TW rs row h i j):=by
 have d:=g.par.d;exact Ci ?A (KI g _ ?AC).1.d
theorem FH (g:?Aj):OkD M (9*?I - 5) (wT ?A5 row ?Ae x i j):=by
 have d:=g.par.d;unfold wT;split
 .exact LA g
 .split
  .exact OkD.mono ?A Dn (Y0 _)
  .exact XI
theorem fB {D e:Nat}{f:?N}(hD:0<D):∀ {n:Nat},(∀ t,t<n->OkD D e (f t))->OkN D n e (YV n f)
 |0,_=>XI
 |n+1,h=>(fB hD fun t ht=>h t ?A).add hD (h n ?A)
theorem Ic (g:?Aj):∀ {bd:List Str} {i j:Nat},bd≠[]->i<j->j<=row.length->OkD M (9*?I - 5) (wP ?A5 row ?Ae bd i j)
 |[],_,_,h,_,_=>absurd rfl h
 |[x],i,j,_,hij,hj=>by rw[xC hij];exact FH g
 |x::y::rest,i,j,_,hij,hj=>by
  have d:=g.par.d;have rl:=g.par.rl;have hD:0<M:=by lia
  rw[wP,U5 (n:=?zP) ?A fun t h1 h2=>by
   rw[Kj (b:=?K) ?qJ];grind]
  refine OkD.mono hD (OkN.up hD (fB (e:=9*?I - 10) hD fun t ht=>?_) ?A) ?A;exact OkD.mono hD (OkD.mul hD (FH g (x:=x) (i:=i) (j:=?E)) (Ic g (bd:=?K) (i:=?E) (j:=j) (by simp) ?A hj)) ?A
theorem Ak (g:?Aj){q:Rat}(h:OkD M e q)(he:e<=50):0<=q/\Sz 1650001 q:=((KI g _ ?AC).gs g.par (a:=0) (b':=0) (c:=0) (gd:=.non)).sz h he
theorem EM (g:?Aj)(hij:i<=j)(hj:?O):0<=wP ?A5 row ?Ae bd i j/\Sz 1650001 (wP ?A5 row ?Ae bd i j):=by
 have rl:=g.par.rl;have d:=g.par.d;cases bd with
 |nil=>
  rw[wP];split
  .exact Ak g (OkD.mono (f:=0) ?A Dn (Y0 _)) ?A
  .exact Ak g (e:=0) XI ?A
 |cons x xs=>
  rcases Ql i j with q|q
  .exact Ak g (Ic g (by simp) q hj) ?A
  .rw[Kj ?qJ];exact Ak g (e:=0) XI ?A
theorem og (g:?Aj)(hj:?O):0<=wT ?A5 row ?Ae x i j/\Sz 1650001 (wT ?A5 row ?Ae x i j):=by
 have rl:=g.par.rl;exact Ak g (FH g) ?A
end
section
end
section
theorem Cv(ok:?KT)(c:?F4)(hr:?Aw)(ho:V3 X B o Γ Ω fun q Ω1=>∃ fs gs d,q=.obj Cc fs gs/\m∉fs/\C [.obj Cc fs gs] d/\R d Ω1)
  (ht:eval ?qG X.env=(do
   let ov ←eval o X.env
   standAt apos.atName
   let (f,first) ←holding [ov] (getMethod ov m pl)
   callWith pos f first ?kW ?qD):=by rfl):V3 X B ?qG Γ Ω R:=fun F σ H S pins s I=>by
 obtain⟨f,fd,Fn,hM,hb⟩:=ok;refine Xd (pl:=pl) j6 c hM Fn hr hb .nil uZ ht pins s σ H _ I ((ho F σ H S).mono fun v H1 ⟨q,Ω1,F1,S1,f1,i1,fs,gs,d,e1,hm,hC,r⟩=>?_);subst e1;obtain⟨a,dx,xs,rfl,h1,hl,il⟩:=isO i1;refine⟨a,dx,_,rfl,S1.fh _ _ h1,Z8 hm,?_⟩;exact⟨_,d,F1,hC,rfl,S1.fh,?JC,fun v' H3 F3 p3 i3=>⟨d,Ω1,F3,S1.pur p3,f1.trans p3.ff,i3,r⟩⟩
theorem A3 (hm:X.mg "tuple" = none)(hg:Gl X "tuple")(h:V3 X B a Γ Ω fun q Ω1=>∃ ds,q=.lst ds/\R ?CF Ω1)(he:?zW:=by rfl):V3 X B (.Call (.Name "tuple" p) [a] [] pos) Γ Ω R:=fun F σ H S pins s I=>
 U8 XM hg hm kG (vx j6 UA he) ?B ?B he (by rfl) pins s σ H _ I ((?AV).mono fun x H1 ⟨q,Ω1,F1,S1,f1,i1,ds,e1,r⟩=>by
  subst e1;obtain⟨l,xs,rfl,s1,j1⟩:=zy i1;exact⟨l,xs,rfl,.inl ⟨S1.fh.seq s1,fun q hq=>⟨?CF,Ω1,_,S1.pur ?Eb,f1.trans (?Eb).ff,Is.tupI ?Cr (j1.mono (?Eb).ff),r⟩⟩⟩)
end
def Hi:?zL:=fun ds=>∃ (c:Int) (ws:List Str) (m:Nat),ds=[.int c,.lst ?Bh,.int (m:Int)]/\ws≠[]/\ws.length<=3/\1<=m/\m<=5
def EH:?G:=fun ds d=>∀ (c:Int) (ws:List Str) (m:Nat),ds=[.int c,.lst ?Bh,.int (m:Int)]->∃ row:List Str,d=y9 row/\1<=row.length/\row.length<=m/\∀ x∈row,x∈ws
theorem GO {c:Int}{m:Nat}(h1:1<=row.length)(h2:row.length<=m)(h3:∀ x∈row,x∈ws):EH [.int c,.lst ?Bh,.int (m:Int)] ?Ah:=fun c' ws' m' e=>by
 simp only[List.cons.injEq,D.lst.injEq,D.int.injEq,and_true] at e;obtain⟨_,e1,e2⟩:=e;have e1:=xv e1;subst e1;have e2:m=m':=by lia
 subst e2;exact⟨row,rfl,h1,h2,h3⟩
section
theorem BE(hu:?Q)(ho:P3 X Γ o (.dt kt ds))(he:?J0)(hv:vA kt ds k=some d)(hz:(kT k).length<=sizeLine:=by first|exact Nat.le_of_ble_eq_true rfl|(simp only[kT,yf,yi,Yz];decide))(hs:BW ?Ea:=by exact ?yH):P3 X Γ (.Subscript o ?Ea pos) d:=
 PE.of (mw (UI hu) ho (W9 he) hs) fun σ H Q ⟨F,fh,sl,q⟩=>⟨F,fh,sl,fun x H1 F1 p1 i1=>by
  obtain⟨l,xs,rfl,hl,hz',il⟩:=HL i1;have hl1:Rd H1 l (.dT (kt.zip xs)):=zC p1.fh hl;refine⟨F1,?BF,?C3,fun ys H2 F2 p2 i2=>⟨by rw[i2.len];exact hz,fun t ht=>?_⟩⟩;have pt:=p2.trans ?LM;have et:upd H2 t (.tup ys) t=some (.tup (k.map kV)):=by
   rw[←KJ (ks:=k) i2];exact yT
  rcases fT (k:=k) (ks:=kt) (il.mono pt.ff) with ⟨z1,_⟩|⟨d1,v,z1,z2,z3⟩
  .rw[hv] at z1;cases z1
  .rw[hv] at z1;cases z1;exact⟨l,v,rfl,.inr ⟨_,k,t,zC pt.hh hl1,rfl,et,by rw[Ws,z2]⟩,q v _ _ (p1.trans pt) z3⟩⟩
theorem dr(hm:X.mg "int" = none)(hg:Gl X "int")(ha:?Gy)(he:?zW:=by rfl):P3 X Γ (.Call (.Name "int" p) [a] [] pos) (.int (if k then 1 else 0)):=
 tN p6 hg hm tI ?CR (fun vs H F Q fh i q=>by
  obtain⟨v,rfl,j0⟩:=wn i;simp only[Is] at j0;subst j0;exact .inr ⟨k,rfl,q _ _ _ ?AU (Jm F)⟩) ?B ?B he
theorem V3.frozenK(h:V3 X B e Γ Ω fun d Ω'=>∃ l ks ds Ω2,d=.raw ?Df/\Ω'=(l,?C2)::Ω2/\R ?E9 Ω2):?Dr:=fun F σ H S pins s I=>
 thn (h F σ H S pins s I) fun u s1 ⟨x,H1,I1,rx,d,Ω',F1,S1,f1,i1,l,ks,ds,Ω2,e1,e2,r⟩=>by
  subst e1 e2;cases isR i1;obtain⟨fa,o0,ha,ho⟩:=S1.own (l,?C2) (by simp);obtain⟨xs,rfl,hl,il⟩:=ho F1 ?AH;have nin:=(?Hb).1;obtain⟨ob,hob⟩:=(I1.hok l _ ha).there;have w:Yc F1 (upd F1 l (.frz ob (.dK (ks.zip xs)))):=fun b u q=>by rw[yX (Ys q fa)];exact q
  refine⟨?Df,upd H1 l ?H1,I1.known ha rfl hob,rx,?E9,Ω2,upd F1 l ?H1,⟨S1.f0.trans w,fun b u q=>?_,fun b q=>?_,fun b u hb q=>?_,(?Hb).2,fun q hq=>S1.od q ?BY,fun q hq=>?_,S1.sl.mono w⟩,f1.trans w,by simp only[Is];exact ?L7,r⟩
  .by_cases hb:b=l
   .subst hb;rw[yT] at q ⊢;exact q
   .rw[yX hb] at q ⊢;exact S1.fh _ _ q
  .by_cases hb:b=l
   .subst hb;exact(S1.od (b,?C2) (by simp)).elim ?wN fun z=>.inr ?Ap
   .rw[yX hb] at q;exact S1.fr b q
  .by_cases z:b=l
   .subst z;rcases S1.od (b,?C2) (by simp) with y|y
    .exact ?Hk
    .have y':B.H b=none:=y;rw[y'] at q;cases q
   .rw[yX z];exact S1.kp b u hb q
  .obtain⟨h1,o',h2,h3⟩:=S1.own q ?BY;have ne:q.1≠l:=fun e=>nin ?Fj;exact⟨by rw[yX ne];exact h1,o',by rw[yX ne];exact h2,fun F2 e=>?JE⟩
end
abbrev K3:=Str×Nat×Nat
theorem BR [DecidableEq κ]:∀ {hs:List κ},h∈hs->vA hs (hs.map f) h=some (f h)
 |[],q=>absurd q (by simp)
 |x::hs,q=>by
  unfold vA;rw[yD,yU,y3];by_cases e:x=h
  .rw[yK e,e];rfl
  .rw[yu e];rcases yB.mp q with z|z
   .exact absurd z.symm e
   .exact BR z
def Ar:?zL:=fun ds=>∃ ns:List Int,ds=[.scr ns]
def Aa:?G:=fun _ d=>∃ (hs ws:List Str) (rs:List yw) (row:List Str),d=.tup [.lst ?Az,.lst ?Bh,.lst ?AP,y9 row]/\GOk hs ws rs/\hs.length<=3/\1<=row.length/\row.length<=5
theorem Iu {x:Int}(h0:0<=x)(h3:x<3):∃ m n:Nat,atI [D.int 3,.int 1,.int 2] x=some (.int (m:Int))/\atI [D.int 3,.int 5,.int 4] x=some (.int (n:Int))/\1<=m/\m<=3/\1<=n/\n<=5:=by
 rcases (show x=0∨x=1∨x=2 by lia) with rfl|rfl|rfl
 .exact⟨3,3,rfl,rfl,?B,?B,?B,?B⟩
 .exact⟨1,5,rfl,rfl,?B,?B,?B,?B⟩
 .exact⟨2,4,rfl,rfl,?B,?B,?B,?B⟩
theorem xR:qy (y9 b) (.tup [])=decide (b=[]):=Vr (b:=[])
section
theorem kU:∀ {l:List yw} {t:Rat},l.foldl (JR h) t=t+QN h l
 |[],t=>by unfold QN;simp[Rat.add_zero]
 |r::l,t=>by
  unfold QN;rw[Yi,Yi,kU,kU (t:=JR h 0 r)];unfold JR;split <;> grind
end
end L3
namespace Law
open PySem L2 L3
section
variable (P w K mg base) in
abbrev sj:Prop:=OkF P w K mg base CX0 2 "_law_cell_at" ["_law_script", "_law_k"] (spP K 2 GT)
theorem xu (z:?AK)(d:Yo K mg "_law_cell_at" JZ ["_law_script", "_law_k"])  : ?KC:=by
 refine YJ d WH rfl fun f cdv A outer s H E hr ds r hC B hB=>?_;obtain⟨ns,k,rfl,rfl⟩:=hC;refine QT (ql (dX ?AO (FN z.len rfl ?A8))) ?_ ?_
 .intro hk;have hk:=of_decide_eq_true hk;refine YK (IY (n:=?Hd) ?A8 ?AO ?_) ?_
  .have hk':k<ns.length:=by lia
   show atI ns (k:Int)=some ?Hd;unfold atI ixN;rw[yc (by lia),yc ?A];show ns[((k:Int)).toNat]?=_;rw[qG,yv,yj hk'];rfl
  .rfl
 .intro hk;have hk:=of_decide_eq_false hk;refine ?AR;refine YK yx ?_;show D.int 0=D.int ?Hd;rw[yv,yG.mpr ?A];rfl
variable (P w K mg base) in
abbrev E9:Prop:=OkF P w K mg base CX0 2 "_law_whole" ["_law_found"] (spP K 1 Dp)
theorem cZ (z:?AK)(d:Yo K mg "_law_whole" Zz ["_law_found"])  : E9 P w K mg base:=by
 refine YJ d cq rfl fun f cdv A outer s H E hr ds r hC B hB=>?_;obtain⟨i,rfl,rfl⟩:=hC;refine YK (uY (J8 (k:=true) z.isinstance rfl ?A8 (J7 rfl z.int tI (v:=.ty "int") rfl) rfl (by rfl) ?M) fun _=>(wO (HF (J8 (k:=?AE) z.isinstance rfl ?A8 (J7 rfl z.bool DT (v:=.ty "bool") rfl) rfl (by rfl) ?M)))) ?_;rfl
variable (P w K mg base) in
abbrev sL:Prop:=OkF P w K mg base CX0 33 "_law_share" ["_law_top", "_law_bottom"] (spP K 2 mC)
theorem du (ht:?jC)(d:Yo K mg "_law_share" ze ["_law_top", "_law_bottom"])  : ?K2:=by
 refine YJ d JJ rfl fun f cdv A outer s H E hr ds r hC B hB=>?_;obtain⟨t,b,rfl,rfl,h1,h2⟩:=hC;have py:Pyl (cx0 P w K mg base ["_law_top", "_law_bottom", "_law_one", "_law_other", "_law_rest"] "_law_share" ze f cdv A outer s H E):=(?Ic).nox;have g0:=My.G_pos (a:=t) h2;refine YM (i:=2) JJ.nd rfl ?A2 ?A8 ?_;refine YM (i:=3) JJ.nd rfl ?A2 ?AO ?_;refine cf PassesOwn.never (fun Γ _=>∃ (x y:Int) (z:Option D),Γ=[some (.int t),some (.int b),some (.int x),some (.int y),z]/\0<=x/\0<=y/\My.G x y=My.G t b) (fun Γ _=>match Γ with|[_,_,_,some (.int y),_]=>y.toNat|_=>0) ⟨t,b,none,rfl,h1,yQ h2,rfl⟩ ?_;rintro Γ Ω ⟨x,y,z,rfl,hx,hy,hg⟩;refine⟨_,(ql (o6 ?AZ yx)),fun hk=>?_,fun hk=>?_⟩
 .have hk:=of_decide_eq_true hk;refine YM (i:=4) JJ.nd rfl ?A2 (wG ?AT ?AZ ?_) ?_
  .exact hk
  refine YM (i:=2) JJ.nd rfl ?A2 ?AZ ?_;refine YM (i:=3) JJ.nd rfl ?A2 ?AX ?_;refine y8 ⟨⟨y,x % y,_,rfl,hy,(ZU hk).1,(nR hx hk).trans hg⟩,?_⟩;have:=ZU (a:=x) hk;show(x % y).toNat<y.toNat
  lia
 .have hk:=of_decide_eq_false hk;have y0:y=0:=by lia
  subst y0;rw[My.G_end hx] at hg;subst hg;refine ?KI
  .exact g0
  .exact g0
  show D.tup [D.int (t / My.G t b),D.int (b / My.G t b)]=sh ?Cp;unfold sh;rw[←My.num_share h2,←My.den_share h2,Ym _ (yQ g0),Ym _ (yQ g0)]
variable (P w K mg base) in
abbrev bU:Prop:=OkF P w K mg base CX0 34 "_law_timed" ["_law_one", "_law_other"] (spP K 2 mF)
theorem bh  (d:Yo K mg "_law_timed" ZA ["_law_one", "_law_other"])(Kx:?K2):?H2:=by
 refine YJ d cE rfl fun f cdv A outer s H E hr ds r hC B hB=>?_;obtain⟨p,q,m,n,rfl,rfl,hp,hq,s1,s2,l1,l2,-⟩:=hC;refine YK (Yk (d:=sh (p*q)) Kx ?A3 rfl (yb ?FR (yb ?FR yq)) ?_) ?_
 .exact Aq s1 s2 l1 l2
 .exact h7 s1 s2 l1 l2
 .exact⟨_,_,rfl,by rw[My.q_mul],Jc (My.q_num_nn hp) (My.q_num_nn hq),AA⟩
 .rfl
variable (P w K mg base) in
abbrev ip:Prop:=OkF P w K mg base CX0 2 "_law_dice" ["_law_cell"] Bz
theorem fm (d:Yo K mg "_law_dice" vg ["_law_cell"]):?K5:=by
 refine d.ok (k:=1) fQ (fun vs H Q E h=>?_) (fun f cdv A outer s H vs Q E hr h=>⟨_,oi (cH (tX (vx (uU cr (pv 0) VO) UA))),?_⟩)
 .obtain⟨c,rfl,_⟩:=h;rfl
 .obtain⟨c,rfl,q⟩:=h;have m:=ZU (a:=c) (show(0:Int)<2147483647 by decide);exact⟨_,rfl,_,_,rfl,rfl,(by show(0:Int)<2147483647;decide),(by show 1<=sizeLine;decide),fun p hp=>q p _ hp m.1 m.2⟩
variable (P w K mg base) in
abbrev Xi:Prop:=OkF P w K mg base CX0 2 "_law_roll" ["_law_dice_here", "_law_most_here"] Bg
theorem eP (d:Yo K mg "_law_roll" Z5 ["_law_dice_here", "_law_most_here"]):?Fz:=by
 refine d.ok (k:=1) eV (fun vs H Q E h=>?_) (fun f cdv A outer s H vs Q E hr h=>⟨_,qm (gO (uU cr (uU hZ (uU nE (nQ Ua (pv 0) VO ?yH) VO) VO) VO) (Cp (pv 0) VO Bp)) (oi (cH (uU cr (uU CQ (nQ Ua (pv 0) VO ?yH) VO) (pv 1)))),?_⟩)
 .obtain⟨a,m,x,rfl,_⟩:=h;rfl
 .obtain⟨a,m,x,rfl,h1,h2,hH,x0,x1,q⟩:=h;have mm:=ZU (a:=x*48271+11) (show(0:Int)<2147483647 by decide);have mr:=ZU (a:=(x*48271+11) % 2147483647 / 7) h1;refine⟨_,rfl,a,_,_,_,rfl,rfl,SqL.of hH,Jo (j:=0) rfl,_,_,rfl,rfl,aC ?B,_,_,rfl,rfl,_,_,rfl,rfl,(by show(0:Int)<2147483647;decide),?_⟩;refine⟨_,rfl,a,_,_,0,rfl,rfl,hH,rfl,?_⟩;refine⟨_,rfl,a,_,_,_,rfl,rfl,SqL.of yT,Jo (j:=0) rfl,_,_,rfl,rfl,(by constructor <;> decide),_,rfl,_,_,rfl,rfl,h1,?_⟩;exact q _ _ mm.1 mm.2 mr.1 mr.2
variable (P w K mg base) in
abbrev AN:Prop:=OkF P w K mg base CX0 33 "_law_symbols" ["_law_cell", "_law_many"] (spP K 2 pX)
theorem xI (ht:?jC)(z:?AK)(d:Yo K mg "_law_symbols" j8 ["_law_cell", "_law_many"])  : AN P w K mg base:=by
 refine YJ d qC rfl fun f cdv A outer s H E hr ds r hC B hB=>?_;obtain⟨c,m,rfl,rfl,hm⟩:=hC;have py:Pyl (cx0 P w K mg base ["_law_cell", "_law_many", "_law_letters", "_law_size", "_law_at", "_law_out", "_law_k", "_law_name", "_law_place", "_law_step"] "_law_symbols" j8 f cdv A outer s H E):=(?Ic).nox;refine YM (i:=2) qC.nd rfl ?A2 K4 ?_;refine YM (i:=3) qC.nd rfl ?A2 (J0 yx (wG ?A8 yx ?_)) ?_
 .decide
 have p8:0<1+c % 8:=by lia
 refine YM (i:=4) qC.nd rfl ?A2 (wG (Jn py ?A8 yx ?_) ?AZ ?_) ?_
 .decide
 .exact p8
 refine wR (i:=5) qC.nd rfl ?A2 (VT yq) fun l=>?_;refine jo PassesOwn.never rfl (Vw (n:=m) z.range rfl ?AO ?_ ?_) (fun k Γ Ω=>∃ x6 x7 x8 x9,Γ=[some (.int c),some (.int (m:Int)),some (.str Bi),some (.int (1+c % 8)),some (.int (c / 8 % (1+c % 8))),some ?Ak,x6,x7,x8,x9]/\Ω=[(l,QO K (yO ((?Cs).map (KR c))))]) ?_ ?_ ?_
 .rfl
 .lia
 .exact⟨_,_,_,_,rfl,rfl⟩
 .rintro k d Γ Ω hd ⟨x6,x7,x8,x9,rfl,rfl⟩;obtain⟨hk,rfl⟩:=zu hd;rw[qK];refine⟨_,(Yn (i:=6) qC.nd rfl ?A2),?_⟩;refine YM (i:=7) qC.nd rfl ?A2 K4 ?_;refine jo PassesOwn.never rfl (Vw (n:=szC c) z.range rfl ?AZ ?_ ?_) (fun p Γ Ω=>∃ x8 x9,Γ=[some (.int c),some (.int (m:Int)),some (.str Bi),some (.int (1+c % 8)),some (.int (c / 8 % (1+c % 8))),some ?Ak,some (.int (k:Int)),some (.str ⟨(ut c k p).toArray⟩),x8,x9]/\Ω=[(l,QO K (yO ((?Cs).map (KR c))))]) ?_ ?_ ?_
  .exact(Fy c).symm
  .have:=gK c;lia
  .exact ?KA
  .rintro p d Γ Ω hd ⟨x8,x9,rfl,rfl⟩;obtain⟨hp,rfl⟩:=zu hd;rw[qK];have hz:=gK c;refine⟨_,(Yn (i:=8) qC.nd rfl ?A2),?_⟩;refine YM (i:=9) qC.nd rfl ?A2 (J0 (wG (Jn py ?A8 yx ?_) yx ?_) (JS yx ?Di ?_)) ?_
   .decide
   .decide
   .exact aC ?A
   refine Fa (fun Γ Ω=>∃ q:Int,q=(stp c k p:Nat)/\Γ=[some (.int c),some (.int (m:Int)),some (.str Bi),some (.int (1+c % 8)),some (.int (c / 8 % (1+c % 8))),some ?Ak,some (.int (k:Int)),some (.str ⟨(ut c k p).toArray⟩),some (.int (p:Int)),some (.int q)]/\Ω=[(l,QO K (yO ((?Cs).map (KR c))))]) (ql (v8 ?Di ?AX)) ?_ ?_ ?_
   .intro hk2;have hk2:=of_decide_eq_true hk2;refine YM (i:=9) qC.nd rfl ?A2 (J0 (pq 9 rfl) ?BE) ?_;refine y8 ⟨_,?_,rfl,rfl⟩;unfold stp;rw[yc (by have:=BN c;lia)];have:=B5 c;push_cast;lia
   .intro hk2;have hk2:=of_decide_eq_false hk2;refine y8 ⟨_,?_,rfl,rfl⟩;unfold stp;rw[yd (by have:=BN c;lia)];have:=B5 c;push_cast;lia
   .rintro Γ Ω ⟨q,hq,rfl,rfl⟩;refine YM (i:=7) qC.nd rfl ?A2 (Gd (pq 7 rfl) (IL (c:=lt (stp c k p % 52)) ?AT (wG (pq 9 rfl) yx ?_) ?_ ?_) ?_) ?_
    .decide
    .decide +kernel
    .exact C8 q hq
    .rw[sizeLine_eq];show(ut c k p).toArray.size+1<=_;rw[yP,W7];lia
    exact y8 ⟨_,_,by rw[oR,←rO];rfl,rfl⟩
  .rintro Γ Ω ⟨x8,x9,rfl,rfl⟩;rw[jF];refine Va (i:=5) rfl ?A2 rfl (pq 7 rfl) (by rw[YL,yf,List.length_range,sizeLine_eq];lia) ?_;refine y8 ⟨_,_,_,_,rfl,?_⟩;rw[YC,yH];unfold yO;rw[yH];rfl
 .rintro Γ Ω ⟨x6,x7,x8,x9,rfl,rfl⟩;rw[jF];refine Zv (i:=5) rfl ?_;refine YK ?Bv ?_;rfl
variable (P w K mg base) in
abbrev tW:Prop:=OkF P w K mg base CX0 3 "_law_bodies" ["_law_dice_here", "_law_heads", "_law_words_here", "_law_first"] (spD K 4 oS Ab)
theorem Xr (z:?AK)(d:Yo K mg "_law_bodies" zl ["_law_dice_here", "_law_heads", "_law_words_here", "_law_first"])(QL:?Fz) :
  tW P w K mg base:=by
 refine fj d QV rfl fun f cdv A outer s H E hr a ds hC B=>?_;obtain⟨hs,ws,fb,rfl,hw,hl,wl⟩:=hC;refine wR (i:=4) QV.nd rfl ?A2 (VT yq) fun lo=>?_;refine xP PassesOwn.never rfl (KN z.range rfl (XV (YI yx ⟨_,rfl,VM QL ?A3 rfl ?A8 (by simp) yx ?B ?B fun r h1 h2=>⟨r,rfl,?Ir⟩⟩)));refine⟨fun i Γ Ω=>∃ (bs:List (List Str)) (x5 x6 x7 x8:Option D),bs.length<=i/\(0<i->bs≠[])/\bs.Nodup/\(∀ b∈bs,ie (hs++ws) b)/\Γ=[some (.raw (.ref a)),some ?BC,some ?D2,some (.bl fb),some ?G5,x5,x6,x7,x8]/\Ω=[(lo,QO K ?D0),(a,Zq)],⟨[],_,_,_,_,yg _,fun h=>absurd h ?A,Qw,fun b hb=>absurd hb (by simp),rfl,rfl⟩,?_,?_⟩
 .rintro i d Γ Ω hd ⟨bs,x5,x6,x7,x8,hbl,hb0,hbn,hbo,rfl,rfl⟩;obtain⟨hi,rfl⟩:=bi hd;refine⟨_,(Yn (i:=5) QV.nd rfl ?A2),?_⟩;refine YM (i:=6) QV.nd rfl ?A2 (qM yq) ?_;refine xP PassesOwn.never rfl (KN z.range rfl (XV (YI yx ⟨_,rfl,lX (YI (km (yb yx (yb yx (yb yx (yb yx ?DH))))) ⟨_,rfl,VM QL ?A3 rfl ?A8 (by simp) yx ?B ?B fun r2 g1 g2=>?_⟩)⟩)));obtain⟨w2,w0,w3,hw2⟩:=GR g1 g2;refine⟨r2,_,rfl,hw2,w2,rfl,?Ir⟩;refine⟨fun j Γ Ω=>∃ (b:List Str) (x7 x8:Option D),b.length=j/\(∀ x∈b,x∈hs++ws)/\Γ=[some (.raw (.ref a)),some ?BC,some ?D2,some (.bl fb),some ?G5,some ?yU,some (y9 b),x7,x8]/\Ω=[(lo,QO K ?D0),(a,Zq)],⟨[],_,_,rfl,fun x hx=>absurd hx (by simp),rfl,rfl⟩,?_,?_⟩
  .rintro j d Γ Ω hd ⟨b,x7,x8,hbj,hbx,rfl,rfl⟩;obtain⟨hj,rfl⟩:=bi hd;refine⟨_,(Yn (i:=7) QV.nd rfl ?A2),?_⟩;refine YM (i:=8) QV.nd rfl ?A2 (aK ?AO ?AT ?_) ?_
   .rw[YL,YL,sizeLine_eq];lia
   refine Fa (fun Γ Ω=>∃ so:List Str,so≠[]/\so.length<=7/\(∀ x∈so,x∈hs++ws)/\Γ=[some ?Bg,some ?BC,some ?D2,some (.bl fb),some ?G5,some ?yU,some (y9 b),some ?qR,some (.lst (yO so))]/\Ω=[(lo,QO K ?D0),(a,Zq)]) (PW3.t (iT (ql (v8 ?Bv yx)) fun _=>(cJ (jn ?AZ)))) ?_ ?_ ?_
   .intro _;refine YM (i:=8) QV.nd rfl ?A2 ?AT ?_;exact y8 ⟨ws,hw,?A,fun x hx=>y6 _ hx,rfl,rfl⟩
   .intro _;refine y8 ⟨hs++ws,by simp[hw],by rw[yI];lia,fun x hx=>hx,?_,rfl⟩;rw[show yO (hs++ws)=yO hs++yO ws by unfold yO;rw[yH]];rfl
   .rintro Γ Ω ⟨so,s0,s1,s2,rfl,rfl⟩;have sp:0<so.length:=Qc.mpr s0;refine QB (i:=6) QV.nd rfl ?A2 (HB fy (YI ?BE (oJ (jY (lX (YI ?Di ⟨_,rfl,VM QL ?A3 rfl ?A8 (by simp) (zS z.len rfl ?Di) ?jQ ?jQ fun r3 c1 c2=>?_⟩))))));rw[YL] at c2;obtain⟨x,hx,ex⟩:=Ee c1 c2;refine⟨r3,_,rfl,ex,VE yq ⟨by (simp only[yi,Yz];decide),_,o8 (by rw[yf,hbj,sizeLine_eq];simp;lia),?_⟩⟩;refine y8 ⟨b++[x],some ?qR,some (.lst (yO so)),by rw[yI,hbj];rfl,fun y hy=>?_,?_,rfl⟩
    .rcases Yw.mp hy with q|q
     .exact hbx y q
     .rw[yE.mp q];exact s2 x hx
    .unfold y9;rw[yH];rfl
  .rintro Γ Ω ⟨b,x7,x8,hbj,hbx,rfl,rfl⟩;rw[Wt] at hbj;have bo:ie (hs++ws) b:=⟨?A,?A,hbx⟩
   refine wL (mV (Γ':=[some ?Bg,some ?BC,some ?D2,some (.bl fb),some (.lst ?D0),some ?yU,some (y9 b),x7,x8]) (ql (Ue hr.units ?BE ?AX ?A2 ?_)) (ZB (i:=4) Q0 rfl (yo ..) UD) ?xH)
   .exact i9
   .rw[aM] at hk;have hn:b∉bs:=by simpa using hk
    refine Va (i:=4) rfl ?A2 rfl ?BE (by rw[yf,sizeLine_eq];lia) ?_;refine y8 (y8 ⟨bs++[b],_,_,_,_,by rw[yI];exact je hbl,fun _=>by simp,?_,fun c hc=>?_,rfl,?_⟩)
    .rw[Yr];exact⟨hbn,by simp,fun x hx y hy e=>hn (by rw[←yE.mp hy,←e];exact hx)⟩
    .rcases Yw.mp hc with q|q
     .exact hbo c q
     .rw[yE.mp q];exact bo
    .rw[yH];rfl
   .rw[aM] at hk;have hn:b∈bs:=by simpa using hk
    exact y8 (y8 ⟨bs,_,_,_,_,?A,fun _=>List.ne_nil_of_mem hn,hbn,hbo,rfl,rfl⟩)
 .rintro Γ Ω ⟨bs,x5,x6,x7,x8,hbl,hb0,hbn,hbo,rfl,rfl⟩;rw[Wt] at hbl hb0;refine Zv (i:=4) rfl ?_;exact YK ?AX ⟨⟨hs,ws,fb,bs,rfl,rfl,hb0 ?A,?A,hbn,hbo⟩,rfl⟩
variable (P w K mg base) in
abbrev Co:Prop:=OkF P w K mg base CX0 34 "_law_rules" ["_law_dice_here", "_law_heads", "_law_words_here"] (spD K 3 o7 rR)
theorem bB (z:?AK)(d:Yo K mg "_law_rules" zk ["_law_dice_here", "_law_heads", "_law_words_here"])(QL:?Fz)(dE:tW P w K mg base)
  (Kx:?K2):Co P w K mg base:=by
 refine fj d jR rfl fun f cdv A outer s H E hr a ds hC B=>?_;obtain⟨hs,ws,rfl,hw,hl,wl⟩:=hC;refine wR (i:=3) jR.nd rfl ?A2 (VT yq) fun lo=>?_;refine jo PassesOwn.never rfl (Qy ?AO) (fun i Γ Ω=>∃ (ps:List (Str×Grp)) (x4 x5 x6 x7 x8:Option D),ps.map ?C=hs.take i/\(∀ p∈ps,GrpOk (hs++ws) p.2)/\Γ=[some ?Bg,some ?BC,some ?D2,some ?G5,x4,x5,x6,x7,x8]/\Ω=[(lo,QO K (yL (ve ps))),(a,Zq)]) ⟨[],_,_,_,_,_,rfl,fun p hp=>absurd hp (by simp),rfl,rfl⟩ ?_ ?_
 .rintro i d Γ Ω hd ⟨ps,x4,x5,x6,x7,x8,hp,hg,rfl,rfl⟩;obtain⟨h,hh,rfl⟩:=jH hd;have hi:i<hs.length:=(yk.mp hh).1;have pl:ps.length<=4:=by have:=congrArg List.length hp;rw[yf,Yh] at this;lia
  have fl:=W5 (ps:=ps) fun p hp=>(hg p hp).le;refine⟨_,(Yn (i:=4) jR.nd rfl ?A2),?_⟩;refine QB (i:=5) jR.nd rfl ?A2 (m9 dE ?A3 rfl (pqc 0 rfl) (by simp) (jY (YI ?AO (jY (YI ?AT (jY (IN EN (VM QL ?A3 rfl (pqc 0 rfl) (by simp) yx ?B ?B fun r h1 h2=>YI yx ⟨decide (0<r),pS (g:=fun i j=>decide (j<i)),VE yq ⟨rfl,rfl,⟨hs,ws,_,rfl,hw,hl,wl⟩,fun d hd=>?_⟩⟩))))))));obtain⟨hs',ws',fb',bs,e1,rfl,hb⟩:=hd;simp only[List.cons.injEq,D.lst.injEq,and_true] at e1;obtain⟨e1,e2,-⟩:=e1;cases zg e1;cases zg e2;refine Dd (i:=6) (SX:=yp zk) (XN:=["_law_dice_here", "_law_heads", "_law_words_here", "_law_out", "_law_head", "_law_bodies_here", "_law_weights", "_law_body", "_law_weight"]) (N:=["_law_body", "_law_dice_here"]) (nt:=1) (caps:=[0]) ?Dn jR.nd rfl ?A2 (DM (Qy ?Bv) ?_);refine⟨fun m gs Ω'=>m<=3/\∃ ns:List Int,ns.length=m/\gs=ns.map D.int/\(∀ x∈ns,1<=x/\x<=5)/\Ω'=[(lo,QO K (yL (ve ps))),(a,Zq)],⟨by lia,[],rfl,rfl,fun x hx=>absurd hx (by simp),rfl⟩,?_,?_,?_⟩
  .rintro m gs Ω' ⟨hm,ns,hn,rfl,_⟩;rw[yf,hn,sizeLine_eq];lia
  .rintro c m d gs Ω' hd ⟨hm,ns,hn,rfl,hx,rfl⟩;have hm':m<bs.length:=by have:=(?GP).1;rwa [yf] at this
   have hb3:=hb.2.1;refine⟨_,(Yn (i:=0) (show List.Nodup (α:=Str) ["_law_body", "_law_dice_here"] by decide +kernel) rfl ?A2),?D4,fun q=>XV (YI yx ⟨_,rfl,VM QL ?A3 rfl ?EK (by simp) yx ?B ?B fun r h1 h2=>⟨r,rfl,_,?Ad,?A,ns++[1+r],by rw[yI,hn];rfl,by rw[yH];rfl,fun x hx'=>?_,rfl⟩⟩)⟩;rcases Yw.mp hx' with y|y
   .exact hx x y
   .rw[yE.mp y];lia
  .rintro lp gs Ω' ⟨-,ns,hn,rfl,hx,rfl⟩;rw[yf] at hn;refine Zv (i:=6) rfl ?_;have gk:=Fw hb hn hx;refine jo PassesOwn.never rfl (tY z.zip rfl ?Bv ?BE) (fun j Γ Ω=>∃ x7 x8:Option D,Γ=[some ?Bg,some ?BC,some ?D2,some ?G5,some (.str h),some (.lst ?D0),some (.lst ?GG),x7,x8]/\Ω=[(lo,QO K (yL (ve ps++grp h (((?FK).map fun p=>?wC).take j)))),(a,Zq)]) ⟨_,_,rfl,by simp[grp]⟩ ?_ ?_
   .rintro j d Γ Ω hd ⟨x7,x8,rfl,rfl⟩;obtain⟨b,n,hbn,rfl⟩:=oW hd;have hj:j<(bs.zip ns).length:=(yk.mp hbn).1;have hnm:=hx n (Qu (yr hbn)).2;have hw0:0<ns.sum:=by
     have:=Ax hx;have b0:0<bs.length:=Qc.mpr hb.1;lia
    have gl:=gk.le;refine⟨_,(kL rfl (qR (Yn (i:=7) jR.nd rfl ?A2) (qR (Yn (i:=8) jR.nd rfl ?A2) vb))),?_⟩;refine Va (i:=3) rfl ?A2 rfl (qM (yb ?AX (yb (pq 7 rfl) (yb (Yk (d:=sh ?HD) Kx ?A3 rfl (yb ?Di (yb (Io rfl z.sum rfl ?BE) yq)) ⟨n,ns.sum,rfl,rfl,?A,hw0⟩) yq)))) ?_ ?_
    .rw[YW,yI,sizeLine_eq];unfold grp;rw[yf,Yh];lia
    .refine y8 ⟨_,_,rfl,?_⟩;rw[Yl (l:=(?FK).map fun p=>?wC) (x:=(b,?HD)) (by rw[yC,hbn];rfl),gQ];rfl
   .rintro Γ Ω ⟨x7,x8,rfl,rfl⟩;refine y8 ⟨ps++[(h,(?FK).map fun p=>?wC)],_,_,_,_,_,?_,fun p hp'=>?_,rfl,?_⟩
    .rw[yH,hp,Yl hh];rfl
    .rcases Yw.mp hp' with q|q
     .exact hg p q
     .rw[yE.mp q];exact gk
    .rw[rG,List.take_of_length_le (by rw[yf];exact yg _)];unfold ve
     rw[Qf];simp
 .rintro Γ Ω ⟨ps,x4,x5,x6,x7,x8,hp,hg,rfl,rfl⟩;rw[YL,yM] at hp;refine Zv (i:=3) rfl ?_;exact YK ?AZ ⟨⟨hs,ws,ps,rfl,rfl,hp,hg⟩,rfl⟩
variable (P w K mg base) in
abbrev AK:Prop:=OkF P w K mg base CX0 35 "_law_made" ["_law_cell", "_law_other", "_law_most_here"] (UV K)
theorem eC (z:?AK)(d:Yo K mg "_law_made" vc ["_law_cell", "_law_other", "_law_most_here"])(XR:AN P w K mg base)(uz:?K5)(QL:?Fz)
  (gx:Co P w K mg base):AK P w K mg base:=by
 refine Dc d Zk rfl fun f cdv A outer s H E hr c o m h1 h2 B hB=>?_;refine YM (i:=3) Zk.nd rfl ?A2 (Yk (d:=.lst (yO ((List.range (m+3)).map (KR o)))) XR ?A3 rfl (yb ?AO (yb (J0 ?AT yx) yq)) ?_) ?_
 .exact⟨o,m+3,by push_cast;rfl,rfl,?A⟩
 have sl:((List.range (m+3)).map (KR o)).length=m+3:=by simp
 have nd:=iq (c:=o) (n:=m+3) ?A;have sy:∀ x∈(List.range (m+3)).map (KR o),ki x:=fun x hx=>by
  obtain⟨k,_,rfl⟩:=yA.mp hx;exact Hq o k
 generalize (List.range (m+3)).map (KR o)=ss at sl nd sy;refine QB (i:=4) Zk.nd rfl ?A2 (BM uz ?A3 rfl ?A8 fun l=>?_);refine QB (i:=5) Zk.nd rfl ?A2 (EA ?AZ (XV (YI yx ⟨_,rfl,VM QL ?A3 rfl ?AX (by simp) ?AT ?A ?A fun r g1 g2=>⟨r,rfl,_,rfl,?_⟩⟩)));obtain⟨n,rfl⟩:=YR g1;rw[show(1:Int)+((n:Nat):Int)=((1+n:Nat):Int) by push_cast;rfl,WN ?jQ,aJ];refine QB (i:=6) Zk.nd rfl ?A2 (eF ?AZ ?AT (XV (YI (J0 ?AT yx) ⟨_,rfl,VM QL ?A3 rfl ?AX (by simp) yx ?B ?B fun r2 g3 g4=>⟨r2,rfl,_,rfl,?_⟩⟩)));obtain⟨n2,rfl⟩:=YR g3;rw[show(m:Int)+1+((n2:Nat):Int)=((m+1+n2:Nat):Int) by push_cast;rfl,l8 ?jQ ?jQ,pd,aJ,show m+1+n2 - m=1+n2 by lia];have nd2:(ss.take (1+n)++(ss.drop m).take (1+n2)).Nodup:=by
  rw[Yr];refine⟨nd.sublist (qF _ _),nd.sublist ((qF _ _).trans (List.drop_sublist _ _)),fun x hx y hy e=>?_⟩;subst e;have hy':=jT hy;have hx':x∈ss.take m:=(List.take_subset_take_left ss ?A) hx;have nd':=nd;rw[←Qi m ss,Yr] at nd';exact nd'.2.2 x hx' x hy' rfl
 have sy2:∀ x∈ss.take (1+n)++(ss.drop m).take (1+n2),ki x:=fun x hx=>by
  rcases Yw.mp hx with q|q
  .exact sy x (jT q)
  .exact sy x (List.mem_of_mem_drop (jT q))
 have l1:(ss.take (1+n)).length=1+n:=by rw[Yh,sl];lia
 have l2:((ss.drop m).take (1+n2)).length=1+n2:=by rw[Yh,Qx,sl];lia
 generalize ss.take (1+n)=hs at nd2 sy2 l1;generalize (ss.drop m).take (1+n2)=ws at nd2 sy2 l2;have h0:hs≠[]:=fun e=>by rw[e,Yz] at l1;lia
 have w0:ws≠[]:=fun e=>by rw[e,Yz] at l2;lia
 refine ZG (oJ (jY (YI ?Bv (jY (YI ?BE (jY (m9 gx ?A3 rfl ?AX (by simp) (VE (yb ?Bv (yb ?BE yq)) ⟨rfl,rfl,⟨hs,ws,rfl,w0,?A,?A⟩,fun d hd=>VE yq ⟨by (simp only[yi,Yz];decide),?_⟩⟩))))))));obtain⟨hs',ws',ps,e1,rfl,hp,hg⟩:=hd;simp only[List.cons.injEq,D.lst.injEq,and_true] at e1;cases zg e1.1;cases zg e1.2;exact⟨hs,ws,ve ps,Es nd2 sy2 h0 w0 ?A ?A hp hg,?A,rfl⟩
variable (P w K mg base) in
abbrev Bm:Prop:=OkF P w K mg base CX0 3 "_law_row" ["_law_cell", "_law_words_here", "_law_most_here"] (spR K 3 Hi EH)
theorem i8 (z:?AK)(d:Yo K mg "_law_row" Z1 ["_law_cell", "_law_words_here", "_law_most_here"])(uz:?K5)(QL:?Fz):Bm P w K mg base:=by
 refine AM d xm rfl fun f cdv A outer s H E hr ds hC B hB=>?_;obtain⟨c,ws,m,rfl,w0,wl,m1,m5⟩:=hC;have wp:0<ws.length:=Qc.mpr w0;refine QB (i:=3) xm.nd rfl ?D7 (BM uz ?A3 rfl ?A8 fun l=>?_);refine ZG (A3 z.tuple rfl (V3.frozen (FG (SX:=yp Z1) (XN:=["_law_cell", "_law_words_here", "_law_most_here", "_law_dice_here"]) (N:=["_law_k", "_law_words_here", "_law_dice_here"]) (nt:=1) (caps:=[1,3]) ?Dn (KN z.range rfl (XV (YI yx ⟨_,rfl,VM QL ?A3 rfl (pqc 3 rfl) (by simp) ?AT ?A ?A fun r h1 h2=>⟨r,rfl,?Ir⟩⟩))))));refine⟨fun j gs Ω'=>j<=5/\∃ row:List Str,row.length=j/\gs=row.map D.str/\(∀ x∈row,x∈ws)/\Ω'=[(l,Zq)],⟨by lia,[],rfl,rfl,fun x hx=>absurd hx (by simp),rfl⟩,?_,?_,?_⟩
 .rintro j gs Ω' ⟨hj,row,hl,rfl,_⟩;rw[yf,hl,sizeLine_eq];lia
 .rintro cc j d gs Ω' hd ⟨hj,row,hl,rfl,hx,rfl⟩;obtain⟨hi,rfl⟩:=bi hd;refine⟨_,(Yn (i:=0) (show List.Nodup (α:=Str) ["_law_k", "_law_words_here", "_law_dice_here"] by decide +kernel) rfl ?A2),?D4,fun q=>lX (YI ?EK ⟨_,rfl,VM QL ?A3 rfl ?EJ (by simp) (zS z.len rfl ?EK) ?jQ ?jQ fun r3 c1 c2=>?_⟩)⟩;rw[YL] at c2;obtain⟨x,hx',ex⟩:=Ee c1 c2;refine⟨r3,_,rfl,ex,_,?Ad,?A,row++[x],by rw[yI,hl];rfl,by rw[yH];rfl,fun y hy=>?_,rfl⟩;rcases Yw.mp hy with q|q
  .exact hx y q
  .rw[yE.mp q];exact hx'
 .rintro a gs Ω' ⟨-,row,hl,rfl,hx,rfl⟩;rw[Wt] at hl;exact⟨a,_,_,rfl,rfl,_,rfl,GO ?A ?A hx⟩
end
section
variable (P w K mg base) in
abbrev tK:Prop:=OkF P w K mg base CX0 2 "is_letter" ["sign"] (spP K 1 tH)
theorem cF  (d:Yo K mg "is_letter" za ["sign"])  : tK P w K mg base:=by
 refine YJ d bq rfl fun f cdv A outer s H E hr ds r hC B hB=>?_;obtain⟨c,rfl,rfl⟩:=hC;refine YK (HR (fZ K4 ?A8 K4) fun _=>(wO (fZ K4 ?A8 K4))) ?_;show D.bl ((leS "a" ?zS&&leS ?zS "z")||(leS "A" ?zS&&leS ?zS "Z"))=D.bl (K6 c);rw[E6 (n:=97) (by decide +kernel),EJ (n:=122) ?D,E6 (n:=65) ?D,EJ (n:=90) ?D];rfl
variable (P w K mg base) in
abbrev Cq:Prop:=OkF P w K mg base CX0 3 "is_symbol" ["text"] (spP K 1 Dj)
theorem bD (z:?AK)(Q9:qV K mg "MOST_LETTERS" (.int 8))(d:Yo K mg "is_symbol" Jw ["text"])(gu:tK P w K mg base):Cq P w K mg base:=by
 refine YJ d cK rfl fun f cdv A outer s H E hr ds r hC B hB=>?_;obtain⟨x,rfl,rfl,h1,h2⟩:=hC;have hl:x.length=x.cps.size:=rfl;refine YK (uY (pI yx (Gh z.len rfl ?A8 ?_) (qo Q9 rfl)) fun _=>(wO (EG rfl z.all rfl (PF3.p (jX (SX:=yp Jw) (XN:=["text"]) (N:=["sign"]) (nt:=1) (caps:=[]) (pre:=(fun i=>((x.cps.toList.take i).map K6).map D.bl)) ?Dn (FD ?A8 ?_) ?_ ?_ ?_))))) ?_
 .rw[hl,sizeLine_eq];lia
 .exact h2
 .intro i hi;rw[yf,yf,Yh,sizeLine_eq];simp only[Array.length_toList];lia
 .rfl
 .intro c i d hd;obtain⟨n,hn,rfl⟩:=ph hd;refine⟨_,(Yn (i:=0) (show List.Nodup (α:=Str) ["sign"] by decide +kernel) rfl ?A2),?D4,.inl ⟨.bl (K6 n),zB,(Yk (d:=.bl (K6 n)) gu ?A3 rfl (yb ?A8 yq) ?_),?_⟩⟩
  .exact⟨n,rfl,rfl⟩
  .dsimp only;rw[Yl hn,yH,yH];rfl
 show D.bl _=D.bl _;congr 1;rw[pY,←Array.length_toList,yM,List.all_map,YH,xl];simp only[Yg,Y4,jM,ki];rw[hl];constructor
 .intro h;exact⟨?A,?A,fun c hc=>h.2 c hc⟩
 .intro h;exact⟨⟨?A,?A⟩,fun c hc=>h.2.2 c hc⟩
variable (P w K mg base) in
abbrev BG:Prop:=OkF P w K mg base CX0 4 "check_symbol" ["text"] (spP K 1 Az)
theorem We (z:?AK)(Q9:qV K mg "MOST_LETTERS" (.int 8))(d:Yo K mg "check_symbol" jL ["text"])(gw:Cq P w K mg base):BG P w K mg base:=by
 refine YJ d Wb rfl fun f cdv A outer s H E hr ds r hC B hB=>?_;obtain⟨x,rfl,rfl,hx⟩:=hC;have e:bQ x=true:=xl.mpr hx;refine QT (vD (jn (Yk (d:=.bl (bQ x)) gw ?A3 rfl (yb ?A8 yq) ?_))) ?_ ?_
 .exact⟨x,rfl,rfl,by have:=hx.2.1;lia,pW hx⟩
 .intro hk;rw[e] at hk;exact absurd hk ?B
 .intro _;exact y8 (y8 rfl)
variable (P w K mg base) in
abbrev tV:Prop:=OkF P w K mg base CX0 5 "check_rule" ["rule"] (spP K 1 FA)
theorem Xo (z:?AK)(yZ:?X)(JG:qV K mg "MOST_SYMBOLS" (.int 4))(d:Yo K mg "check_rule" JN ["rule"])(Kv:BG P w K mg base):tV P w K mg base:=by
 refine YJ d K1 rfl fun f cdv A outer s H E hr ds r hC B hB=>?_;obtain⟨r,rfl,rfl,h1,h2,h3,h4,h5⟩:=hC;refine cX (Yk (d:=.non) Kv ?A3 rfl (yb (y7 (pq 0 rfl) yx rfl) yq) ?_) ?_
 .exact⟨r.1,rfl,rfl,h1⟩
 refine QT (PW3.t (ko (ql (dX (jb z.len rfl (y7 (pq 0 rfl) yx rfl)) yx)) fun _=>(wj (ql (o6 (jb z.len rfl (y7 (pq 0 rfl) yx rfl)) (qo JG rfl)))))) ?_ ?_
 .intro hk;rw[show(r.2.1.map D.str).length=r.2.1.length from yf _] at hk;simp at hk;lia
 .intro _;refine ?AR;refine jo PassesOwn.never rfl (oP (y7 (pq 0 rfl) yx rfl)) (fun i Γ Ω=>∃ x,Γ=[some (zo r),x]/\Ω=[]) ⟨_,rfl,rfl⟩ ?_ ?_
  .rintro i d Γ Ω hd ⟨x,rfl,rfl⟩;obtain⟨y,hy,rfl⟩:=jH hd;refine⟨_,(Yn (i:=1) K1.nd rfl (.inl rfl)),?_⟩;refine cX (Yk (d:=.non) Kv ?A3 rfl (yb (pq 1 rfl) yq) ?_) ?_
   .exact⟨y,rfl,rfl,h4 y (yr hy)⟩
   exact y8 ⟨_,rfl,rfl⟩
  .rintro Γ Ω ⟨x,rfl,rfl⟩;refine QT (ql (XH hr.units (y7 (pq 0 rfl) yx rfl) (qo yZ rfl) zD zA)) ?_ ?_
   .intro hk;rw[JB] at hk;rw[of_decide_eq_true hk] at h5;exact absurd h5 ?B
   .intro _;exact y8 (y8 rfl)
variable (P w K mg base) in
abbrev Cr:Prop:=OkF P w K mg base CX0 6 "check_rules" ["rules"] (spP K 1 Db)
theorem xa (z:?AK)(zL:qV K mg "MOST_RULES" (.int 30))(d:Yo K mg "check_rules" Jb ["rules"])(dz:tV P w K mg base):Cr P w K mg base:=by
 refine YJ d va rfl fun f cdv A outer s H E hr ds r hC B hB=>?_;obtain⟨rs,rfl,rfl,h1,h2,h3,h4⟩:=hC;refine QT (PW3.t (ko (ql (dX (zS z.len rfl (pq 0 rfl)) yx)) fun _=>(wj (ql (o6 (zS z.len rfl (pq 0 rfl)) (qo zL rfl)))))) ?_ ?_
 .intro hk;rw[YW] at hk;simp at hk;lia
 .intro _;refine ?AR;refine QB (i:=1) va.nd rfl (.inl rfl) (ic fun l=>?_);refine jo PassesOwn.never rfl (Qy (pq 0 rfl)) (fun i Γ Ω=>∃ x,Γ=[some (.lst ?AP),some (.raw (.ref l)),x]/\Ω=[(l,ky P w K l (Ww ?E2))]) ⟨_,rfl,rfl⟩ ?_ ?_
  .rintro i d Γ Ω hd ⟨x,rfl,rfl⟩;obtain⟨r,hr',rfl⟩:=jx hd;have hn:=uj (f:=fun r:yw=>?zI) h4 hr';refine⟨_,(Yn (i:=2) va.nd rfl (.inl rfl)),?_⟩;refine cX (Yk (d:=.non) dz ?A3 rfl (yb (pq 2 rfl) yq) ?_) ?_
   .exact⟨r,rfl,rfl,h3 r (yr hr')⟩
   refine wL (GH hr.units (YI (qM (yb (y7 (pq 2 rfl) yx rfl) (yb (y7 (pq 2 rfl) yx rfl) yq))) ⟨Xp r,nq r,YI (pq 1 rfl) ⟨l,_,rfl,yE.mpr rfl,fun hk=>?_,fun _=>?_⟩⟩))
   .rw[eY hn] at hk;cases hk
   .refine ?AR;refine lD hr.units (YI uo (YI (pq 1 rfl) ⟨l,rfl,YI (qM (yb (y7 (pq 2 rfl) yx rfl) (yb (y7 (pq 2 rfl) yx rfl) yq))) ⟨Xp r,_,[],nq r,?Ad,?_,?_⟩⟩))
    .unfold Ww;rw[yf,Yh,sizeLine_eq];lia
    .refine y8 ⟨_,rfl,?_⟩;rw[Am hn,Yl hr'];rfl
  .rintro Γ Ω ⟨x,rfl,rfl⟩;exact y8 rfl
variable (P w K mg base) in
abbrev B9:Prop:=OkF P w K mg base CX0 2 "check_start" ["start", "heads"] (spP K 2 DV)
theorem xq  (d:Yo K mg "check_start" Jd ["start", "heads"])  : B9 P w K mg base:=by
 refine YJ d WC rfl fun f cdv A outer s H E hr ds r hC B hB=>?_;obtain⟨x,hs,rfl,rfl,hx⟩:=hC;refine QT (ql (Ue hr.units ?A8 ?AO ?A2 ?_)) ?_ ?_
 .exact Zm
 .intro hk;rw[J6,yK hx] at hk;cases hk
 .intro _;exact y8 (y8 rfl)
variable (P w K mg base) in
abbrev sW:Prop:=OkF P w K mg base CX0 34 "check_sums" ["heads", "rules"] (spP K 2 Fs)
theorem XA (yZ:?X)(zQ:?wL)(d:Yo K mg "check_sums" JL ["heads", "rules"])(Ut:?H8):sW P w K mg base:=by
 refine YJ d JY rfl fun f cdv A outer s H E hr ds r hC B hB=>?_;obtain⟨hs,rs,rfl,rfl,h1,h2,h3⟩:=hC;refine jo PassesOwn.never rfl (Qy (pq 0 rfl)) (fun i Γ Ω=>∃ x2 x3 x4,Γ=[some (.lst ?Az),some (.lst ?AP),x2,x3,x4]/\Ω=[]) ⟨_,_,_,rfl,rfl⟩ ?_ ?_
 .rintro i d Γ Ω hd ⟨x2,x3,x4,rfl,rfl⟩;obtain⟨h,hh,rfl⟩:=jH hd;refine⟨_,(Yn (i:=2) JY.nd rfl (.inl rfl)),?_⟩;refine YM (i:=3) JY.nd rfl (.inl rfl) (qo yZ rfl) ?_;refine jo PassesOwn.never rfl (Qy (pq 1 rfl)) (fun j Γ Ω=>∃ (t:Rat) (x4:Option D),(0<=t/\Sz (1+j*1001) t)/\t=QN h (rs.take j)/\Γ=[some (.lst ?Az),some (.lst ?AP),some (.str h),some (sh t),x4]/\Ω=[]) ⟨0,_,⟨?B,Uq⟩,rfl,rfl,rfl⟩ ?_ ?_
  .rintro j d Γ Ω hd ⟨t,x4,ht,et,rfl,rfl⟩;obtain⟨r,hr',rfl⟩:=jx hd;have hj:j<rs.length:=(yk.mp hr').1;have hq:=h3 r (yr hr');have ef:QN h (rs.take (j+1))=JR h t r:=by rw[Yl hr'];unfold QN at et ⊢;rw[yY,←et];rfl
   have ht':=Ey ht hq;refine⟨_,(Yn (i:=4) JY.nd rfl (.inl rfl)),?_⟩;refine QT (ql (X4 (y7 (pq 4 rfl) yx rfl) (pq 2 rfl))) ?_ ?_
   .intro hk;have hk:=of_decide_eq_true hk;refine YM (i:=3) JY.nd rfl (.inl rfl) (Yk (d:=sh (t+r.2.2)) Ut ?A3 rfl (yb (pq 3 rfl) (yb (y7 (pq 4 rfl) yx rfl) yq)) ?_) ?_
    .exact⟨t,r.2.2,1+j*1001,1000,rfl,rfl,ht.1,hq.1,ht.2,hq.2,by have:big=67108864:=rfl;lia,?B,?Bi⟩
    exact y8 (y8 ⟨_,_,ht',by rw[ef];exact(yc hk).symm,rfl,rfl⟩)
   .intro hk;have hk:=of_decide_eq_false hk;exact y8 (y8 ⟨t,_,⟨ht.1,ht.2.mono ?A⟩,by rw[ef];exact(yd hk).symm,rfl,rfl⟩)
  .rintro Γ Ω ⟨t,x4,ht,et,rfl,rfl⟩;rw[YW,yM,h2 h (yr hh)] at et;subst et;refine QT (ql (fE hr.units (pq 3 rfl) (qo zQ rfl) zD zA)) ?_ ?_
   .intro hk;rw[JB] at hk;simp at hk
   .intro _;exact y8 (y8 ⟨_,_,_,rfl,rfl⟩)
 .rintro Γ Ω ⟨x2,x3,x4,rfl,rfl⟩;exact y8 rfl
variable (P w K mg base) in
abbrev Cy:Prop:=OkF P w K mg base CX0 2 "heads_of" ["rules"] (spP K 1 DL)
theorem eU  (d:Yo K mg "heads_of" Za ["rules"])  : Cy P w K mg base:=by
 refine YJ d Kh rfl fun f cdv A outer s H E hr ds r hC B hB=>?_;obtain⟨rs,rfl,rfl,h1⟩:=hC;refine wR (i:=1) Kh.nd rfl ?A2 (VT yq) fun l=>?_;refine jo PassesOwn.never rfl (Qy ?A8) (fun i Γ Ω=>∃ (acc:List Str) (x:Option D),acc=(?E2).foldl Qg []/\acc.length<=i/\Γ=[some ?CH,some ?Ak,x]/\Ω=[(l,QO K (yO acc))]) ⟨[],_,rfl,yg _,rfl,rfl⟩ ?_ ?_
 .rintro i d Γ Ω hd ⟨acc,x,ea,la,rfl,rfl⟩;obtain⟨r,hr',rfl⟩:=jx hd;have hi:i<rs.length:=(yk.mp hr').1;have en:(rs.take (i+1)).foldl Qg []=Qg acc r:=by rw[Yl hr',yY,←ea];rfl
  refine⟨_,(Yn (i:=2) Kh.nd rfl ?A2),?_⟩;refine wL (mV (Γ':=[some ?CH,some (.lst (yO acc)),some (zo r)]) (ql (Ue hr.units ?Fr ?AO ?A2 ?_)) (ZB (i:=1) Q0 rfl ?Hm UD) ?xH)
  .exact Zm
  .rw[J6] at hk;have hn:r.1∉acc:=by simpa using hk
   refine Va (i:=1) rfl ?A2 rfl ?Fr (by rw[YL,sizeLine_eq];lia) ?_;refine y8 (y8 ⟨acc++[r.1],_,?_,?_,rfl,?_⟩)
   .rw[en];exact(yd hn).symm
   .rw[yI];exact je la
   .unfold yO;rw[yH];rfl
  .rw[J6] at hk;have hn:r.1∈acc:=by simpa using hk
   exact y8 (y8 ⟨acc,_,by rw[en];exact(yc hn).symm,?A,rfl,rfl⟩)
 .rintro Γ Ω ⟨acc,x,ea,la,rfl,rfl⟩;rw[YW,yM] at ea;refine Zv (i:=1) rfl ?_;refine YK ?AO ?_;rw[ea];rfl
variable (P w K mg base) in
abbrev lI:Prop:=OkF P w K mg base CX0 2 "is_live_body" ["body", "heads", "live"] (spP K 3 ir)
theorem Wg (z:?AK)(d:Yo K mg "is_live_body" Q8 ["body", "heads", "live"])  : ?K4:=by
 refine YJ d wY rfl fun f cdv A outer s H E hr ds r hC B hB=>?_;obtain⟨b,hs,L,rfl,rfl,h1⟩:=hC;refine YK (EG rfl z.all rfl (PF3.p (jX (SX:=yp Q8) (XN:=["body", "heads", "live"]) (N:=["symbol", "heads", "live"]) (nt:=1) (caps:=[1,2]) (pre:=(fun i=>((b.take i).map fun x=>decide (x∈L)||!decide (x∈hs)).map D.bl)) ?Dn (oP ?A8) ?_ ?_ ?_))) ?_
 .intro i hi;rw[yf,yf,Yh,sizeLine_eq];lia
 .rfl
 .intro c i d hd;obtain⟨x,hx,rfl⟩:=jH hd;refine⟨_,(Yn (i:=0) (show List.Nodup (α:=Str) ["symbol", "heads", "live"] by decide +kernel) rfl ?A2),?D4,.inl ⟨.bl (decide (x∈L)||!decide (x∈hs)),zB,(jS (HR (vZ (DG hr.units ?A8 ?EJ ?A2 ?_)) fun _=>(wO (vZ (Ue hr.units ?A8 ?EK ?A2 ?_)))) ?_),?_⟩⟩
  .exact Zm
  .exact Zm
  .rw[J6,J6]
  .dsimp only;rw[Yl hx,yH,yH];rfl
 .rw[show(b.map D.str).length=b.length from yf _,yM];show D.bl ((b.map fun x=>decide (x∈L)||!decide (x∈hs)).all id)=D.bl (Qs hs L b);rw[List.all_map];rfl
variable (P w K mg base) in
abbrev sS:Prop:=OkF P w K mg base CX0 3 "has_live_body" ["head", "rules", "heads", "live"] (spP K 4 pP)
theorem UC (z:?AK)(d:Yo K mg "has_live_body" QJ ["head", "rules", "heads", "live"])(zI:?K4):sS P w K mg base:=by
 refine YJ d UN rfl fun f cdv A outer s H E hr ds r hC B hB=>?_;obtain⟨h,rs,hs,L,rfl,rfl,h1,h2⟩:=hC;refine YK (Ir rfl z.any rfl (PF3.p (jX (SX:=yp QJ) (XN:=["head", "rules", "heads", "live"]) (N:=["rule", "head", "heads", "live"]) (nt:=1) (caps:=[0,2,3]) (pre:=(fun i=>((?E2).map fun r=>decide (r.1=h)&&Qs hs L r.2.1).map D.bl)) ?Dn (Qy ?AO) ?_ ?_ ?_))) ?_
 .intro i hi;rw[yf,yf,Yh,sizeLine_eq];lia
 .rfl
 .intro c i d hd;obtain⟨r,hr',rfl⟩:=jx hd;refine⟨_,(Yn (i:=0) (show List.Nodup (α:=Str) ["rule", "head", "heads", "live"] by decide +kernel) rfl ?A2),?D4,.inl ⟨.bl (decide (r.1=h)&&Qs hs L r.2.1),zB,(uY (vZ (X4 ?Bn ?EK)) fun _=>(wO (Yk (d:=.bl (Qs hs L r.2.1)) zI ?A3 rfl (yb ?Bn (yb ?EJ (yb (pqc 3 rfl) yq))) ?_))),?_⟩⟩
  .exact⟨r.2.1,hs,L,rfl,rfl,h2 r (yr hr')⟩
  .dsimp only;rw[Yl hr',yH,yH];rfl
 .rw[YW,yM];show D.bl ((rs.map fun r=>decide (r.1=h)&&Qs hs L r.2.1).any id)=D.bl (J3 rs hs L h);rw[List.any_map];rfl
variable (P w K mg base) in
abbrev B0:Prop:=OkF P w K mg base CX0 4 "live_of" ["heads", "rules"] (spP K 2 AJ)
theorem iP (z:?AK)(d:Yo K mg "live_of" zU ["heads", "rules"])(ku:sS P w K mg base):B0 P w K mg base:=by
 refine YJ d zX rfl fun f cdv A outer s H E hr ds r hC B hB=>?_;obtain⟨hs,rs,rfl,rfl,h1,h2,h3,h4⟩:=hC;refine YM (i:=2) zX.nd rfl ?D7 (km yq) ?_;refine YM (i:=3) zX.nd rfl ?A2 uo ?_;refine cf PassesOwn.never (fun Γ _=>∃ (L:List Str) (b:Bool) (x:Option D),Γ=[some ?BC,some ?CH,some (.lst (yO L)),some (.bl b),x]/\((b=true/\xW hs rs L)∨(b=false/\L=zj hs rs))) (fun Γ _=>match Γ with|[_,_,some ?Bq,some (.bl b),_]=>if b then hs.length+1 - ds.length else 0|_=>0) ⟨[],true,none,rfl,.inl ⟨rfl,oY⟩⟩ ?_;rintro Γ Ω ⟨L,b,x,rfl,hb⟩;refine⟨_,(jn ?AZ),fun hk=>?_,fun hk=>?_⟩
 .obtain⟨rfl,st⟩:b=true/\xW hs rs L:=hb.resolve_right fun h=>by rw[h.1] at hk;cases hk
  refine gS (i:=4) (SX:=yp zU) (XN:=["heads", "rules", "live", "grown", "found"]) (N:=["head", "heads", "rules", "live"]) (nt:=1) (caps:=[0,1,2]) (pre:=(fun i=>yO ((?DZ).filter ?EF)))  ?Dn zX.nd rfl ?A2  (Qy (pqc 0 rfl)) ?_ ?_ ?_ ?_
  .intro i hi;rw[YL,sizeLine_eq];have:=YO ?EF ?DZ;rw[Yh] at this;lia
  .rfl
  .intro c i d hd;obtain⟨h,hh,rfl⟩:=jH hd;cases q:J3 rs hs L h with
   |true=>
    refine⟨_,(Yn (i:=0) (show List.Nodup (α:=Str) ["head", "heads", "rules", "live"] by decide +kernel) rfl ?A2),?D4,.inl ⟨.str h,(ud (jn (Yk (d:=?Cl) ku ?A3 rfl ?KO ?_))),?A8,?_⟩⟩
    .exact⟨h,rs,hs,L,rfl,by rw[q],h1,h4⟩
    .show yO ((hs.take (i+1)).filter ?EF)=yO ((?DZ).filter ?EF)++[D.str h]
     rw[Yl hh,qU,YE q];unfold yO;rw[yH];rfl
   |false=>
    refine⟨_,(Yn (i:=0) (show List.Nodup (α:=Str) ["head", "heads", "rules", "live"] by decide +kernel) rfl ?A2),?D4,.inr ⟨(ud (jn (Yk (d:=?EL) ku ?A3 rfl ?KO ?_))),?_⟩⟩
    .exact⟨h,rs,hs,L,rfl,by rw[q],h1,h4⟩
    .show yO ((hs.take (i+1)).filter ?EF)=yO ((?DZ).filter ?EF);rw[Yl hh,qU,YF (by simp[q])];simp
  rw[YL,yM];refine YM (i:=3) zX.nd rfl ?A2 (vZ (o6 (zS z.len rfl ?AX) (zS z.len rfl ?EJ))) ?_;refine YM (i:=2) zX.nd rfl ?D7 ?AX ?_;rw[YL,YL];show W3 _ B [] [some ?BC,some ?CH,some (.lst (yO ?Cy)),some (.bl (decide (((L.length:Nat):Int)<((?Cy).length:Nat)))),some (.lst (yO ?Cy))] Ω _;have le:=ga st;have lh:(zi hs rs L).length<=hs.length:=YO _ _;by_cases g:L.length<(?Cy).length
  .rw[yK (by lia)];refine y8 ⟨⟨_,true,_,rfl,.inl ⟨rfl,iF st⟩⟩,?_⟩;show(if true=true then hs.length+1 - (yO ?Cy).length else 0)<if true=true then hs.length+1 - (yO L).length else 0
   rw[yc rfl,yc rfl,YL,YL];lia
  .rw[yu (by lia)];refine y8 ⟨⟨_,?AE,_,rfl,.inr ⟨rfl,oX st ?A h3⟩⟩,?_⟩;show(if false=true then hs.length+1 - (yO ?Cy).length else 0)<if true=true then hs.length+1 - (yO L).length else 0
   rw[yd yN,yc rfl,YL];lia
 .obtain⟨_,rfl⟩:b=false/\L=zj hs rs:=hb.resolve_left fun h=>by rw[h.1] at hk;cases hk
  refine YK ?EJ ?_;rfl
end
section
variable (P w K mg base C_Grammar) in
abbrev A8:Prop:=OkI P w K mg base CX0 36 "Grammar" C_Grammar ["self", "start", "rules"] (spI K 3 C_Grammar Dv)
theorem iV (z:?AK)(yS:?Ba)(d:vz K mg "Grammar" C_Grammar "Grammar.__init__" Qr ["self", "start", "rules"])(XT:Cr P w K mg base)(lM:Cy P w K mg base)(XU:B9 P w K mg base)(dB:sW P w K mg base)(rJ:B0 P w K mg base):?MU:=by
 refine CN d KW rfl fun f cdv A outer s H E hr a ds r hC B hB=>?_;obtain⟨st,rs,rfl,rfl,gv⟩:=hC;have l2:=gv.l2;have fl:=iU (rs:=rs);refine cX (Yk (d:=.non) XT ?A3 rfl ?Dh ?_) ?_
 .exact⟨rs,rfl,rfl,gv.l1,gv.l2,gv.ok,gv.nd⟩
 refine JV (a:=a) ?A8 yS.c yS.n_first (YI ?AO ⟨[],[],[],?Ad,by simp,by decide,?_⟩);refine JV (a:=a) ?A8 yS.c yS.n_kept_rules (YI (PF3.p (Vy z.list rfl ?AT ?A2)) ?vN);refine JV (a:=a) ?A8 yS.c yS.n_kept_heads (YI (Yk (d:=.lst ?DC) lM ?A3 rfl ?Dh ⟨rs,rfl,rfl,gv.l2⟩) ?vN);refine Wn (U4 (L:=true) (d:=.non) (Γ':=?xJ) (Yk XU ?A3 rfl (yb ?AO (yb ?GX yq)) ⟨st,?A5,rfl,rfl,gv.st⟩) ?I8 (jE kH kI) rfl ?_);refine Wn (U4 (L:=true) (d:=.non) (Γ':=?xJ) (Yk dB ?A3 rfl (yb ?GX ?Dh) ⟨?A5,rs,rfl,rfl,gv.l2,gv.one,fun r hr'=>⟨Yx (gv.ok r hr').2.2.2.2,gv.sz r hr'⟩⟩) ?I8 (jE kH kI) rfl ?_);refine JV (a:=a) ?A8 yS.c yS.n_kept_live (U4 (L:=true) (d:=.lst (yO ?F9)) (Γ':=?xJ) (Yk rJ ?A3 rfl (yb ?GX ?Dh) ⟨?A5,rs,rfl,rfl,gv.l2,?A,fun r hr'=>JA.mpr (yA.mpr ⟨r,hr',rfl⟩),fun r hr'=>(gv.ok r hr').2.2.1⟩) ?I8 (jE kH kI) fq ?vN);exact y8 rfl
variable (P w K mg base C_Grammar) in
abbrev lH:Prop:=OkM P w K mg base CX0 2 C_Grammar "start" ["self"] (spP K 1 (Ad C_Grammar))
theorem UX (yS:?Ba)(d:Y5 K C_Grammar "start" "Grammar.start" jg ["self"])  : ?IG:=by
 refine KM d Ux rfl fun f cdv A outer s H E hr ds r hC B hB=>?_;obtain⟨st,rs,rfl,rfl⟩:=hC;refine YK (Zn ?A8 yS.c yS.n_first rfl) ?_;rfl
variable (P w K mg base C_Grammar) in
abbrev gU:Prop:=OkM P w K mg base CX0 2 C_Grammar "rules" ["self"] (spF K 1 (sE C_Grammar))
theorem Uy (z:?AK)(yS:?Ba)(d:Y5 K C_Grammar "rules" "Grammar.rules" jd ["self"])  : ?Jz:=by
 refine xw d UF rfl fun f cdv A outer s H E hr ds gs hC B hB=>?_;obtain⟨st,rs,rfl,rfl⟩:=hC;exact ZG (bc (Vy z.list rfl (Zn ?A8 yS.c yS.n_kept_rules rfl) ?A2) fun p=>?JN)
variable (P w K mg base C_Grammar) in
abbrev xn:Prop:=OkM P w K mg base CX0 2 C_Grammar "heads" ["self"] (spF K 1 (A0 C_Grammar))
theorem U7 (z:?AK)(yS:?Ba)(d:Y5 K C_Grammar "heads" "Grammar.heads" jf ["self"])  : ?G2:=by
 refine xw d UZ rfl fun f cdv A outer s H E hr ds gs hC B hB=>?_;obtain⟨st,rs,rfl,rfl⟩:=hC;exact ZG (bc (Vy z.list rfl ?GX ?A2) fun p=>?JN)
variable (P w K mg base C_Grammar) in
abbrev iD:Prop:=OkM P w K mg base CX0 2 C_Grammar "live" ["self"] (spF K 1 (Ej C_Grammar))
theorem Wc (z:?AK)(yS:?Ba)(d:Y5 K C_Grammar "live" "Grammar.live" jK ["self"])  : ?IH:=by
 refine xw d Wa rfl fun f cdv A outer s H E hr ds gs hC B hB=>?_;obtain⟨st,rs,rfl,rfl⟩:=hC;exact ZG (bc (Vy z.list rfl (Zn ?A8 yS.c yS.n_kept_live rfl) ?A2) fun p=>?JN)
end
end Law
namespace L3
open PySem PySem.Spec PySem.Calls PyProof.Rows L2
abbrev BV:=Rat×D
abbrev Kb:=List (Str×Nat×Nat)×List BV
abbrev PV:=Rat×List D
abbrev Kp:=List (BK×PV)
def bvD (v:BV):D:=.tup [sh v.1,v.2]
def pvD (v:PV):D:=.tup [sh v.1,.tup v.2]
def kbK (kb:Kb):?ED:=kb.1.map kS
def kbV (kb:Kb):?AD:=kb.2.map bvD
def kbD (kb:Kb):D:=.dt (kbK kb) (kbV kb)
def qu (kb:Kb)(h:Str)(i j:Nat):BV:=(vA kb.1 kb.2 ?Y).getD (0,.non)
def U9 (kb:Kb)(h:Str)(i j:Nat)(v:BV):Kb:=(pK kb.1 ?Y,pA kb.1 kb.2 ?Y v)
def qb (hs row:?A1)(kb:Kb)(x:Str)(i j:Nat):BV:=if x∈hs then qu kb x i j else (if j=i+1/\row[i]?=some x then 1 else 0,?CL)
def kpV (kp:Kp):?zX:=kp.map fun p=>(kB p.1,pvD p.2)
def VF (kp:Kp)(k:BK):Option PV:=(kp.find? fun p=>?wP).map ?zC
def XC (kp:Kp)(k:BK)(v:PV):Kp:=if (VF kp k).isSome=true then kp.map fun p=>if p.1=k then (p.1,v) else p else kp++[(k,v)]
theorem UB:∀ {kp:Kp},atD (kpV kp) (kB k)=(VF kp k).map pvD
 |[]=>rfl
 |p::kp=>by
  have ih:=UB (k:=k) (kp:=kp);unfold atD VF kpV at ih ⊢;rw[yD,y3,y3];by_cases e:p.1=k
  .rw[yK e,yK (show kB p.1=kB k by rw[e])];rfl
  .rw[yu e,yu (show ¬ kB p.1=kB k from fun z=>e (cG z))];exact ih
theorem DN:xr (kpV kp) (kB k) (pvD v)=kpV (XC kp k v):=by
 unfold xr XC;rw[UB];cases q:VF kp k with
 |none=>simp[kpV]
 |some u=>
  simp only[Option.map_some,Js,if_true];unfold kpV;rw[qd,qd];refine jl fun p _=>?_;show(if kB p.1=kB k then (kB p.1,pvD v) else (kB p.1,pvD p.2))=(kB (?jY).1,pvD (?jY).2)
  by_cases e:p.1=k
  .rw[yc (by rw[e]),yc e]
  .rw[yd (fun z=>e (cG z)),yd e]
theorem A1:VF (XC kp k v) k=some v:=by
 unfold XC;cases q:VF kp k with
 |none=>
  simp only[Option.isSome_none,Y3,if_false];unfold VF at q ⊢;rw[List.find?_append];have:kp.find? (fun p=>?wP)=none:=by simpa using q
  rw[this];simp
 |some u=>
  simp only[Js,if_true];have go:∀ {kp:Kp} {u:PV},VF kp k=some u->VF (kp.map fun p=>?jY) k=some v:=by
   intro kp
   induction kp with
   |nil=>intro u h;simp[VF] at h
   |cons p kp ih=>
    intro u h;unfold VF at h ⊢;rw[yD,y3];rw[y3] at h;by_cases e:p.1=k
    .rw[yc e,yK e];rfl
    .rw[yd e,yu e];rw[yu e] at h;exact ih h
  exact go q
theorem Uo(h:p∈XC kp k v):p=(k,v)∨p∈kp:=by
 unfold XC at h;split at h
 .obtain⟨q,hq,e⟩:=yA.mp h;split at e
  .rename_i e2;exact .inl (by rw[←e,e2])
  .exact .inr (e▸hq)
 .rcases Yw.mp h with z|z
  .exact ?BR
  .exact ?Fp
theorem AH:(XC kp k v).length<=kp.length+1:=by
 unfold XC;split
 .rw[yf];lia
 .rw[yI];exact yg _
theorem Ui(h:VF kp k=some v):(k,v)∈kp:=by
 unfold VF at h;obtain⟨p,h1,h2⟩:=Yt.mp h;have b:=List.find?_some h1;have b:p.1=k:=by simpa using b
 rw[←b,←h2];exact jB h1
abbrev Bc:=PV×Kp
def jQ (fp:Nat->BV)(f:Nat->Kp->PV×Kp)(i:Nat)(acc:Bc)(t:Nat):Bc:=
 if acc.1.1<(fp ?E).1*(?jM).1.1 then (((fp ?E).1*(?jM).1.1,(fp ?E).2::(?jM).1.2),(?jM).2) else (acc.1,(?jM).2)
def bPm (hs row:?A1)(kb:Kb):List Str->Nat->Nat->Kp->PV×Kp
  |[],_,_,kp=>?zU
  |[x],i,j,kp=>(((?C0).1,[(?C0).2]),kp)
  |x::y::rest,i,j,kp=>
    match VF kp ?zJ with
    |some v=>(v,kp)
    |none=>
      (((?CQ).foldl ?yF ?zU).1,
       XC ((?CQ).foldl ?yF ?zU).2 ?zJ ((?CQ).foldl ?yF ?zU).1)
abbrev KBP:=Kb×Kp
def vq (hs row:?A1)(i j:Nat)(s:KBP)(n:Nat)(r:yw):KBP×Bool:=
 if (qu s.1 r.1 i j).1<r.2.2*(?zE).1.1 then ((U9 s.1 r.1 i j ?xV,(?zE).2),true)
 else ((s.1,(?zE).2),?AE)
def VS (hs row:?A1)(rs:?A4)(i j:Nat)(a:KBP×Bool)(n:Nat):KBP×Bool:=((vq hs row i j a.1 n (rs.getD n ("", [],0))).1,(vq hs row i j a.1 n (rs.getD n ("", [],0))).2||a.2)
def rnd (hs row:?A1)(rs:?A4)(i j:Nat)(s:KBP):KBP×Bool:=(List.range rs.length).foldl ?CT (s,?AE)
def V5 (hs row:?A1)(rs:?A4)(i j:Nat):Nat->KBP->KBP
 |0,s=>s
 |m+1,s=>if (?Fh).2=true then V5 hs row rs i j m (?Fh).1 else (?Fh).1
def mx (a b:Rat):Rat:=if a<b then b else a
theorem Dy {a b:Rat}:a<=mx a b:=by unfold mx;split <;> grind
theorem De {a b:Rat}:b<=mx a b:=by unfold mx;split <;> grind
theorem nl {a b c:Rat}(h1:a<=c)(h2:b<=c):mx a b<=c:=by unfold mx;split <;> assumption
theorem Lq {a:Rat}(h:0<=a):mx a 0=a:=by unfold mx;split <;> grind
theorem IF {a b:Rat}:mx a b=a∨mx a b=b:=by unfold mx;split <;> simp
def xD:Nat->?N->Rat
 |0,_=>0
 |n+1,f=>mx (xD n f) (f n)
theorem bW {f:?N}:∀ {n:Nat},0<=xD n f
 |0=>yJ
 |n+1=>yV (bW (n:=n)) Dy
theorem U1 {f:?N}:∀ {m:Nat},n<=m->(∀ t,n<=t->t<m->f t=0)->xD m f=xD n f
 |0,h,_=>by rw[Jq.mp h]
 |m+1,h,z=>by
  rcases Ql n (m+1) with q|q
  .rw[xD,U1 (m:=m) ?A fun t a b=>z t a ?A,z m ?A ?A,Lq bW]
  .rw[show n=m+1 by lia]
theorem Wq {f:?N}:∀ {n:Nat},t<n->f t<=xD n f
 |0,h=>by lia
 |n+1,h=>by
  rcases Ql t n with q|q
  .exact yV (Wq q) Dy
  .rw[show t=n by lia];exact De
theorem m7 {f:?N}{c:Rat}(hc:0<=c):∀ {n:Nat},(∀ t,t<n->f t<=c)->xD n f<=c
 |0,_=>hc
 |n+1,h=>nl (m7 hc fun t ht=>h t ?A) (h n ?A)
def mxF (f:?V):List yw->Rat
 |[]=>0
 |r::rs=>mx (f r) (mxF f rs)
theorem WR {f:?V}:∀ {rs:List yw},0<=mxF f rs
 |[]=>yJ
 |r::rs=>yV (WR (rs:=rs)) De
theorem Ki {f:?V}:∀ {rs:List yw},r∈rs->f r<=mxF f rs
 |[],h=>by cases h
 |x::rs,h=>by
  rcases yB.mp h with z|z
  .rw[z];exact Dy
  .exact yV (Ki z) De
theorem Xh {f:?V}{c:Rat}(hc:0<=c):∀ {rs:List yw},(∀ r∈rs,f r<=c)->mxF f rs<=c
 |[],_=>hc
 |r::rs,h=>nl (h r (by simp)) (Xh hc fun x hx=>h x ?As)
theorem aI {f g:?V}:∀ {rs:List yw},(∀ r∈rs,f r=g r)->mxF f rs=mxF g rs
 |[],_=>rfl
 |r::rs,h=>by rw[mxF,mxF,h r (by simp),aI fun x hx=>h x ?As]
section
variable (hs row:?A1)(T:?S)
def mP:List Str->Nat->Nat->Rat
 |[],i,j=>if i=j then 1 else 0
 |x::xs,i,j=>xD ?I fun t=>wT hs row T x i ?E*mP xs ?E j
end
section
variable {T U:?S}
theorem B6:∀ {b:List Str} {i j:Nat},0<=mP hs row T b i j
 |[],i,j=>by rw[mP];split <;> decide
 |x::xs,i,j=>by rw[mP];exact bW
theorem dR:∀ {b:List Str} {i j:Nat},j<i+b.length->mP hs row T b i j=0
 |[],i,j,h=>by
  rw[Yz] at h;rw[mP,yd ?A]
 |x::xs,i,j,h=>by
  rw[yi] at h;rw[mP,U1 (n:=0) ?A fun t _ _=>by rw[dR (b:=xs) (by lia)];grind];rfl
theorem Fc (hT:∀ x i j,?yL):0<=wT hs row T x i j:=by
 unfold wT;split
 .exact hT _ _ _
 .split <;> decide
theorem lF (hT:∀ x i j,?yL)(h:i<j):mP hs row T [x] i j=wT hs row T x i j:=by
 refine qN ?_ ?_
 .rw[mP];refine m7 (Fc hT) fun t ht=>?_;rw[mP];by_cases e:i+1+t=j
  .rw[yc e,e];grind
  .rw[yd e];have:=Fc (hs:=hs) (row:=row) hT (x:=x) (i:=i) (j:=j);grind
 .rw[mP];have:=Wq (f:=fun t=>wT hs row T x i ?E*mP hs row T [] ?E j) (t:=?zP) (n:=?I) ?A;rw[mP,yc ?A,show i+1+?zP=j by lia] at this;grind
end
section
end
section
def VP (X:Cx)(B:Bs)(Γ:Ga):List ?Cv->List Expr->Om->(List (Key×D)->Om->Prop)->Prop
 |[],[],Ω,R=>R [] Ω
 |some k::ks,v::vs,Ω,R=>∃ key,P3 X Γ k (KU key)/\V3 X B v Γ Ω fun d Ω1=>VP X B Γ ks vs Ω1 fun kvs Ω2=>R ((key,d)::kvs) Ω2
 |_,_,_,_=>False
def trW (X:Cx):List ?Cv->List Expr->List (TE×TE)
 |some k::ks,v::vs=>(WE X k,WE X v)::trW X ks vs
 |_,_=>[]
theorem EI:∀ {ks:List (Option Expr)} {vs:List Expr},ks.all (·.isSome)=true->ks.length=vs.length->PPs X pos ks vs (trW X ks vs)
 |[],[],_,_=>CU
 |some k::ks,v::vs,h,hl=>Au j6 j6 (EI (by simpa using h) (by simpa using hl))
 |none::ks,_,h,_=>by simp at h
 |[],_::_,_,hl=>by simp at hl
 |some _::_,[],_,hl=>by simp at hl
theorem n9:∀ {ks:List (Option Expr)} {vs:List Expr} {Ω:Om} {R:List (Key×D)->Om->Prop} {F:Hp} {σ:L2.St} {H:Hp} {Q:List (V×V)->Hp->Prop},VP X B Γ ks vs Ω R->Sat X.K B Γ Ω F σ H->(∀ (kvs:List (Key×D)) (Ω2:Om) (F2 H2:Hp) (ys:List V),R kvs Ω2->kvs.length=ks.length->Sat X.K B Γ Ω2 F2 σ H2->Yc F F2->IsL X.K F2 (kvs.map ?zC) ys->Q (((?He).zip ys).map fun kv=>(kV kv.1,kv.2)) H2)->dc (trW X ks vs) σ H Q
 |[],[],Ω,R,F,σ,H,Q,h,S,q=>q [] Ω F H [] h rfl S ?AH IsL.nil
 |some k::ks,v::vs,Ω,R,F,σ,H,Q,⟨key,hk,h⟩,S,q=>by
  refine hk.we ⟨F,S.fh,S.sl,fun x H1 F1 p1 i1=>?_⟩;refine(?IW).mono fun y H2 ⟨d,Ω1,F2,S2,f2,i2,h2⟩=>?_;refine n9 h2 S2 fun kvs Ω3 F3 H3 ys r hl S3 f3 il=>?_;have:=q ((key,d)::kvs) Ω3 F3 H3 (y::ys) r (by simp[hl]) S3 (p1.ff.trans (f2.trans f3)) (IsL.cons (i2.mono f3) il);rw[U0 i1];exact this
 |[],_::_,_,_,_,_,_,_,h,_,_=>by simp[VP] at h
 |none::_,_,_,_,_,_,_,_,h,_,_=>by simp[VP] at h
 |some _::_,[],_,_,_,_,_,_,h,_,_=>by simp[VP] at h
theorem Ck {kvs:?qM}{k:Key}{v:V}(h:k∉kvs.map ?C):vI kvs k v=kvs++[(k,v)]:=by
 unfold vI;rw[yd];intro z;rw[List.any_eq_true] at z;obtain⟨q,hq,e⟩:=z;exact h (yA.mpr ⟨q,hq,by simpa using e⟩)
theorem xN:∀ {more kvs:List (Key×V)},((kvs++more).map ?C).Nodup->VG kvs more=kvs++more
 |[],kvs,_=>by simp[VG]
 |p::more,kvs,h=>by
  have e:VG kvs (p::more)=VG (vI kvs p.1 p.2) more:=rfl;have np:p.1∉kvs.map ?C:=fun z=>by
   rw[yH,Yr] at h;exact h.2.2 _ z _ (by simp) rfl
  rw[e,Ck np,xN (by simpa using h)];simp
theorem D1(h:∀ q:Addr×Ow,VP X B Γ ks vs (q::Ω) fun kvs Ω2=>∃ Ω3,Ω2.Perm (q::Ω3)/\(?He).Nodup/\∀ l,R ?Ak ((l,oDk X.K ?He (kvs.map ?zC))::Ω3))(h0:ks≠[]:=by simp)(h15:ks.length<=15:=by decide)(ha:ks.all (·.isSome)=true:=by rfl)(hl:ks.length=vs.length:=by rfl):V3 X B (.Dict ks vs pos) Γ Ω R:=fun F σ H S pins s I=>
 DF (EI ha hl) ha hl h0 h15 pins s σ H _ I fun p hp=>by
  have S0:Sat X.K B Γ ((p,oDk X.K [] [])::Ω) F σ (upd H p (.dK [])):=S.new (Pur.layOwn S.fh hp) hp (S.fh.free hp) yT fun F2 e=>⟨[],rfl,rfl,?CG⟩
  refine n9 (h (p,oDk X.K [] [])) S0 fun kvs Ω2 F2 H2 ys ⟨Ω3,pm,nd,r⟩ hk S2 f2 il=>?_;have S3:=S2.perm pm.symm;obtain⟨fa,ob,h6,ho⟩:=S3.own (p,oDk X.K [] []) (by simp);obtain⟨xs,rfl,_,_⟩:=ho F2 ?AH;have yl:(kvs.map ?C).length=ys.length:=by rw[il.len,yf,yf]
  refine⟨h6,(?He).zip ys,rfl,by rw[YZ,←yl,yf];lia,?_⟩;rw[xN (by rw[Je,List.map_fst_zip ?A];exact nd),Je];exact⟨_,_,F2,S3.turn fun F7 e7=>⟨_,rfl,yl,il.mono e7⟩,f2,Vg F2,r p⟩
end
section
end
def RC (hs b:?A1)(i j m:Nat):Prop:=(∀ x,b=[x]->x∉hs∨j - i<=m)/\(2<=b.length->j - i<=m+1)
section
theorem cI (h:RC hs (x::xs) i j m)(hc:i+1+c+xs.length<=j)(hx:x∈hs):i+1+c - i<=m:=by
 cases xs with
 |nil=>
  rcases h.1 x rfl with z|z
  .exact absurd hx z
  .rw[Yz] at hc;lia
 |cons y ys=>
  have:=h.2 (by simp);rw[yi] at hc;lia
theorem df (h:RC hs (x::xs) i j m)(hc:i+1+c+xs.length<=j):RC hs xs (i+1+c) j m:=by
 refine⟨fun y e=>.inr ?_,fun e=>?_⟩
 .subst e;have:=h.2 (by simp);lia
 .have:=h.2 ?qJ;lia
end
section
variable (hs:?A1)(e:?V)
def wK (r:yw):Bool:=match r.2.1 with|[x]=>decide (x∈hs)|_=>false
def wv (v:?zM)(r:yw):Rat:=if wK hs r=true then v (b0 r) else e r
def upV (v:?zM)(r:yw):?zM:=fun h=>if h=r.1 then mx (v h) (r.2.2*wv hs e v r) else v h
def dj (rs:?A4)(v:?zM):?zM:=rs.foldl (upV hs e) v
def jac (rs:?A4):Nat->Str->Rat
 |0,_=>0
 |n+1,h=>mxF (fun r=>if r.1=h then r.2.2*wv hs e (jac rs n) r else 0) rs
end
section
variable {e:?V}{u v:?zM}
theorem uQ (h:∀ x,u x<=v x):wv hs e u r<=wv hs e v r:=by
 unfold wv;split
 .exact h _
 .exact yJ
theorem W1:∀ x,v x<=upV hs e v r x:=fun x=>by
 unfold upV;split
 .exact Dy
 .exact yJ
theorem WQ:∀ {rs:List yw} {v:Str->Rat},∀ x,v x<=dj hs e rs v x
 |[],v,x=>yJ
 |r::rs,v,x=>yV (W1 (r:=r) x) (WQ (rs:=rs) x)
theorem eI:∀ {rs':List yw} {v:Str->Rat},(∀ x,u x<=v x)->(∀ r∈rs',0<=r.2.2)->r∈rs'->r.2.2*wv hs e u r<=dj hs e rs' v r.1
 |[],v,_,_,q=>by cases q
 |r'::rs',v,h,hp',q=>by
  rcases yB.mp q with z|z
  .subst z;refine yV ?_ (WQ (rs:=rs') (v:=?Gm) r.1);unfold upV;rw[yc rfl];exact yV (Ye (uQ h) (hp' r (by simp))) De
  .exact eI (rs':=rs') (v:=upV hs e v r') (fun x=>yV (h x) (W1 x)) (fun x hx=>hp' x ?As) z
def Clo (hs:?A1)(e:?V)(rs:?A4)(u:?zM):Prop:=∀ r∈rs,r.2.2*wv hs e u r<=u r.1
theorem sR (hp:∀ r∈rs,0<=r.2.2)(c:Clo hs e rs u):∀ {rs':List yw} {v:Str->Rat},(∀ r∈rs',r∈rs)->(∀ x,v x<=u x)->∀ x,dj hs e rs' v x<=u x
 |[],v,_,h,x=>h x
 |r::rs',v,hs',h,x=>by
  refine sR hp c (rs':=rs') (v:=?Gm) (fun z hz=>hs' z (ye _ hz)) (fun y=>?_) x;have hr:=hs' r (by simp);unfold upV;split
  .rename_i q;rw[q];exact nl (h _) (yV (Ye (uQ h) ?Cb) (c r hr))
  .exact h y
theorem bL:∀ {n:Nat} {x:Str},0<=jac hs e rs n x
 |0,x=>yJ
 |n+1,x=>by rw[jac];exact WR
theorem uR (hp:∀ r∈rs,0<=r.2.2):∀ {n:Nat} {x:Str},jac hs e rs n x<=jac hs e rs (n+1) x
 |0,x=>bL
 |n+1,x=>by
  rw[jac,jac];refine Xh WR fun r hr=>?_;refine yV ?_ (Ki (f:=fun r=>if r.1=x then r.2.2*wv hs e (jac hs e rs (n+1)) r else 0) hr);split
  .exact Ye (uQ fun y=>uR hp) ?Cb
  .exact yJ
theorem cw {f:?V}:∀ {rs:List yw},0<mxF f rs->∃ r∈rs,mxF f rs=f r
 |[],h=>by simp[mxF] at h
 |r::rs,h=>by
  rw[mxF] at h ⊢;rcases IF (a:=f r) (b:=mxF f rs) with q|q
  .exact⟨r,by simp,q⟩
  .rw[q] at h ⊢;obtain⟨x,hx,z⟩:=cw h;exact⟨x,?As,z⟩
theorem dh(h:wK hs r=true):r.2.1=[b0 r]/\b0 r∈hs:=by
 unfold wK at h;split at h
 .rename_i x hx;have hx':x∈hs:=of_decide_eq_true h;have e:b0 r=x:=by unfold b0;rw[hx];rfl
  exact⟨by rw[hx,e],by rw[e];exact hx'⟩
 .cases h
theorem rD (hp:∀ r∈rs,?vK)(hh:∀ r∈rs,r.1∈hs):∀ {n:Nat} {x:Str},jac hs e rs n x<jac hs e rs (n+1) x->∃ l:List Str,l.length=n+1/\l.Nodup/\(∀ y∈l,y∈hs)/\∀ y∈l,jac hs e rs (n+1) x<=jac hs e rs (n+1) y:=by
 have hp0:∀ r∈rs,0<=r.2.2:=fun r hr=>(?Cb).1;intro n
 induction n with
 |zero=>
  intro x h;have pos:0<jac hs e rs 1 x:=h;obtain⟨r,hr,q⟩:=cw (f:=fun r=>if r.1=x then r.2.2*wv hs e (jac hs e rs 0) r else 0) pos;have ex:r.1=x:=by
   by_cases z:r.1=x
   .exact z
   .rw[yd z] at q;have:jac hs e rs 1 x=0:=q;rw[this] at pos;exact absurd pos ?B
  exact⟨[x],rfl,by simp,fun y hy=>by rw[yE.mp hy,←ex];exact hh r hr,fun y hy=>by rw[yE.mp hy];exact yJ⟩
 |succ n ih=>
  intro x h;have pos:0<jac hs e rs (n+2) x:=by
   have a:0<=jac hs e rs (n+1) x:=bL;grind
  obtain⟨r,hr,q⟩:=cw (f:=fun r=>if r.1=x then r.2.2*wv hs e (jac hs e rs (n+1)) r else 0) pos;have q:jac hs e rs (n+2) x=if r.1=x then r.2.2*wv hs e (jac hs e rs (n+1)) r else 0:=q
  have ex:r.1=x:=by
   by_cases z:r.1=x
   .exact z
   .rw[yd z] at q;rw[q] at pos;exact absurd pos ?B
  rw[yc ex] at q;have ge:∀ m,(if r.1=x then r.2.2*wv hs e ?HH r else 0)<=jac hs e rs (m+1) x:=fun m=>Ki (f:=fun r=>if r.1=x then r.2.2*wv hs e ?HH r else 0) hr;by_cases one:wK hs r=true
  .have w1:∀ m,wv hs e ?HH r=jac hs e rs m (b0 r):=fun m=>by unfold wv;rw[yc one]
   have gr:jac hs e rs n (b0 r)<jac hs e rs (n+1) (b0 r):=by
    have a:=ge n;rw[yc ex,w1] at a;rw[w1] at q;rw[q] at h;have b:jac hs e rs n (b0 r)<=jac hs e rs (n+1) (b0 r):=uR hp0;by_cases z:jac hs e rs (n+1) (b0 r)<=jac hs e rs n (b0 r)
    .have:=Ye z (hp0 r hr);grind
    .grind
   obtain⟨l,l1,l2,l3,l4⟩:=ih gr;have le1:jac hs e rs (n+2) x<=jac hs e rs (n+1) (b0 r):=by
    rw[q,w1];have a:(0:Rat)<=jac hs e rs (n+1) (b0 r):=bL;have:=qL (?Cb).2 a;grind
   have nx:x∉l:=fun z=>by
    have:=l4 x z;grind
   refine⟨x::l,by rw[yi,l1],yR.mpr ⟨nx,l2⟩,fun y hy=>?_,fun y hy=>?_⟩
   .rcases yB.mp hy with z|z
    .rw[z,←ex];exact hh r hr
    .exact l3 y z
   .rcases yB.mp hy with z|z
    .rw[z];exact yJ
    .exact yV le1 (yV (l4 y z) (uR hp0))
  .have w1:∀ m,wv hs e ?HH r=e r:=fun m=>by unfold wv;rw[yd one]
   have a:=ge n;rw[yc ex,w1] at a;rw[w1] at q;grind
theorem Ei (hp:∀ r∈rs,?vK)(hh:∀ r∈rs,r.1∈hs)(x:Str):jac hs e rs ?yS x=jac hs e rs hs.length x:=by
 refine qN ?_ (uR fun r hr=>(?Cb).1);by_cases z:jac hs e rs ?yS x<=jac hs e rs hs.length x
 .exact z
 .obtain⟨l,l1,l2,l3,_⟩:=rD (e:=e) (n:=hs.length) hp hh (x:=x) (by grind);have:=cu l2 l3;lia
theorem Dt (hp:∀ r∈rs,?vK)(hh:∀ r∈rs,r.1∈hs):Clo hs e rs (jac hs e rs hs.length):=fun r hr=>by
 rw[←Ei hp hh];have:=Ki (f:=fun q=>if q.1=r.1 then q.2.2*wv hs e (jac hs e rs hs.length) q else 0) hr;rw[yc rfl] at this;rw[jac];exact this
def Zb (hs:?A1)(e:?V)(rs:?A4):Nat->Str->Rat
 |0=>fun _=>0
 |n+1=>dj hs e rs (Zb hs e rs n)
theorem aQ (hp:∀ r∈rs,?vK)(hh:∀ r∈rs,r.1∈hs):∀ {n:Nat} {x:Str},Zb hs e rs n x<=jac hs e rs hs.length x
 |0,x=>bL
 |n+1,x=>sR (fun r hr=>(?Cb).1) (Dt hp hh) (fun r hr=>hr) (fun y=>aQ hp hh (n:=n)) x
theorem U2:∀ {n:Nat} {x:Str},0<=Zb hs e rs n x
 |0,x=>yJ
 |n+1,x=>yV (U2 (n:=n)) (WQ x)
theorem ai (hp:∀ r∈rs,0<=r.2.2):∀ {n:Nat} {x:Str},jac hs e rs n x<=Zb hs e rs n x
 |0,x=>yJ
 |n+1,x=>by
  rw[jac];refine Xh U2 fun r hr=>?_;split
  .rename_i q;rw[←q];exact eI (u:=jac hs e rs n) (rs':=rs) (v:=Zb hs e rs n) (fun y=>ai hp) hp hr
  .exact U2
theorem iW (hp:∀ r∈rs,?vK)(hh:∀ r∈rs,r.1∈hs)(x:Str):Zb hs e rs ?yS x=Zb hs e rs hs.length x:=
 qN (yV (aQ hp hh) (ai fun r hr=>(?Cb).1)) (WQ x)
end
def BB:Nat->Nat
 |0=>1
 |n+1=>4*BB n+400
theorem Ug:∀ {m n:Nat},m<=n->BB m<=BB n
 |m,0,h=>Nat.le_of_eq (by rw[Jq.mp h])
 |m,n+1,h=>by
  rcases Ql m (n+1) with q|q
  .have:=Ug (m:=m) (n:=n) ?A;rw[BB];lia
  .exact Nat.le_of_eq (by rw[show m=n+1 by lia])
theorem Hh:1<=BB n:=Ug (m:=0) (Y0 n)
theorem DB(h:n<=5):BB n<=200000:=yz (Ug h) ?B
theorem Zr(e:kb.1.length=kb.2.length):qu (U9 kb h i j v) h' i' j'=if h'=h/\i'=i/\j'=j then v else qu kb h' i' j':=by
 unfold qu U9;rw[hU e];by_cases q:h'=h/\i'=i/\j'=j
 .rw[yc q,yc (by rw[q.1,q.2.1,q.2.2])];rfl
 .rw[yd q,yd (fun z=>q (by simpa using z))]
def KbZ (n:Nat)(kb:Kb):Prop:=∀ h i j,i<j->j - i<=n->0<=(?C9).1/\Sz (BB ?I) (?C9).1
def KpZ (kp:Kp):Prop:=∀ p∈kp,0<=p.2.1/\Sz (p.1.1.length*BB (p.1.2.2 - p.1.2.1 - 1)+1) p.2.1/\p.2.2.length<=p.1.1.length
structure PZ (b:?A1)(m k:Nat)(v:PV×Kp):Prop where
 nn:0<=v.1.1
 sz:Sz (b.length*BB m+1) v.1.1
 len:v.1.2.length<=b.length
 kp:KpZ v.2
 kl:v.2.length<=k
theorem aV(hk:KbZ m kb)(hij:i<j)(h:x∈hs->j - i<=m):0<=(?C0).1/\Sz (BB m) (?C0).1:=by
 unfold qb;split
 .rename_i hx;have:=hk x i j hij (h hx);exact⟨this.1,this.2.mono (Ug (h hx))⟩
 .split
  .exact⟨by show(0:Rat)<=1;decide,wX.mono Hh⟩
  .exact⟨yJ,Uq.mono Hh⟩
theorem Dm:∀ (b:List Str) (m i j:Nat) (kp:Kp),KbZ m kb->b≠[]->i<j->j - i<=5->RC hs b i j m->KpZ kp->PZ b m (kp.length+6 ^ b.length) ?EU
 |[],_,_,_,_,_,h,_,_,_,_=>absurd rfl h
 |[x],m,i,j,kp,hk,_,hij,h5,rc,hp=>by
  rw[bPm];have p:=aV (row:=row) hk hij (x:=x) (hs:=hs) fun hx=>(rc.1 x rfl).resolve_left fun z=>z hx;exact⟨p.1,p.2.mono (by simp),by simp,hp,by simp⟩
 |x::y::rest,m,i,j,kp,hk,_,hij,h5,rc,hp=>by
  have l2:=rc.2 (by simp);have mm:∀ {v:PV×Kp},PZ ?Z ?zP (kp.length+6 ^ (?Z).length) v->PZ ?Z m (kp.length+6 ^ (?Z).length) v:=fun {v} q=>⟨q.nn,q.sz.mono (by have:=qT (?Z).length (Ug (m:=?zP) (n:=m) ?A);lia),q.len,q.kp,q.kl⟩
  refine mm ?_;rw[bPm];cases q:VF kp ?zJ with
  |some v=>
   obtain⟨a1,a2,a3⟩:=hp _ (Ui q);exact⟨a1,a2,a3,hp,by simp⟩
  |none=>
   have hk0:KbZ (j - i - 1) kb:=fun h a b q1 q2=>hk h a b q1 ?A;have rc0:RC hs (x::y::rest) i j (j - i - 1):=⟨fun z e=>by simp at e,fun _=>?A⟩
   have go:∀ t,t<=nP ?qL i j->PZ ?Z ?zP (kp.length+t*6 ^ (rest.length+1)) ?jR:=by
    intro t
    induction t with
    |zero=>intro _;exact⟨yJ,?F3,by simp,hp,by simp⟩
    |succ t ih=>
     intro ht;have a:=ih ?A;rw[YC,yY];generalize (?CX).foldl ?yF ?zU=acc at *;have hc:i+1+t+(y::rest).length<=j:=by unfold nP at ht;rw[yi];lia
     have b:=Dm (row:=row) ?K ?zP ?E j acc.2 hk0 (by simp) ?vH ?A (df rc0 hc) a.kp;have p:=aV (row:=row) hk0 (x:=x) (hs:=hs) (i:=i) (j:=?E) ?A fun hx=>cI rc0 hc hx;have kl:(bPm hs row kb (y::rest) (i+1+t) j acc.2).2.length<=kp.length+(t+1)*6 ^ (rest.length+1):=by
      have h1:=b.kl;have h2:=a.kl;rw[yi] at h1;rw[Qe,Q7];lia
     rw[Yi,qH];unfold jQ;split
     .refine⟨Qo p.1 b.nn,(ZF p.2 b.sz).mono ?_,?_,b.kp,kl⟩
      .rw[yi (a:=x),Qe];lia
      .have:=b.len;simp only[yi] at this ⊢;lia
     .exact ?LJ
   have a:=go _ ?AC;have np:nP (rest.length+2) i j<=4:=by unfold nP;lia
   dsimp only;generalize (?CQ).foldl ?yF ?zU=acc at *;refine⟨a.nn,a.sz,a.len,fun p hp'=>?_,yz AH ?_⟩
   .rcases Uo hp' with z|z
    .subst z;exact⟨a.nn,a.sz,a.len⟩
    .exact a.kp p z
   .have h1:=a.kl;have h2:nP (rest.length+2) i j*6 ^ (rest.length+1)<=4*6 ^ (rest.length+1):=qq _ np;have h3:0<6 ^ (rest.length+1):=Nat.pow_pos ?B;rw[show(x::y::rest).length=(rest.length+1)+1 from rfl,QW];lia
def Ew (row:?A1)(T:?S)(kb:Kb)(n:Nat):Prop:=∀ h i j,i<j->j<=row.length->j - i<n->(?C9).1=T h i j
def KpE (hs row:?A1)(T:?S)(kp:Kp):Prop:=∀ p∈kp,p.2.1=mP hs row T p.1.1 p.1.2.1 p.1.2.2
section
variable {T:?S}
theorem sU(a:Ew row T kb n)(hij:i<j)(hj:?O)(h:x∉hs∨j - i<n):(?C0).1=wT hs row T x i j:=by
 unfold qb wT;by_cases hx:x∈hs
 .rw[yc hx,yc hx];exact a x i j hij hj (h.resolve_left fun z=>z hx)
 .rw[yd hx,yd hx]
theorem Ff(hT:∀ x i j,?yL)(a:Ew row T kb n):∀ (b:List Str) (i j:Nat) (kp:Kp),b≠[]->i<j->j<=row.length->j - i<=n->(∀ x,b=[x]->x∉hs∨j - i<n)->KpE hs row T kp->(?EU).1.1=mP hs row T b i j/\KpE hs row T (?EU).2
 |[],_,_,_,h,_,_,_,_,_=>absurd rfl h
 |[x],i,j,kp,_,hij,hj,hn,h1,hk=>by
  rw[bPm];exact⟨by rw[lF hT hij];exact sU a hij hj (h1 x rfl),hk⟩
 |x::y::rest,i,j,kp,_,hij,hj,hn,_,hk=>by
  rw[bPm];cases q:VF kp ?zJ with
  |some v=>exact⟨hk _ (Ui q),hk⟩
  |none=>
   have go:∀ t,t<=nP ?qL i j->(?jR).1.1=xD t (fun t=>wT hs row T x i ?E*mP hs row T ?K ?E j)/\KpE hs row T (?jR).2:=by
    intro t
    induction t with
    |zero=>intro _;exact⟨rfl,hk⟩
    |succ t ih=>
     intro ht;obtain⟨e1,e2⟩:=ih ?A;rw[YC,yY];generalize (?CX).foldl ?yF ?zU=acc at *;have hm:i+1+t+1<=j:=by unfold nP at ht;lia
     have wx:(qb hs row kb x i (i+1+t)).1=wT hs row T x i (i+1+t):=sU a ?A ?A (.inr ?A);obtain⟨f1,f2⟩:=Ff hT a ?K ?E j acc.2 (by simp) ?A hj ?A (fun _ _=>.inr ?A) e2;rw[Yi,qH,xD];unfold jQ mx;rw[e1,f1,wx];split
     .exact⟨rfl,f2⟩
     .exact⟨e1,f2⟩
   obtain⟨e1,e2⟩:=go _ ?AC;dsimp only;generalize (?CQ).foldl ?yF ?zU=acc at *;have v:acc.1.1=mP hs row T (x::y::rest) i j:=by
    rw[e1,mP];refine(U1 (by unfold nP;lia) fun t h1 h2=>?_).symm;rw[dR (b:=?K) (by rw[yi];unfold nP at h1;lia)];grind
   refine⟨v,fun p hp=>?_⟩;rcases Uo hp with z|z
   .subst z;exact v
   .exact e2 p z
end
section
variable {T:?S}
abbrev cur (i j:Nat)(s:KBP):?zM:=fun h=>(qu s.1 h i j).1
structure SB (hs row:?A1)(T:?S)(i j c k l:Nat)(s:KBP):Prop where
 eq:s.1.1.length=s.1.2.length
 agr:Ew row T s.1 ?I
 kz:KbZ ?zP s.1
 cur:∀ h,0<=cur i j s h/\Sz c (cur i j s h)
 kp:KpZ s.2
 ke:KpE hs row T s.2
 kl:s.2.length<=k
 bl:s.1.1.length<=l
structure RuB (hs:?A1)(r:yw):Prop where
 b1:1<=r.2.1.length
 b4:r.2.1.length<=4
 pos:0<=r.2.2
 one:r.2.2<=1
 sz:Sz 5 r.2.2
theorem cU(h:wK hs r=false)(e:r.2.1=[x]):x∉hs:=by
 unfold wK at h;rw[e] at h;exact of_decide_eq_false h
theorem cL(h:?Bb):r.2.1≠[]:=fun z=>by have:=h.b1;rw[z] at this;simp at this
theorem sH(hT:∀ x i j,?yL)(g:?DF)(hr:?Bb)(hij:i<j)(hj:?O)(h5:?zY)(hc:?jG) :
  (?zE).1.1=wv hs ?zG ?F8 r/\KpE hs row T (?zE).2/\0<=(?zE).1.1/\Sz c (?zE).1.1/\(?zE).1.2.length<=4/\KpZ (?zE).2/\(?zE).2.length<=s.2.length+1296:=by
 cases q:wK hs r with
 |true=>
  obtain⟨e,hm⟩:=dh q;unfold wv;rw[yc q,e,bPm];have:qb hs row s.1 (b0 r) i j=qu s.1 (b0 r) i j:=by unfold qb;rw[yc hm]
  rw[this];exact⟨rfl,g.ke,(g.cur _).1,(g.cur _).2,by simp,g.kp,by simp⟩
 |false=>
  have rc:RC hs r.2.1 i j (j - i - 1):=⟨fun x e=>.inl (cU q e),fun _=>?A⟩
  have t:=Ff (hs:=hs) hT g.agr r.2.1 i j s.2 (cL hr) hij hj ?AC (fun x e=>.inl (cU q e)) g.ke;have z:=Dm (row:=row) r.2.1 ?zP i j s.2 g.kz (cL hr) hij ?A rc g.kp;have b4:=hr.b4;have l4:r.2.1.length*BB (j - i - 1)<=4*BB (j - i - 1):=qq _ b4;have p4:6 ^ r.2.1.length<=6 ^ 4:=YD ?B b4;refine⟨?_,t.2,z.nn,z.sz.mono ?A,yz z.len b4,z.kp,?_⟩
  .unfold wv;rw[yd ?qI];exact t.1
  .have:=z.kl;lia
theorem Dq(hT:∀ x i j,?yL)(g:?DF)(hr:?Bb)(hij:i<j)(hj:?O)(h5:?zY)(hc:?jG) :
  SB hs row T i j (c+5) (k+1296) (l+1) (?Fb).1/\cur i j (?Fb).1=upV hs ?zG ?F8 r/\(?Fb).2=decide (cur i j s r.1<r.2.2*wv hs ?zG ?F8 r):=by
 obtain⟨e1,e2,e3,e4,e5,e6,e7⟩:=sH hT g hr hij hj h5 hc;have kl:=g.kl;unfold vq;rw[e1] at e3 e4 ⊢;have pz:0<=r.2.2*wv hs ?zG (cur i j s) r/\Sz (c+5) (r.2.2*wv hs ?zG (cur i j s) r):=⟨Qo hr.pos e3,(ZF hr.sz e4).mono ?A⟩
 by_cases q:(qu s.1 r.1 i j).1<r.2.2*wv hs ?zG ?F8 r
 .rw[yc q];have gp:∀ (v:BV) (h:Str) (a b:Nat),qu (U9 s.1 r.1 i j v) h a b=if h=r.1/\a=i/\b=j then v else qu s.1 h a b:=fun v h a b=>Zr g.eq
  refine⟨⟨V1 g.eq,fun h a b q1 q2 q3=>?_,fun h a b q1 q2=>?_,fun h=>?_,e6,e2,by show(?zE).2.length<=_;lia,yz bv (je g.bl)⟩,?_,?_⟩
  .rw[gp,yd (fun z=>?A)];exact g.agr h a b q1 q2 q3
  .rw[gp,yd (fun z=>?A)];exact g.kz h a b q1 q2
  .unfold L3.cur;rw[gp];split
   .exact pz
   .exact⟨(?FH).1,(?FH).2.mono ?A⟩
  .funext h;unfold L3.cur upV;rw[gp];by_cases z:h=r.1
   .rw[yc ⟨z,rfl,rfl⟩,yc z,z];unfold mx;rw[yc q]
   .rw[yd (fun y=>z y.1),yd z]
  .exact(yK q).symm
 .rw[yd q];refine⟨⟨g.eq,g.agr,g.kz,fun h=>⟨(?FH).1,(?FH).2.mono ?A⟩,e6,e2,by show(?zE).2.length<=_;lia,Nat.le_succ_of_le g.bl⟩,?_,(yu q).symm⟩;funext h;unfold upV mx;by_cases z:h=r.1
  .rw[yc z,z,yd q]
  .rw[yd z]
structure RnB (hs row:?A1)(T:?S)(i j c k l n:Nat)(rs:?A4)(v:?zM)(a:KBP×Bool):Prop where
 sb:SB hs row T i j (c+5*n) (k+1296*n) (l+n) a.1
 vs:cur i j a.1=dj hs ?zG (rs.take n) v
 up:a.2=true->∃ x,v x<cur i j a.1 x
 no:a.2=false->cur i j a.1=v/\∀ r∈rs.take n,r.2.2*wv hs ?zG v r<=v r.1
theorem nK(hT:∀ x i j,?yL)(g:?DF)(hr:∀ r∈rs,?Bb)(hij:i<j)(hj:?O)(h5:?zY)(hc:?jG):∀ n,n<=rs.length->RnB hs row T i j c k l n rs ?F8 ((?BU).foldl ?CT (s,?AE))
 |0,_=>⟨g,rfl,(fun h=>by cases h),fun _=>⟨rfl,fun r hr=>by simp at hr⟩⟩
 |n+1,hn=>by
  have a:=nK hT g hr hij hj h5 hc n ?A;have hg:rs[n]?=some rs[n]:=yj ?A;have hm:=yr hg;rw[YC,yY,Yi,qH];generalize (?BU).foldl ?CT (s,?AE)=st at *;have gd:rs.getD n ("", [],0)=rs[n]:=by rw[yv,hg];rfl
  unfold VS;rw[gd];generalize rs[n]=r at *;obtain⟨t1,t2,t3⟩:=Dq (n:=n) hT a.sb (hr r hm) hij hj h5 ?A;have ge:∀ x,cur i j s x<=cur i j st.1 x:=fun x=>by rw[a.vs];exact WQ x
  refine⟨?_,?_,fun q=>?_,fun q=>?_⟩
  .have:=t1;rw[show c+5*n+5=c+5*(n+1) by lia,show k+1296*n+1296=k+1296*(n+1) by lia] at this;exact this
  .rw[t2,Yl hg,a.vs];unfold dj;rw[yY];rfl
  .dsimp only at q ⊢;rw[t2];by_cases z:(vq hs row i j st.1 n r).2=true
   .rw[t3] at z;have z:=of_decide_eq_true z;refine⟨r.1,?_⟩;have:upV hs ?zG (cur i j st.1) r r.1=r.2.2*wv hs ?zG (cur i j st.1) r:=by
     unfold upV mx;rw[yc rfl,yc z]
    rw[this];have:=ge r.1;grind
   .have z':st.2=true:=by
     rw[Bool.or_eq_true] at q;exact q.resolve_left z
    obtain⟨x,hx⟩:=a.up z';have:=W1 (hs:=hs) (e:=fun r=>mP hs row T r.2.1 i j) (v:=cur i j st.1) (r:=r) x;exact⟨x,by grind⟩
  .dsimp only at q ⊢;rw[Bool.or_eq_false_iff] at q;obtain⟨v0,all⟩:=a.no q.2;have z:=q.1;rw[t3,v0] at z;have z:=of_decide_eq_false z;refine⟨?_,fun x hx=>?_⟩
   .rw[t2,v0];funext h;unfold upV mx;by_cases e:h=r.1
    .rw[yc e,e,yd z]
    .rw[yd e]
   .rw[Yl hg] at hx;rcases Yw.mp hx with y|y
    .exact all x y
    .rw[yE.mp y];grind
theorem bK(hT:∀ x i j,?yL)(g:?DF)(hr:∀ r∈rs,?Bb)(hij:i<j)(hj:?O)(h5:?zY)(hc:?jG):RnB hs row T i j c k l rs.length rs ?F8 ?Fh:=nK hT g hr hij hj h5 hc rs.length ?AC
def stR (hs row:?A1)(rs:?A4)(i j:Nat)(s:KBP):Nat->KBP
 |0=>s
 |n+1=>(rnd hs row rs i j ?EV).1
theorem ca(hT:∀ x i j,?yL)(g:?DF)(hr:∀ r∈rs,?Bb)(hij:i<j)(hj:?O)(h5:?zY)(hc:?jG)(h0:∀ h,cur i j s h=0):∀ n,SB hs row T i j (c+5*rs.length*n) (k+1296*rs.length*n) (l+rs.length*n) ?EV/\cur i j ?EV=Zb hs ?zG rs n
 |0=>⟨g,funext h0⟩
 |n+1=>by
  have a:=ca hT g hr hij hj h5 hc h0 n;have b:=bK hT a.1 hr hij hj h5 ?A;rw[stR];refine⟨?_,?_⟩
  .have:=b.sb;rw[show c+5*rs.length*n+5*rs.length=c+5*rs.length*(n+1) by rw[Nat.mul_add,Nat.mul_one];lia,show k+1296*rs.length*n+1296*rs.length=k+1296*rs.length*(n+1) by rw[Nat.mul_add,Nat.mul_one];lia,show l+rs.length*n+rs.length=l+rs.length*(n+1) by rw[Nat.mul_add,Nat.mul_one];lia] at this;exact this
  .rw[b.vs,yM,a.2];rfl
theorem dl(hT:∀ x i j,?yL)(g:?DF)(hr:∀ r∈rs,?Bb)(hh:∀ r∈rs,r.1∈hs)(hij:i<j)(hj:?O)(h5:?zY)(hc:?jG)(h0:∀ h,cur i j s h=0):(rnd hs row rs i j (stR hs row rs i j s hs.length)).2=false:=by
 have a:=ca hT g hr hij hj h5 hc h0 hs.length;have b:=bK hT a.1 hr hij hj h5 ?A;cases q:(rnd hs row rs i j (stR hs row rs i j s hs.length)).2 with
 |false=>rfl
 |true=>
  obtain⟨x,hx⟩:=b.up q;rw[b.vs,yM,a.2] at hx;have e:=iW (e:=fun r=>mP hs row T r.2.1 i j) (rs:=rs) (fun r hr'=>⟨(hr r hr').pos,(hr r hr').one⟩) hh x;have:Zb hs ?zG rs (hs.length+1) x=dj hs ?zG rs (Zb hs ?zG rs hs.length) x:=rfl;rw[←this,e] at hx;grind
theorem cA:∀ {m n:Nat},(∃ k,k<=m/\(?uA).2=false)->∃ k,k<=m/\(?uA).2=false/\V5 hs row rs i j (m+1) ?EV=stR hs row rs i j s (n+k+1)
 |m,n,h=>by
  cases q:(rnd hs row rs i j (stR hs row rs i j s n)).2 with
  |false=>
   refine⟨0,Y0 _,q,?_⟩;rw[V5,yd ?qI];rfl
  |true=>
   obtain⟨k,hk,e⟩:=h;cases k with
   |zero=>rw[Nat.add_zero,q] at e;cases e
   |succ k=>
    cases m with
    |zero=>lia
    |succ m=>
     obtain⟨k',h1,h2,h3⟩:=cA (m:=m) (n:=n+1) ⟨k,?A,by rw[show n+1+k=n+(k+1) by lia];exact e⟩;refine⟨k'+1,?A,by rw[show n+(k'+1)=n+1+k' by lia];exact h2,?_⟩;rw[V5,yc q];rw[show n+(k'+1)+1=n+1+k'+1 by lia];exact h3
theorem fx {e:?V}(hp:∀ r∈rs,0<=r.2.2):∀ {rs':List yw} {v:Str->Rat},(∀ r∈rs',r∈rs)->(∀ h,v h<=mxF (fun r=>if r.1=h then r.2.2*wv hs e v r else 0) rs)->∀ h,dj hs e rs' v h<=mxF (fun r=>if r.1=h then r.2.2*wv hs e (dj hs e rs' v) r else 0) rs
 |[],v,_,p,h=>p h
 |r::rs',v,hs',p,h=>by
  refine fx hp (rs':=rs') (v:=?Gm) (fun z hz=>hs' z (ye _ hz)) ?yT h;have mono:∀ h,mxF (fun r=>if r.1=h then r.2.2*wv hs e v r else 0) rs<=mxF (fun r'=>?uC) rs:=fun h=>Xh WR fun q hq=>by
   refine yV ?_ (Ki (f:=fun r'=>?uC) hq);split
   .exact Ye (uQ fun x=>W1 x) (hp q hq)
   .exact yJ
  have hr:=hs' r (by simp);by_cases z:h=r.1
  .have:upV hs e v r h=mx (v h) (r.2.2*wv hs e v r):=by unfold upV;rw[yc z]
   rw[this];refine nl (yV (p h) (mono h)) ?_;have:=Ki (f:=fun r'=>?uC) hr;rw[yc z.symm] at this;exact yV (Ye (uQ fun x=>W1 x) ?Cb) this
  .have:upV hs e v r h=v h:=by unfold upV;rw[yd z]
   rw[this];exact yV (p h) (mono h)
theorem wN {e:?V}(hp:∀ r∈rs,0<=r.2.2):∀ {n:Nat} (h:Str),Zb hs e rs n h<=mxF (fun r=>if r.1=h then r.2.2*wv hs e (Zb hs e rs n) r else 0) rs
 |0,h=>WR
 |n+1,h=>fx hp (fun r hr=>hr) (fun x=>wN hp x) h
structure Done (hs row:?A1)(T:?S)(i j c k l:Nat)(rs:?A4)(s':KBP):Prop where
 sb:SB hs row T i j (c+5*rs.length*?yS) (k+1296*rs.length*?yS) (l+rs.length*?yS) s'
 fix:∀ h,cur i j s' h=mxF (fun r=>if r.1=h then r.2.2*wv hs ?zG (cur i j s') r else 0) rs
 rn:∃ n,cur i j s'=Zb hs ?zG rs n
theorem SB.more(g:?DF)(h1:c<=c')(h2:k<=k')(h3:l<=l'):SB hs row T i j c' k' l' s:=⟨g.eq,g.agr,g.kz,fun h=>⟨(?FH).1,(?FH).2.mono h1⟩,g.kp,g.ke,yz g.kl h2,yz g.bl h3⟩
theorem pj(hT:∀ x i j,?yL)(g:?DF)(hr:∀ r∈rs,?Bb)(hh:∀ r∈rs,r.1∈hs)(hij:i<j)(hj:?O)(h5:?zY)(hc:?jG)(h0:∀ h,cur i j s h=0):Done hs row T i j c k l rs (V5 hs row rs i j ?yS s):=by
 obtain⟨n,hn,e1,e2⟩:=cA (hs:=hs) (row:=row) (rs:=rs) (i:=i) (j:=j) (s:=s) (m:=hs.length) (n:=0) ⟨hs.length,yg _,by rw[qK];exact dl hT g hr hh hij hj h5 hc h0⟩;rw[qK] at e1 e2;have e2:V5 hs row rs i j (hs.length+1) s=stR hs row rs i j s (n+1):=e2;rw[e2];have a:=ca hT g hr hij hj h5 hc h0 n;have a1:=ca hT g hr hij hj h5 hc h0 (n+1);have b:=(bK hT a.1 hr hij hj h5 ?A).no e1;rw[yM] at b;refine⟨a1.1.more ?_ ?_ ?_,fun h=>?_,n+1,a1.2⟩
 .have:=qT (5*rs.length) (show n+1<=hs.length+1 by lia);lia
 .have:=qT (1296*rs.length) (show n+1<=hs.length+1 by lia);lia
 .have:=qT rs.length (show n+1<=hs.length+1 by lia);lia
 .have ev:cur i j (stR hs row rs i j s (n+1))=cur i j (stR hs row rs i j s n):=b.1;rw[ev];refine qN ?_ (Xh (a.1.cur h).1 fun r hr'=>?_)
  .rw[a.2];exact wN (fun r hr'=>(hr r hr').pos) h
  .split
   .rename_i q;rw[←q];exact b.2 r hr'
   .exact(a.1.cur h).1
end
structure NB (i j:Nat)(s s':KBP):Prop where
 eq:s'.1.1.length=s'.1.2.length
 nn:∀ h a b,0<=(qu s'.1 h a b).1
 ot:∀ h a b,¬ (a=i/\b=j)->qu s'.1 h a b=qu s.1 h a b
section
theorem Em(g:NB i j s s'):NB i j s (vq hs row i j s' n r).1:=by
 unfold vq;split
 .rename_i q;refine⟨V1 g.eq,fun h a b=>?_,fun h a b z=>?_⟩
  .show 0<=(qu (U9 s'.1 r.1 i j _) h a b).1;rw[Zr g.eq];split
   .have:=g.nn r.1 i j;dsimp only;grind
   .exact g.nn h a b
  .show qu (U9 s'.1 r.1 i j _) h a b=_;rw[Zr g.eq,yd (fun y=>z y.2)];exact g.ot h a b z
 .exact⟨g.eq,g.nn,g.ot⟩
theorem BS(g:NB i j s s'):NB i j s (rnd hs row rs i j s').1:=by
 unfold rnd;have go:∀ (ns:List Nat) (a:KBP×Bool),NB i j s a.1->NB i j s (ns.foldl ?CT a).1:=by
  intro ns
  induction ns with
  |nil=>intro a h;exact h
  |cons n ns ih=>intro a h;exact ih _ (Em h)
 exact go _ _ g
theorem cD:∀ {m:Nat} {s':KBP},NB i j s s'->NB i j s (V5 hs row rs i j m s')
 |0,s',g=>g
 |m+1,s',g=>by
  rw[V5];split
  .exact cD (BS g)
  .exact BS g
end
def Jh (rs:?A4)(row:?A1)(k:Nat):KBP:=((?AS).take k).foldl (fun s p=>V5 ?A5 row rs p.1 p.2 ((?A5).length+1) s) (([],[]),[])
def kbF (rs:?A4)(row:?A1):Kb:=(Jh rs row (?AS).length).1
def BT (rs:?A4)(row:?A1)(h:Str)(i j:Nat):Rat:=(qu ?BZ h i j).1
theorem Z3(h:?qC):Jh rs row (k+1)=V5 ?A5 row rs p.1 p.2 ((?A5).length+1) ?AW:=by
 unfold Jh;rw[Yl h,yY];rfl
section
variable {rs:?A4}{row:?A1}
theorem cB:∀ k,k<=(?AS).length->(?AW).1.1.length=(?AW).1.2.length/\∀ h a b,0<=(qu (?AW).1 h a b).1
 |0,_=>⟨rfl,fun h a b=>yJ⟩
 |k+1,hk=>by
  have hp:(YT row.length)[k]?=some (YT row.length)[k]:=yj ?A;have ih:=cB k ?A;rw[Z3 hp];have:=cD (hs:=?A5) (row:=row) (rs:=rs) (m:=(?A5).length+1) (⟨ih.1,ih.2,fun _ _ _ _=>rfl⟩:NB (?AS)[k].1 (?AS)[k].2 ?AW ?AW);exact⟨this.eq,this.nn⟩
theorem UW(hp:?qC)(h:Str)(z:¬ (a=p.1/\b=p.2)):qu (Jh rs row (k+1)).1 h a b=qu (?AW).1 h a b:=by
 have hk:=(?EM).1;have ih:=cB (rs:=rs) (row:=row) k ?A;rw[Z3 hp];exact(cD (hs:=?A5) (row:=row) (rs:=rs) (m:=(?A5).length+1) (⟨ih.1,ih.2,fun _ _ _ _=>rfl⟩:NB p.1 p.2 ?AW ?AW)).ot h a b z
theorem ar (h:Str):∀ k,k<=(?AS).length->∀ i j,(i,j)∉(?AS).take k->qu (?AW).1 h i j=(0,.non)
 |0,_,i,j,_=>rfl
 |k+1,hk,i,j,hn=>by
  have hp:(YT row.length)[k]?=some (YT row.length)[k]:=yj ?A;rw[Yl hp] at hn;rw[UW hp h fun z=>hn (by rw[z.1,z.2];exact y6 _ ?Hm)];exact ar h k ?A i j fun z=>hn (Yu _ z)
theorem UO (h5:?zY)(h:Str):∀ d k,k+d=(?AS).length->(i,j)∈(?AS).take k->qu (?AW).1 h i j=qu ?BZ h i j
 |0,k,hd,_=>by
  unfold kbF;rw[show k=(YT row.length).length by lia]
 |d+1,k,hd,hm=>by
  have hp:(YT row.length)[k]?=some (YT row.length)[k]:=yj ?A;rw[←UO h5 h d (k+1) (by lia) (by rw[Yl hp];exact Yu _ hm),UW hp];intro z;have nd:=(KG h5).sublist (qF (k+1) _);rw[Yl hp,Yr] at nd;exact nd.2.2 _ hm _ (by simp) (Prod.ext z.1 z.2)
theorem ax (h:Str)(i j:Nat):0<=BT rs row h i j:=(cB (rs:=rs) (row:=row) _ ?AC).2 h i j
theorem B4 (h5:?zY)(hp:?qC):Ew row ?BQ (?AW).1 (p.2 - p.1):=fun h i j hij hj hl=>by
 have hk:=(?EM).1;have e:(YT row.length).getD k (0,0)=p:=by rw[yv,hp];rfl
 unfold BT;rw[UO h5 h ((YT row.length).length - k) k (by lia) (oN h5 hk hij hj (by rw[e];exact hl))]
structure GB (rs:?A4)(row:?A1):Prop where
 rl:rs.length<=12
 wl:row.length<=5
 hl:(?A5).length<=3
 ru:∀ r∈rs,RuB ?A5 r
 hh:∀ r∈rs,r.1∈yt rs
structure AB (rs:?A4)(row:?A1)(k:Nat)(s:KBP):Prop where
 eq:s.1.1.length=s.1.2.length
 kz:∀ n,KbZ n s.1
 kp:KpZ s.2
 ke:KpE ?A5 row ?BQ s.2
 kl:s.2.length<=62208*k
 bl:s.1.1.length<=48*k
theorem AB.sb(g:?B8)(a:AB rs row k ?AW)(hp:?qC):SB ?A5 row ?BQ p.1 p.2 (4*BB ?wR+1) (62208*k) (48*k) ?AW/\∀ h,cur p.1 p.2 ?AW h=0:=by
 have hk:=(?EM).1;have z:∀ h,qu (?AW).1 h p.1 p.2=(0,.non):=fun h=>ar h k ?A _ _ fun y=>by
  have nd:=(KG g.wl).sublist (qF (k+1) _);rw[Yl hp,Yr] at nd;exact nd.2.2 _ y p (by simp) rfl
 have z':∀ h,cur p.1 p.2 ?AW h=0:=fun h=>by unfold cur;rw[z]
 exact⟨⟨a.eq,B4 g.wl hp,a.kz _,fun h=>by rw[z'];exact⟨yJ,?F3⟩,a.kp,a.ke,a.kl,a.bl⟩,z'⟩
theorem AB.done(g:?B8)(a:AB rs row k ?AW)(hp:?qC):Done ?A5 row ?BQ p.1 p.2 (4*BB ?wR+1) (62208*k) (48*k) rs (Jh rs row (k+1)):=by
 have hi:=ZT (yr hp);have s:=a.sb g hp;rw[Z3 hp];exact pj ax s.1 g.ru g.hh hi.1 hi.2 g.wl ?AC s.2
theorem Ib(h1:a<=12)(h2:b<=3):5*a*(b+1)<=240/\1296*a*(b+1)<=62208/\a*(b+1)<=48:=by
 have:=qa h1 (show b+1<=4 by lia);have e1:5*a*(b+1)=5*(a*(b+1)):=Nat.mul_assoc ..;have e2:1296*a*(b+1)=1296*(a*(b+1)):=Nat.mul_assoc ..;lia
theorem uC (g:?B8):∀ k,k<=(?AS).length->AB rs row k ?AW
 |0,_=>⟨rfl,fun n h i j _ _=>⟨yJ,Uq.mono Hh⟩,(fun p hp=>by cases hp),(fun p hp=>by cases hp),Y0 _,Y0 _⟩
 |k+1,hk=>by
  have hp:(YT row.length)[k]?=some (YT row.length)[k]:=yj ?A;have a:=uC g k ?A;have d:=a.done g hp;have st:=fun h a b=>UW (rs:=rs) hp h (a:=a) (b:=b);have hi:=ZT (yr hp);generalize (?AS)[k]=p at *;have c:=Ib g.rl g.hl;refine⟨d.sb.eq,fun n h i j hij hn=>?_,d.sb.kp,d.sb.ke,yz d.sb.kl ?A,yz d.sb.bl ?A⟩;by_cases z:i=p.1/\j=p.2
  .rw[z.1,z.2];have:=d.sb.cur h;refine⟨this.1,this.2.mono ?_⟩;obtain⟨m,hm⟩:∃ m,p.2 - p.1=m+1:=⟨?wR,?A⟩
   rw[hm,BB,Nat.add_sub_cancel];lia
  .rw[st h i j z];exact a.kz n h i j hij hn
theorem EU (g:?B8)(hij:i<j)(hj:?O)(h:Str):BT rs row h i j=mxF (fun r=>if r.1=h then r.2.2*mP ?A5 row ?BQ r.2.1 i j else 0) rs:=by
 obtain⟨k,hk,hp⟩:=List.mem_iff_getElem.mp (Ub hij hj);have hp:(YT row.length)[k]?=some (i,j):=by rw[yj hk,hp]
 have d:=(uC g k ?A).done g hp;have e:∀ h,cur i j (Jh rs row (k+1)) h=BT rs row h i j:=fun h=>by
  unfold cur BT;rw[UO g.wl h ((YT row.length).length - (k+1)) (k+1) (by lia) (by rw[Yl hp];simp)]
 rw[←e,d.fix h];refine aI fun r hr=>?_;split
 .congr 1;unfold wv;split
  .rename_i q;obtain⟨o1,o2⟩:=dh q;rw[e,o1,lF ax hij];unfold wT;rw[yc o2]
  .rfl
 .rfl
theorem AW (g:?B8)(hij:i<j)(hj:?O)(h:Str):0<=BT rs row h i j/\Sz 200000 (BT rs row h i j):=by
 have:=(uC g _ ?AC).kz ?I h i j hij ?AC;have wl:=g.wl;exact⟨this.1,this.2.mono (DB ?A)⟩
theorem eK {a b:Rat}(ha:0<=a)(hb:0<=b)(h:0<a*b):0<a/\0<b:=by
 refine⟨?_,?_⟩
 .by_cases z:a=0
  .rw[z] at h;simp[Rat.zero_mul] at h
  .grind
 .by_cases z:b=0
  .rw[z] at h;simp[Jr] at h
  .grind
end
section
theorem fG {i j k:Int}(ha:?B2)(hb:?B0)(hc:P3 X Γ c (.int k))(hm:lastMarks [.LtE,.Lt] [b,c]=false:=by with_unfolding_all rfl):PT3 X Γ (.Compare a [.LtE,.Lt] [b,c] pos) (decide (i<=j)&&decide (j<k)):=
 PT.of (CI sQ Fb ha hb hc hm) fun σ H Q zq=>by
  obtain⟨F,fh,sl,q⟩:=zq;refine⟨F,fh,sl,fun v1 H1 F1 p1 i1=>⟨F1,?BF,?C3,fun v2 H2 F2 p2 i2=>⟨i,j,isI i1,?Br,decide (i<=j),rfl,?_⟩⟩⟩;cases e:decide (i<=j) with
  |true=>
   rw[yc rfl];refine⟨F2,p2.fh,?GT,fun v3 H3 F3 p3 i3=>⟨j,k,?Br,isI i3,_,rfl,?_⟩⟩;have:=q _ _ ((?Bl).trans p3);rw[e,Bool.true_and] at this;exact this
  |false=>
   rw[yd yN];have:=q _ _ ?Bl;rw[e,Bool.false_and] at this;exact⟨_,rfl,this⟩
end
end L3
namespace PySem
open Sem (wp)
section
theorem J1(hI:?Lk)(hT:s.heap.IsTuple t us)(hx:us[i]?=some x)
  (k:∀ g,g.IsTupleIter it t (i+1)->Heap.SameBut it s.heap g->Q x {s with heap:=g}):?KX:=by
 obtain⟨o,ho,hc,hd⟩:=id hI;obtain⟨o2,h2,_,m,d2⟩:=hT;unfold Builtin.SmallTypes.nextOf;refine ya ?KV;show wpAny _ _ (field ?CE 0 >>= _) _ _ _;refine ya ?LY;show wpAny _ _ (if (Value.ref t==Value.none)=true then _ else _) _ _ _;rw[yd (show ¬ ((Value.ref t==Value.none)=true) from fun z=>nomatch z)];show wpAny _ _ (field ?CE 1 >>= _) _ _ _;refine ya ?LK;refine ya (Yy h2 d2 ?_);simp only[qG,hx];refine ya (wpAny_setField ho hd (by simp) (ym ⟨x,rfl,ym (k _ ⟨_,Heap.get?_update_self _ ho (Obj.isFreed_of_fields (Obj.data_mapFields hd _)),(Obj.cls_mapFields ..).trans hc,?_⟩ (Heap.SameBut.update ..))⟩));rw[Obj.data_mapFields hd];simp[rawInt]
theorem zE(hh:?yJ)(hI:?Lk)(hT:s.heap.IsTuple t us)(hx:us[i]?=none)
  (k:∀ g e,Heap.ExtBut it s.heap g->?xY->E (.ref e) {s with heap:=g}):?KX:=by
 obtain⟨o,ho,hc,hd⟩:=id hI;obtain⟨o2,h2,_,m,d2⟩:=hT;unfold Builtin.SmallTypes.nextOf;refine ya ?KV;show wpAny _ _ (field ?CE 0 >>= _) _ _ _;refine ya ?LY;show wpAny _ _ (if (Value.ref t==Value.none)=true then _ else _) _ _ _;rw[yd (show ¬ ((Value.ref t==Value.none)=true) from fun z=>nomatch z)];show wpAny _ _ (field ?CE 1 >>= _) _ _ _;refine ya ?LK;refine ya (Yy h2 d2 ?_);simp only[qG,hx];refine ya (wpAny_rule (ya (wpAny_setField ho hd (by simp) ?_)));refine ya (m:=newExc (.type "StopIteration") []) ?_;simp only[newExc,newTuple];refine ya (qE (ya (m:=firstArgMember _ _) (wpAny_of_eq (a:=Value.none) (by first|rfl|(simp only[firstArgMember];rfl)) (qE ?_ (by size_fits)))) (by size_fits));simp only[raiseNew];refine ya (wpAny_handled ?_)
 first|rw[show A.in1.handled=none from hh]|rw[hh]
 exact ya (ym (wpAny_throw (k _ _ (((Heap.SameBut.update ..).extBut.push _).push _) ⟨_,?Be,rfl⟩)))
abbrev Vh (h:Heap)(z TI TO:Addr)(f0:?AJ)(f1:Bool):Prop:=h.get? z=some {cls:=?yI, dict:=none,data:=.fields #[f0,.bool f1,.bool false,.ref TI,.ref TO],slots:=#[]}
structure ZipT (h:Heap)(TI i1 i2 t1 t2:Addr)(xs ys:?BL)(k:Nat):Prop where
 pr:IsPair h TI (.ref i1) (.ref i2)
 a1:h.IsTupleIter i1 t1 k
 a2:h.IsTupleIter i2 t2 k
 b1:h.IsTuple t1 xs
 b2:h.IsTuple t2 ys
theorem pk {z TI TO i1 i2 t1 t2:Addr}{k:Nat}{Q:?zA}(D:?Eh)(hz:Vh s.heap z TI TO .none false)(c:?L3)(ho:?Hf)(hx:xs[k]?=some x)(hy:ys[k]?=some y)
  (K:∀ g,Vh g z TI TO ?MZ false->IsPair g TO x y->ZipT g TI i1 i2 t1 t2 xs ys (k+1)->IsPair g s.heap.objs.size x y->g.objs.size=s.heap.objs.size+1->?qT->Q ?Eo {s with heap:=g}) :
  wpAny ?AG A ?yN ?uH E s:=by
 show wpAny _ _ (field ?Ao 2 >>= _) _ _ _;refine ya ?IN;show wpAny _ _ (field ?Ao 3 >>= _) _ _ _;refine ya ?Ia;refine ya ?K6;show wpAny _ _ ?wX _ _ _;refine ya ?_;unfold Builtin.SmallTypes.ownedTupleIsFree;refine ya (y4 (s:=s) hz rfl (x:=?Ab) rfl (ym ?_));simp only[if_true];refine ya (wpAny_rule (ya (y4 (s:=s) hz rfl (x:=.ref TO) rfl (ya (Yj hz (by simp) fun g1 z1 s1=>ya ?_)))));have z1:Vh g1 z TI TO .ellipsis false:=z1;simp only[List.zipIdx_cons,List.zipIdx_nil,QX,jU];refine ya (ya ?DP);show wpAny _ _ ?qX _ _ _;refine ya (J1 ?Bz ?By hx fun g2 j1 s2=>ym ?_);have o2:IsPair g2 TO a b:=s2.extBut _ _ D.TOi1 ?HO;refine ya (Yy o2 rfl (ya (qv o2 fun g3 o3 s3=>ya (wpAny_letGo (ym ?_)))));have o3:IsPair g3 TO x b:=o3;refine ya (ya ?DP);show wpAny _ _ ?qW _ _ _;refine ya (J1 ?xE ?xG hy fun g4 j2 s4=>ym ?_);have o4:IsPair g4 TO x b:=s4.extBut _ _ D.TOi2 o3;refine ya (Yy o4 rfl (ya (qv o4 fun g5 o5 s5=>ya (wpAny_letGo (ym (ym ?_))))));have o5:IsPair g5 TO x y:=o5;refine ya (Yy o5 rfl (ya (wpAny_newTuple ?_)));have sz:g5.objs.size=s.heap.objs.size:=by rw[s5.1,s4.1,s3.1,s2.1,s1.1]
 have z5:Vh g5 z TI TO .ellipsis false:=s5.extBut _ _ D.TOz.symm ?MR;have k5:∀ b o,b≠z->b≠TO->b≠i1->b≠i2->s.heap.get? b=some o->g5.get? b=some o:=fun b o c1 c2 c3 c4 e=>
  s5.extBut _ _ c2 ?Km
 have j1':g5.IsTupleIter i1 t1 (k+1):=((?MQ).extBut s4.extBut D.i12).extBut s5.extBut D.TOi1.symm;have j2':g5.IsTupleIter i2 t2 (k+1):=j2.extBut s5.extBut D.TOi2.symm;have lz:z<g5.objs.size:=yn z5;show wpAny _ _ (Builtin.SmallTypes.ownedTupleHandOut ?Ao ?Hv >>= _) _ _ _;refine ya ?_;unfold Builtin.SmallTypes.ownedTupleHandOut;have z6:Vh (g5.push {cls:=?zQ, data:=.seq #[x,y]}) z TI TO .ellipsis false:=yh _ z5;refine ya (Yj z6 (by simp) fun g7 z7 s7=>?_);have z7:Vh g7 z TI TO (rawInt g5.objs.size) false:=z7;refine Yj z7 (by simp) fun g8 z8 s8=>?_;have z8:Vh g8 z TI TO (rawInt g5.objs.size) false:=z8;have up:∀ b o,b≠z->g5.get? b=some o->g8.get? b=some o:=fun b o c1 e=>s8.extBut _ _ c1 (s7.extBut _ _ c1 ?At);have nw:IsPair g8 g5.objs.size x y:=s8.extBut _ _ (qW lz) ?MX;have sz8:g8.objs.size=g5.objs.size+1:=by rw[s8.1,s7.1,YU]
 rw[sz] at z8 nw sz8;refine ym ?Hx;show Q ?Hv _;rw[sz];have w5:∀ b o,b≠z->b≠TO->b≠i1->b≠i2->s.heap.get? b=some o->g8.get? b=some o:=fun b o c1 c2 c3 c4 e=>up b o c1 (k5 b o c1 c2 c3 c4 e);exact K g8 z8 (up _ _ D.TOz o5) ⟨?ML,j1'.at fun o e=>up _ o D.i1z e,j2'.at fun o e=>up _ o D.i2z e,(let ⟨o,q,r⟩:=c.b1;?MF),(let ⟨o,q,r⟩:=c.b2;?MD)⟩ nw sz8 w5
theorem dY(ho:s.heap.get? a=some o)(h:Q (some o) s):?L9:=fun Γ p _=>by
 unfold loadIfAlive;rw[Sem.wp_loadIfAlive,ho];exact(Sem.wp_pure ..).mpr h
theorem rA {z TI TO T:Addr}(hz:?Lu)(hT:s.heap.get? T=some oT)(K:∀ g,Vh g z TI TO ?Dy true->Heap.SameBut z s.heap g->Q false {s with heap:=g}) :
  wpAny ?AG A ?Kh Q E s:=by
 unfold Builtin.SmallTypes.ownedTupleIsFree;refine ya ?L8;show wpAny _ _ (loadIfAlive T >>= _) _ _ _;refine ya (dY hT ?_);simp only[Option.isNone_some,Y3,if_false];refine ya ?Ku;cases f1 with
 |true=>exact ym (K s.heap hz (Heap.SameBut.refl ..))
 |false=>exact ya (Yj hz (by simp) fun g z1 s1=>ym (K g z1 s1))
theorem A6 {z TI TO i1 i2 t1 t2:Addr}(hh:?yJ)(D:?Eh)(hz:?Gr)(hf:(f0=.none/\f1=false)∨∃ T o,f0=rawInt (T:Nat)/\s.heap.get? T=some o)(c:?L3)(ho:?Hf)(hend:xs[k]?=none∨ys[k]?=none)
  (K:∀ g e,?qT->?xY->E (.ref e) {s with heap:=g}) :
  wpAny ?AG A ?yN Q E s:=by
 show wpAny _ _ (field (.ref z) 2 >>= _) _ _ _;refine ya (y4 (s:=s) hz rfl (x:=.bool false) rfl ?_);show wpAny _ _ (field (.ref z) 3 >>= _) _ _ _;refine ya (y4 (s:=s) hz rfl (x:=.ref TI) rfl ?_);refine ya (Yy (s:=s) c.pr rfl ?_);show wpAny _ _ ?wX _ _ _;refine ya ?_;rcases hf with ⟨rfl,rfl⟩|⟨T,oT,rfl,hT⟩
 .unfold Builtin.SmallTypes.ownedTupleIsFree;refine ya (y4 (s:=s) hz rfl (x:=.none) rfl (ym ?_));simp only[if_true];refine ya (wpAny_rule (ya (y4 (s:=s) hz rfl (x:=.ref TO) rfl (ya (Yj hz (by simp) fun g1 z1 s1=>ya ?_)))));have z1:Vh g1 z TI TO .ellipsis false:=z1;simp only[List.zipIdx_cons,List.zipIdx_nil,QX,jU];refine ya (ya ?DP);show wpAny _ _ ?qX _ _ _;cases hx:xs[k]? with
  |none=>
   refine ya (zE hh ?Bz ?By hx fun g2 e s2 he=>?_);obtain⟨oe,h1,h2⟩:=he;have z2:Vh g2 z TI TO .ellipsis false:=s2 _ _ D.i1z.symm z1;have ne:e≠z:=fun q=>by subst q;rw[z2] at h1;cases h1;simp at h2
   exact Yj z2 (by simp) fun g3 _ s3=>K g3 e (fun b o c1 _ c3 _ q=>s3.extBut _ _ c1 ?HM) ⟨oe,s3.extBut _ _ ne h1,h2⟩
  |some x=>
   have hy:ys[k]?=none:=hend.resolve_left ?kQ;refine ya (J1 ?Bz ?By hx fun g2 j1 s2=>ym ?_);have o2:IsPair g2 TO a b:=s2.extBut _ _ D.TOi1 ?HO;refine ya (Yy o2 rfl (ya (qv o2 fun g3 o3 s3=>ya (wpAny_letGo (ym (ya (ya ?DP)))))));show wpAny _ _ ?qW _ _ _;refine ya (zE hh ?xE ?xG hy fun g4 e s4 he=>?_);obtain⟨oe,h1,h2⟩:=he;have z4:Vh g4 z TI TO .ellipsis false:=s4 _ _ D.i2z.symm ?I3;have ne:e≠z:=fun q=>by subst q;rw[z4] at h1;cases h1;simp at h2
   exact Yj z4 (by simp) fun g5 _ s5=>K g5 e (fun b o c1 c2 c3 c4 q=>?Kd) ⟨oe,s5.extBut _ _ ne h1,h2⟩
 .refine rA hz hT fun g1 z1 s1=>?_;simp only[Y3,if_false,←Array.forIn_toList,QX,jU];refine ya (ya (ya (YG ?_)));show wpAny _ _ ?qX _ _ _;cases hx:xs[k]? with
  |none=>exact ya (zE hh ?Bz ?By hx fun g2 e s2 he=>K g2 e (fun b o c1 _ c3 _ q=>?HM) he)
  |some x=>
   have hy:ys[k]?=none:=hend.resolve_left ?kQ;refine ya (J1 ?Bz ?By hx fun g2 j1 s2=>ym (ym ?_));refine ya (ya (YG ?_));show wpAny _ _ ?qW _ _ _;exact ya (zE hh ?vQ ?vY hy fun g4 e s4 he=>K g4 e (fun b o c1 c2 c3 c4 q=>s4 _ _ c4 ?Id) he)
theorem XJ {TI TO:Addr}(hz:?Gr)(h:∀ A' E',wpAny ?AG A' ?yN (fun fin s'=>∃ v,fin=.done (.ret v)/\Q ?Cf s') E' s) :
  wpAny ?AG A ?Ee Q E s:=by
 have hT:s.TypeIs (.ref z) "zip" := ?Fq
 unfold pyNext;refine ya (wpAny_attempt (YN (name:=?wW) hT F.slot_zip_next (YQ F.slot_zip_next hT F.entry_zip_next (Y7 (h _ _) (fun fin s' q=>?_) fun _ _ e=>e) ?Gk)));obtain⟨v,rfl,q⟩:=q;exact⟨v,rfl,ym q⟩
theorem bf {z TI TO:Addr}(hz:?Gr)(hh:?yJ)
  (h:∀ A' (Q':Fin->Shared->Prop) (E':Value->Shared->Prop),A'.handled=none->(∀ e s',(∃ o,s'.heap.get? e=some o/\o.cls=.type "StopIteration")->Q none s'->E' (.ref e) s')->wpAny ?AG A' ?yN Q' E' s) :
  wpAny ?AG A ?Ee Q E s:=by
 have hT:s.TypeIs (.ref z) "zip" := ⟨_,hz,rfl⟩
 unfold pyNext;refine ya (wpAny_attempt (YN (name:=?wW) hT F.slot_zip_next (YQ F.slot_zip_next hT F.entry_zip_next (h _ _ _ hh fun e s' ho q=>?_) ?Gk)));obtain⟨o,ho,hc⟩:=ho;exact ya (wpAny_isInstance (T:="StopIteration") (b:=true) ⟨o,ho,hc⟩ isSubtype_stop (ym q))
theorem Ev {z TI TO T:Addr}(hz:?Lu)(K:∀ g,Vh g z TI TO .none f1->Heap.SameBut z s.heap g->Q () {s with heap:=g}) :
  wpAny ?AG A (letOwnedTupleGo (.Tuple elts x1 pos) ?Ao (.ref T)) Q E s:=by
 unfold letOwnedTupleGo;refine ya (wpAny_load hz ?_);show wpAny _ _ (if (["enumerate", "zip", "dict_itemiterator", "dict_reverseitemiterator", "odict_iterator", "itertools.zip_longest", "itertools.pairwise"].contains "zip" && (#[rawInt T,.bool f1,.bool false,.ref TI,.ref TO]:?BL)[0]?==some ?Dy)=true then _ else _) Q E s;rw[yc (by simp)];exact ya (wpAny_rule (Yj hz (by simp) fun g z1 s1=>K g z1 s1))
theorem au {z TI TO:Addr}(hz:?Gr)(h:Q ?Ao s):?L1:=by
 have hT:s.TypeIs (.ref z) "zip" := ?Fq
 refine ?KF;show wpAny _ _ (ret ?Ao) _ _ s;exact ym ⟨_,rfl,"zip", _,hT,F.slot_zip_next.lookup,h⟩
abbrev zH1 (h:Heap)(t:Addr):Heap:=h.push {cls:=.type "tuple_iterator", data:=.fields #[.ref t,.int 0 0]}
abbrev zH2 (h:Heap)(t u:Addr):Heap:=zH1 (zH1 h t) u
abbrev zH3 (h:Heap)(t u:Addr):Heap:=(zH2 h t u).push {cls:=?zQ, data:=.seq #[.ref h.objs.size,.ref (zH1 h t).objs.size]}
abbrev zH4 (h:Heap)(t u:Addr):Heap:=(zH3 h t u).push {cls:=?zQ, data:=.seq #[.none,.none]}
abbrev zH5 (h:Heap)(t u:Addr):Heap:=(zH4 h t u).push {cls:=?yI, data:=.fields #[.none,.bool false,.bool false,.ref (zH2 h t u).objs.size,.ref (zH3 h t u).objs.size]}
theorem iY (t u:Addr)(xs ys:?BL):Meets (Builtin.«zip.__new__» ⟨[.type "zip", .ref t,.ref u],[]⟩) (fun _ R s=>s.heap.IsTuple t xs/\s.heap.IsTuple u ys/\R (.ok (.ret (.ref (zH4 s.heap t u).objs.size))) {s with heap:=zH5 s.heap t u}):=
 .of_wp fun prog w A R s h=>by
  obtain⟨hp,g,d,tk,os⟩:=s;obtain⟨q1,q2,h⟩:=h;have hsub:=sub_zip;have r1:Heap.IsTuple (Shared.heap ⟨hp,g,d,tk,os⟩) t xs:=q1;have r2:Heap.IsTuple (Shared.heap ⟨zH1 hp t,g,d,tk,os⟩) u ys:=Heap.IsTuple.push q2 _
  wp_walk using wpAny_pyIter_tuple r1,wpAny_pyIter_tuple r2
  exact⟨_,rfl,h⟩
theorem rC(q1:s.heap.IsTuple t xs)(q2:s.heap.IsTuple u ys)
  (K:∀ g,Vh g (s.heap.objs.size+4) (s.heap.objs.size+2) (s.heap.objs.size+3) .none false->ZipT g (s.heap.objs.size+2) s.heap.objs.size ?zK t u xs ys 0->IsPair g (s.heap.objs.size+3) .none .none->g.objs.size=s.heap.objs.size+5->(∀ c o,s.heap.get? c=some o->g.get? c=some o)->Q (.ref (s.heap.objs.size+4)) {s with heap:=g}) :
  wpAny ?AG A (call ?yI [.ref t,.ref u]) Q E s:=by
 refine callType_new F.called_zip ?B (F.typeCall_zip_2 _ _) (F.newCall_zip_2 _ _) (fun obj=>F.args_object_init_3 obj _ _) F.entry_zip_new (iY t u xs ys) ⟨q1,q2,?_⟩;have n1:(zH1 s.heap t).objs.size=s.heap.objs.size+1:=YU ..;have n2:(zH2 s.heap t u).objs.size=s.heap.objs.size+2:=by rw[YU,n1]
 have n3:(zH3 s.heap t u).objs.size=s.heap.objs.size+3:=by rw[YU,n2]
 have n4:(zH4 s.heap t u).objs.size=s.heap.objs.size+4:=by rw[YU,n3]
 have n5:(zH5 s.heap t u).objs.size=s.heap.objs.size+5:=by rw[YU,n4]
 have up:∀ c o,s.heap.get? c=some o->(zH5 s.heap t u).get? c=some o:=fun c o x=>yh _ (yh _ (yh _ (yh _ (yh _ x))));have g5:(zH5 s.heap t u).get? (zH4 s.heap t u).objs.size=some _:=yF _ rfl;have g4:(zH5 s.heap t u).get? (zH3 s.heap t u).objs.size=some _:=yh _ ?Be;have g3:(zH5 s.heap t u).get? (zH2 s.heap t u).objs.size=some _:=yh _ (yh _ ?Be);have g2:(zH5 s.heap t u).get? (zH1 s.heap t).objs.size=some _:=yh _ (yh _ (yh _ ?Be));have g1:(zH5 s.heap t u).get? s.heap.objs.size=some _:=yh _ (yh _ (yh _ (yh _ ?Be)));show _/\_;rw[n2,n3,n4] at g5;rw[n1,n2] at g3;rw[n3] at g4;rw[n1] at g2;rw[n4];exact⟨⟨_,g5,rfl⟩,K _ g5 ⟨g3,⟨_,g1,rfl,rfl⟩,⟨_,g2,rfl,rfl⟩,(let ⟨o,q,r⟩:=q1;⟨o,up _ _ q,r⟩),(let ⟨o,q,r⟩:=q2;⟨o,up _ _ q,r⟩)⟩ g4 n5 up⟩
end
namespace RV
end RV
section
end
section
variable {St:Nat->Shared->Prop}
end
end PySem
namespace L2
open PySem PySem.Spec PySem.Calls PyProof.Rows
def IT (K:?A0)(a b:Addr):It:=
 ⟨fun i H=>∃ xs ys x y,SqT K H a xs/\SqT K H b ys/\xs[i]?=some x/\ys[i]?=some y,fun i H v H'=>∃ T x y,H T=none/\v=.ref T/\(∀ xs,SqT K H a xs->xs[i]?=some x)/\(∀ ys,SqT K H b ys->ys[i]?=some y)/\H'=upd H T (.tup [x,y]),
  fun i H=>∃ xs ys,SqT K H a xs/\SqT K H b ys/\(xs.length<=i∨ys.length<=i)⟩
theorem AQ:Data.fields vs≠Data.cell v:=fun z=>nomatch z
theorem eZ:Data.seq vs n≠Data.cell v:=fun z=>nomatch z
theorem rH {P:?AA}{w:?A9}{K:?A0}{es:?Ai}{x1:Nat}{pos:Pos}(t1 t2 z TI TO i1 i2:Addr)(D:?Eh) :
  Turn P w K (.Tuple es x1 pos) (IT K t1 t2) [z,TO,i1,i2,TI] z (fun i h=>Vh h z TI TO .none false/\IsPair h TI (.ref i1) (.ref i2)/\(∃ a b,IsPair h TO a b)/\h.IsTupleIter i1 t1 i/\h.IsTupleIter i2 t2 i) where
 mem:=by simp
 obj:=fun i h st b hb=>by
  obtain⟨h1,h2,⟨a,c,h3⟩,⟨o4,e4,c4,d4⟩,⟨o5,e5,c5,d5⟩⟩:=st;simp only[yB,Yv,or_false] at hb;rcases hb with rfl|rfl|rfl|rfl|rfl
  .exact⟨_,h1,fun v=>AQ⟩
  .exact⟨_,h3,fun v=>eZ⟩
  .exact⟨_,e4,fun v z=>by rw[d4] at z;cases z⟩
  .exact⟨_,e5,fun v z=>by rw[d5] at z;cases z⟩
  .exact⟨_,h2,fun v=>eZ⟩
 keep:=fun i h h' st k=>by
  obtain⟨h1,h2,⟨a,c,h3⟩,h4,h5⟩:=st;exact⟨k z (by simp) _ h1,k TI (by simp) _ h2,⟨a,c,k TO (by simp) _ h3⟩,h4.at fun o q=>k i1 (by simp) o q,h5.at fun o q=>k i2 (by simp) o q⟩
 item:=by
  intro X hP hw hK hc i pins s σ H E I hf st hg;subst hP hw hK;obtain⟨xs,ys,x,y,hq1,hq2,hx,hy⟩:=hg;obtain⟨its1,rv1,p1,_⟩:=I.tuple hq1;obtain⟨its2,rv2,p2,_⟩:=I.tuple hq2;obtain⟨u,hu,ru⟩:=rv1.get hx;obtain⟨v,hv,rv⟩:=rv2.get hy;obtain⟨h1,h2,⟨a,c,h3⟩,h4,h5⟩:=st;have lts:∀ b∈[z,TO,i1,i2,TI],b<s.heap.objs.size:=fun b hb=>by
   obtain⟨_,e4,_⟩:=h4;obtain⟨_,e5,_⟩:=h5;simp only[yB,Yv,or_false] at hb;rcases hb with rfl|rfl|rfl|rfl|rfl
   .exact yn h1
   .exact yn h3
   .exact yn e4
   .exact yn e5
   .exact yn h2
  have zt:ZipT s.heap TI i1 i2 t1 t2 its1.toArray its2.toArray i:=⟨h2,h4,h5,p1,p2⟩
  refine XJ h1 fun A' E'=>pk D h1 zt h3 (x:=u) (y:=v) (by simpa using hu) (by simpa using hv) fun g g1 g2 g3 g5 sz kp=>?_;refine⟨_,rfl,Ev g1 fun hh gz sb=>?_⟩;have zT:z≠s.heap.objs.size:=Yb (lts z (by simp));have kp2:∀ b o,b∉[z,TO,i1,i2,TI]->s.heap.get? b=some o->hh.get? b=some o:=fun b o hb q=>by
   simp only[yB,Yv,or_false,not_or] at hb;exact(sb.2 b hb.1).trans ?kM
  refine⟨.ref s.heap.objs.size,upd H s.heap.objs.size (.tup [x,y]),?_,rfl,⟨?C8,x,y,?Bm,rfl,fun ws hw=>by rw[I.tuple_inj hw hq1];exact hx,fun ws hw=>by rw[I.tuple_inj hw hq2];exact hy,rfl⟩,
   ⟨gz,(sb.2 TI D.TIz).trans g3.pr,⟨u,v,(sb.2 TO D.TOz).trans g2⟩,g3.a1.at fun o q=>(sb.2 i1 D.i1z).trans q,g3.a2.at fun o q=>(sb.2 i2 D.i2z).trans q⟩,fun b hb=>?_⟩
  .exact I.drawn (t':=?Ag) (us:=[u,v]) (n:=0) hf kp2 ((sb.2 _ (Ne.symm zT)).trans g5) (.cons ru (.cons rv .nil)) (by show 2<=sizeLine;decide)
  .rw[yX (Yb (lts b hb))];exact ?qP
 done:=by
  intro X hP hw hK hc i pins s σ H E I hf st hg;subst hP hw hK;obtain⟨xs,ys,hq1,hq2,hx⟩:=hg;obtain⟨its1,rv1,p1,_⟩:=I.tuple hq1;obtain⟨its2,rv2,p2,_⟩:=I.tuple hq2;obtain⟨h1,h2,⟨a,c,h3⟩,h4,h5⟩:=st;have e1:=rv1.length;have e2:=rv2.length;have zt:ZipT s.heap TI i1 i2 t1 t2 its1.toArray its2.toArray i:=⟨h2,h4,h5,p1,p2⟩
  refine bf h1 ?CB fun A' Q' E' hh k=>A6 hh D h1 (.inl ⟨rfl,rfl⟩) zt h3 (hx.elim (fun q=>.inl ?yR) fun q=>.inr ?yR) fun g e kp ho=>k e _ ho ⟨rfl,I.turnedL (t':=?Ag) hf fun b o hb q=>?_⟩;simp only[yB,Yv,or_false,not_or] at hb;exact ?kM
 self:=fun _ _ _ _ _ st h=>au st.1 h
def Ik (K:?A0)(ta:TA):TI:=fun σ H R=>ta σ H fun vs H1=>∃ a b xs ys,vs=[.ref a,.ref b]/\SqT K H1 a xs/\SqT K H1 b ys/\R (IT K a b) H1
theorem fp5(I1:Inv X pins σ H s1):∀ b∈[s1.heap.objs.size+4,s1.heap.objs.size+3,s1.heap.objs.size,s1.heap.objs.size+1,s1.heap.objs.size+2],s1.heap.objs.size<=b/\b<s1.heap.objs.size+5/\UM X pins H b:=fun b hb=>by
 have hb':s1.heap.objs.size<=b/\b<s1.heap.objs.size+5:=by
  simp only[yB,Yv,or_false] at hb;lia
 exact⟨hb'.1,hb'.2,I1.fpOk hb'.1 (I1.hok.fresh hb'.1)⟩
theorem C5 {X:Cx}{es:?Ai}{x1:Nat}{tpos:Pos}{a b:Expr}{ta:TA}{p pos:Pos}(hg:Gl X "zip")(hm:?vO)(ha:PA X [a,b] ta)(hs:?yY:=by rfl)(hs2:?qA:=by rfl) :
  PI X ?Ea ?kL (Ik X.K ta):=by
 intro pins s σ H R I h;refine ?LC;obtain⟨l1,l2,xs,ys,e,hl1,hl2,q⟩:=q1;subst e;cases r1 with
 |cons r rr=>
  cases rr with
  |cons r' rr=>
   cases rr;cases r;cases r';obtain⟨its1,rv1,p1,_⟩:=I1.tuple hl1;obtain⟨its2,rv2,p2,_⟩:=I1.tuple hl2;have lt1:l1<s1.heap.objs.size:=by obtain⟨_,e,_⟩:=p1;exact yn e
   have lt2:l2<s1.heap.objs.size:=by obtain⟨_,e,_⟩:=p2;exact yn e
   refine rC p1 p2 fun h' g1 g2 g3 sz kp=>?_;refine au g1 ?_;exact⟨_,[s1.heap.objs.size+4,s1.heap.objs.size+3,s1.heap.objs.size,s1.heap.objs.size+1,s1.heap.objs.size+2],_,_,H1,rfl,?IM,rH l1 l2 _ _ _ _ _ ?Is,⟨g1,g2.pr,⟨?Ab,?Ab,g3⟩,g2.a1,g2.a2⟩,fun b hb=>(fp5 I1 b hb).2.2,q⟩
end L2
namespace L3
open PySem PySem.Spec PySem.Calls PyProof.Rows L2
section
theorem FR(hm:?vO)(hg:Gl X "zip")(ha:?Do)(hb:P3 X Γ b (.tup es))(hs:?yY:=by rfl)(hs2:?qA:=by rfl) :
  I3 X Γ ?J5 ?kL (V6 ds es):=
 PI.of (C5 hg hm (yb ha ?HZ (hs.trans (by rw[hs2]))) hs hs2) fun σ H R ⟨F,fh,sl,q⟩=>⟨F,fh,sl,fun vs H' F' pu iv=>by
  obtain⟨x,y,rfl,j0,j00⟩:=oU iv;obtain⟨l,xs,rfl,s1,j1⟩:=isT j0;obtain⟨l2,ys,rfl,s2,j2⟩:=isT j00;refine⟨l,l2,xs,ys,rfl,qD pu.fh s1,qD pu.fh s2,q _ H' F' pu fun n F2 H2 e1 e2=>?kX⟩
  .unfold V6 at w;rw[yC] at w;cases z:(ds.zip es)[n]? with
   |none=>rw[z] at w;cases w
   |some d0=>
    rw[z] at w;cases w;obtain⟨z1,z2⟩:=qw.mp z;obtain⟨x,hx,ix⟩:=j1.get z1;obtain⟨y,hy,iy⟩:=j2.get z2;have h1:=qD ?BS s1;have h2:=qD ?BS s2;refine⟨?Lg,fun v H3 ⟨T,x',y',hT,hv,hx',hy',e3⟩=>?_⟩;subst hv e3;have t1:=hx' xs h1;have t2:=hy' ys h2;rw[hx] at t1;rw[hy] at t2;cases t1;cases t2;exact⟨_,?EZ,Is.tupI ?Cr (IsL.cons (ix.mono (e1.trans (?EZ).ff)) ?uD)⟩
  .unfold V6 at w;rw[yf,YZ] at w;refine⟨xs,ys,qD ?BS s1,qD ?BS s2,?_⟩;rw[j1.len,j2.len];lia⟩
end
section
end
section
end
end L3
namespace HT
open PySem PySem.Spec PySem.Calls PyProof.Rows L2
section
theorem XB {us:?BL}{lo hi:?B7}{Q:?zA}(ht:IsTup s.heap t us)(hs:?I7)(pl:IsPart vl lo)(pu:IsPart vu hi)(h1:sIx us.size 0 lo=0)(h2:sIx us.size us.size hi=us.size)(h:Q (.ref t) s) :
  wpAny ?AG A ?La Q E s:=by
 obtain⟨os,hos,hcs,hds⟩:=id hs;have hTs:s.TypeIs (.ref sl) "slice" := ⟨os,hos,hcs⟩
 unfold getItem
 try with_reducible refine YG ?_
 first|refine ya (ym ?_)|skip
 refine ya (wpAny_sequenceKey ht.typeIs ?B (ya (YN (name:=Str.ofString "__getitem__") ht.typeIs PyProof.Rows.slot_tuple_getitem ?KJ)));show wpAny _ _ (Builtin.Tuple.tupleItemsOf (.ref t) >>= _) _ _ _;refine ya (tupleItemsOf_ ht (ya (wpAny_typeOf hTs ?_)));rw[yc (by decide)];refine ya (Vp hs pl pu ?_);show wpAny _ _ (if (((sIx us.size 0 lo:Nat):Int)==0&&(1:Int)==1&&(sIx us.size us.size hi - sIx us.size 0 lo)==us.size)=true then _ else _) _ _ _;rw[yc (by rw[h1,h2];simp)];obtain⟨o,ho,hc,_⟩:=ht;refine ya (m:=Builtin.Tuple.tupleIsExact (.ref t)) ?_;unfold Builtin.Tuple.tupleIsExact;refine ya (wpAny_typeOf (T:="tuple") ⟨o,ho,hc⟩ (ym ?_));rw[yc (by decide)];exact ya (wpAny_rule (ym ⟨_,rfl,ym h⟩))
end
end HT
namespace L3
open PySem PySem.Spec PySem.Calls PyProof.Rows L2
section
variable {X:Cx}{Γ:Ga}{a:Expr}{lo hi:?Cv}{i j:?B7}{ds:?AD}{pos p2:Pos}
theorem D8:SlR X (fun x lo hi H Q=>∃ a xs,x=.ref a/\SqT X.K H a xs/\HT.sIx xs.length 0 lo=0/\HT.sIx xs.length xs.length hi=xs.length/\Q (.ref a) H):=by
 intro pins s σ H x v vl vu lo hi sl Q I rx hs pl pu h;obtain⟨a,xs,rfl,hx,h1,h2,q⟩:=h;cases rx;obtain⟨its,r,ht,hz⟩:=I.tuple hx;have hlen:its.toArray.size=xs.length:=by rw[yP];exact r.length.symm
 exact⟨"tuple", _,?Kt,ht.typeIs,HT.XB ht hs pl pu (by rw[hlen];exact h1) (by rw[hlen];exact h2) ⟨.ref a,H,I,rfl,q⟩⟩
theorem p9 (ha:?Do)(hl:?Jl)(hh:?Jv):?LH:=by
 by_cases hw:HT.sIx ds.length 0 i=0/\HT.sIx ds.length ds.length j=ds.length
 .have e:vt ds i j=ds:=by unfold vt;rw[hw.1,hw.2,List.drop_zero,Nat.sub_zero,yM]
  rw[e];exact PE.of (kQ D8 ha hl hh) fun σ H Q ⟨F,fh,sl,q⟩=>FE ⟨F,fh,sl,fun x H2 F2 p i1=>by
   obtain⟨l,xs,rfl,s1,j1⟩:=isT i1;exact⟨l,xs,rfl,qD p.fh s1,by rw[j1.len];exact hw.1,by rw[j1.len];exact hw.2,q _ _ _ p (Is.tupI s1 j1)⟩⟩
 .exact uT ha hl hh hw
end
def bF:?A1:=["row", "known_rules", "known_heads", "known_bests", "known_partings"]
def bO (C:Addr)(row rs hs kb kp:D):D:=.obj C bF [row,rs,hs,kb,kp]
structure ClsB (K:?A0)(C:Addr):Prop where
 c:Cls K C
 n_row:QH K C "row"
 n_known_rules:QH K C "known_rules"
 n_known_heads:QH K C "known_heads"
 n_known_bests:QH K C "known_bests"
 n_known_partings:QH K C "known_partings"
theorem Ek {K:?A0}{C:Addr}(pg:W.plainGet K C Str.empty=true)(hd:?vE)(po:W.plainOver K C=true)(sa:?vT)
  (n1:W.findIn K ?AM "row" = some none) (n2:W.findIn K ?AM "known_rules" = some none) (n3:W.findIn K ?AM "known_heads" = some none) (n4:W.findIn K ?AM "known_bests" = some none) (n5:W.findIn K ?AM "known_partings" = some none):ClsB K C:=⟨?J6,n1,n2,n3,n4,n5⟩
theorem Zh:("best" : Str)∉bF:=by decide +kernel
theorem Z7:("best_part" : Str)∉bF:=by decide +kernel
theorem zP:("best_parting" : Str)∉bF:=by decide +kernel
theorem vv:("best_of_partings" : Str)∉bF:=by decide +kernel
theorem uE:("try_rule" : Str)∉bF:=by decide +kernel
theorem ul:("try_rules" : Str)∉bF:=by decide +kernel
def AL (C:Addr):?G:=fun ds d=>∃ (row rs hs kp:D) (kb:Kb) (h:Str) (i j:Nat),ds=[bO C row rs hs (kbD kb) kp,.str h,.int (i:Int),.int (j:Int)]/\d=bvD ?C9
def DZ (C:Addr):?G:=fun ds d=>∃ (rs kp:D) (row hs:List Str) (kb:Kb) (x:Str) (i j:Nat),ds=[bO C ?Ah rs ?BC (kbD kb) kp,.str x,.int (i:Int),.int (j:Int)]/\d=bvD ?C0/\i<j/\j<=row.length
structure BSt where
 a:Addr
 b:Addr
 c:Addr
 row:List Str
 rs:List yw
 hs:List Str
 kb:Kb
 kp:Kp
def omB (P:?AA)(w:?A9)(K:?A0)(C:Addr)(t:BSt):Om:=[(t.a,JW K C bF [y9 t.row,.lst (yL t.rs),.lst ?FN,.raw (.ref t.b),.raw (.ref t.c)]),(t.b,?LT),(t.c,?M9)]
theorem iE {P:?AA}{w:?A9}{K:?A0}{C:Addr}{t:BSt}{L:Bool}:fY L ?Fs:=jE kH (jE lP (jE gm kI))
theorem AG {P:?AA}{w:?A9}{K:?A0}{C:Addr}{t:BSt}:(omB P w K C t++[]).Perm ((t.c,?M9)::[(t.a,JW K C bF [y9 t.row,.lst (yL t.rs),.lst ?FN,.raw (.ref t.b),.raw (.ref t.c)]),(t.b,?LT)]):=qI (l₁:=[_,_]) (l₂:=[_])
def Sol (v:BV):Prop:=j7 false v.2=true
def Wd (v:PV):Prop:=jv false v.2=true
structure BsOk (t:BSt)(m:Nat):Prop where
 rl:t.row.length<=5
 kz:KbZ m t.kb
 kp:KpZ t.kp
 sb:∀ h i j,Sol (qu t.kb h i j)
 sp:∀ p∈t.kp,Wd p.2
def Zi (t:BSt)(x y:Str)(rest:?A1)(i j n:Nat):Bc:=(?BU).foldl ?vV ((0,[]),t.kp)
def Hx (n:Nat):?xA:=fun t ds t' d=>∃ (x y:Str) (rest:List Str) (i j m:Nat),ds=[.raw ?DV,y9 ?Z,.int (i:Int),.int (j:Int)]/\t'={t with kp:=(Zi t x y rest i j ?Bx).2}/\d=pvD (Zi t x y rest i j ?Bx).1/\rest.length+2<=n/\n<=4/\i<j/\j<=t.row.length/\m<=5/\RC t.hs ?Z i j m/\BsOk t m/\t.kp.length+n*2000<=16000000
def C6 (n:Nat):?xA:=fun t ds t' d=>∃ (body:List Str) (i j m:Nat),ds=[.raw ?DV,y9 body,.int (i:Int),.int (j:Int)]/\t'={t with kp:=(?L6).2}/\d=pvD (?L6).1/\1<=body.length/\body.length<=n/\n<=4/\i<j/\j<=t.row.length/\m<=5/\(2<=body.length->RC t.hs body i j m)/\BsOk t m/\t.kp.length+n*2000<=16000000
theorem IJ {P:?AA}{w:?A9}{K:?A0}{C:Addr}{n:Nat}:∀ t ds t' d,Hx n t ds t' d->(?H9).map ?C=(?Fs).map ?C:=fun t ds t' d ⟨_,_,_,_,_,_,_,e,_⟩=>by subst e;rfl
theorem Fg {P:?AA}{w:?A9}{K:?A0}{C:Addr}{n:Nat}:∀ t ds t' d,C6 n t ds t' d->(?H9).map ?C=(?Fs).map ?C:=fun t ds t' d ⟨_,_,_,_,_,e,_⟩=>by subst e;rfl
theorem k9(h:∀ h i j,Sol ?C9):Sol ?C0:=by
 unfold qb;split
 .exact h _ _ _
 .rfl
theorem xU(h:∀ h i j,Sol ?C9):∀ (b:List Str) (i j:Nat) (kp:Kp),(∀ p∈kp,Wd p.2)->Wd (?EU).1/\∀ p∈(bPm hs row kb b i j kp).2,Wd p.2
 |[],_,_,kp,hp=>by rw[bPm];exact⟨rfl,hp⟩
 |[x],i,j,kp,hp=>by
  rw[bPm];refine⟨?_,hp⟩;show jv false [(?C0).2]=true;have:j7 false (qb hs row kb x i j).2=true:=k9 h;simp[jv,this]
 |x::y::rest,i,j,kp,hp=>by
  rw[bPm];cases q:VF kp ?zJ with
  |some v=>exact⟨hp _ (Ui q),hp⟩
  |none=>
   have go:∀ t,Wd (?jR).1/\∀ p∈((List.range t).foldl (jQ (fun m=>qb hs row kb x i m) (fun m=>bPm hs row kb ?K m j) i) ?zU).2,Wd p.2:=by
    intro t
    induction t with
    |zero=>exact⟨rfl,hp⟩
    |succ t ih=>
     rw[YC,yY];generalize (?CX).foldl ?yF ?zU=acc at *;obtain⟨f1,f2⟩:=xU h (row:=row) (hs:=hs) ?K ?E j acc.2 ih.2;rw[Yi,qH];unfold jQ;split
     .refine⟨?_,f2⟩;have a:j7 false (qb hs row kb x i (i+1+t)).2=true:=k9 h;show jv false ((qb hs row kb x i ?E).2::(bPm hs row kb ?K ?E j acc.2).1.2)=true;have b:jv false (bPm hs row kb (y::rest) (i+1+t) j acc.2).1.2=true:=f1;simp[jv,a,b]
     .exact⟨ih.1,f2⟩
   obtain⟨e1,e2⟩:=go ?Bx;refine⟨e1,fun p hp'=>?_⟩;rcases Uo hp' with z|z
   .subst z;exact e1
   .exact e2 p z
theorem bT {t:BSt}{x y:Str}{rest:?A1}{m i j:Nat}(hk:KbZ m t.kb)(rc:RC t.hs ?Z i j m)(hij:i<j)(h5:j - i<=5)(hp:KpZ t.kp):∀ k,k<=nP ?qL i j->PZ ?Z m (t.kp.length+k*6 ^ (rest.length+1)) ((?Cs).foldl ?vV ((0,[]),t.kp))
 |0,_=>⟨yJ,?F3,by simp,hp,by simp⟩
 |k+1,ht=>by
  have a:=bT hk rc hij h5 hp k ?A;rw[YC,yY];generalize (?Cs).foldl ?vV ((0,[]),t.kp)=acc at *;have hc:i+1+k+(y::rest).length<=j:=by unfold nP at ht;rw[yi];lia
  have b:=Dm (row:=t.row) ?K m (i+1+k) j acc.2 hk (by simp) ?vH ?A (df rc hc) a.kp;have p:=aV (row:=t.row) hk (x:=x) (hs:=t.hs) (i:=i) (j:=i+1+k) ?A fun hx=>cI rc hc hx;have kl:(bPm t.hs t.row t.kb (y::rest) (i+1+k) j acc.2).2.length<=t.kp.length+(k+1)*6 ^ (rest.length+1):=by
   have h1:=b.kl;have h2:=a.kl;rw[yi] at h1;rw[Qe,Q7];lia
  rw[Yi,qH];unfold jQ;split
  .refine⟨Qo p.1 b.nn,(ZF p.2 b.sz).mono ?_,?_,b.kp,kl⟩
   .rw[yi (a:=x),Qe];lia
   .have:=b.len;simp only[yi] at this ⊢;lia
  .exact ?LJ
theorem mB(h:∀ h i j,Sol (qu t.kb h i j))(hp:∀ p∈t.kp,Wd p.2):∀ k,Wd (?Dk).1/\∀ p∈(Zi t x y rest i j k).2,Wd p.2
 |0=>⟨rfl,hp⟩
 |k+1=>by
  have ih:=mB (x:=x) (y:=y) (rest:=rest) (i:=i) (j:=j) h hp k;unfold Zi at ih ⊢;rw[YC,yY];generalize (?Cs).foldl ?vV ((0,[]),t.kp)=acc at *;obtain⟨f1,f2⟩:=xU h (row:=t.row) (hs:=t.hs) ?K (i+1+k) j acc.2 ih.2;rw[Yi,qH];unfold jQ;split
  .refine⟨?_,f2⟩;have a:j7 false (qb t.hs t.row t.kb x i (i+1+k)).2=true:=k9 h;show jv false ((?kU).2::(bPm t.hs t.row t.kb ?K (i+1+k) j acc.2).1.2)=true;have b:jv false (bPm t.hs t.row t.kb (y::rest) (i+1+k) j acc.2).1.2=true:=f1;simp[jv,a,b]
  .exact⟨ih.1,f2⟩
theorem Bq(h:Sol v):j7 false (bvD v)=true:=by
 have h:j7 false v.2=true:=h;show jv false [sh v.1,v.2]=true;have:j7 false (sh v.1)=true:=rfl;simp[jv,h,this]
theorem xQ {i j:Nat}{x1:Nat}{tp:Pos}(h:P3 X Γ ?Hu (.tup [y9 b,.int (i:Int),.int (j:Int)])):P3 X Γ ?Hu (kD (kB (b,i,j))):=by rw[E4];exact h
section
end
structure SolT (s:KBP):Prop where
 b:∀ h i j,Sol (qu s.1 h i j)
 p:∀ p∈s.2,Wd p.2
theorem tf(e:s.1.1.length=s.1.2.length)(g:SolT s):SolT (?Fb).1:=by
 have b:=xU (hs:=hs) (row:=row) g.b r.2.1 i j s.2 g.p;unfold vq;split
 .refine⟨fun h a c=>?_,b.2⟩;show Sol (qu (U9 s.1 r.1 i j _) h a c);rw[Zr e];split
  .show jv false [.int (n:Int),.tup (?zE).1.2]=true;have b1:j7 false (.tup (bPm hs row s.1 r.2.1 i j s.2).1.2)=true:=by rw[j7];exact b.1
   have b2:j7 false (.int (n:Int))=true:=rfl;simp[jv,b1,b2]
  .exact g.b h a c
 .exact⟨g.b,b.2⟩
structure TrB (hs row:?A1)(T:?S)(i j c k l:Nat)(s:KBP):Prop where
 sb:SB hs row T i j c k l s
 so:SolT s
 hT:∀ x i j,0<=T x i j
 hij:i<j
 hj:j<=row.length
 h5:row.length<=5
 c0:4*BB ?zP+1<=c
 c1:c<=1000000
 k1:k<=15000000
 l1:l<=100000
def IH:?xA:=fun t ds t' d=>∃ (n i j c k l:Nat) (r:yw) (T:Str->Nat->Nat->Rat),ds=[.raw ?DV,.int (n:Int),.int (i:Int),.int (j:Int)]/\t'={t with kb:=(?JA).1.1,kp:=(?JA).1.2}/\d=.bl (?JA).2/\t.rs[n]?=some r/\RuB t.hs r/\TrB t.hs t.row T i j c k l ?wO
def IR:?xA:=fun t ds t' d=>∃ (i j c k l:Nat) (T:Str->Nat->Nat->Rat),ds=[.raw ?DV,.int (i:Int),.int (j:Int)]/\t'={t with kb:=(V5 t.hs t.row t.rs i j (t.hs.length+1) ?wO).1,kp:=(V5 t.hs t.row t.rs i j (t.hs.length+1) ?wO).2}/\d=.non/\(∀ r∈t.rs,RuB t.hs r)/\(∀ r∈t.rs,r.1∈t.hs)/\t.rs.length<=12/\t.hs.length<=3/\TrB t.hs t.row T i j c k l ?wO/\(∀ h,cur i j ?wO h=0)/\c+300<=1000000/\k+70000<=15000000/\l+100<=100000
theorem Ip {P:?AA}{w:?A9}{K:?A0}{C:Addr}:∀ t ds t' d,IH t ds t' d->(?H9).map ?C=(?Fs).map ?C:=fun t ds t' d ⟨_,_,_,_,_,_,_,_,_,e,_⟩=>by subst e;rfl
theorem IK {P:?AA}{w:?A9}{K:?A0}{C:Addr}:∀ t ds t' d,IR t ds t' d->(?H9).map ?C=(?Fs).map ?C:=fun t ds t' d ⟨_,_,_,_,_,_,_,e,_⟩=>by subst e;rfl
theorem nF:∀ {n' m n:Nat},(∀ k,k<n'->(?uA).2=true)->(rnd hs row rs i j (stR hs row rs i j s (n+n'))).2=false->n'<=m->V5 hs row rs i j (m+1) ?EV=stR hs row rs i j s (n+n'+1)
 |0,m,n,_,h,_=>by
  rw[V5,yd (by rw[Nat.add_zero] at h;rw[h];decide)];rfl
 |n'+1,m,n,hk,h,hm=>by
  have h0:=hk 0 ?A;rw[Nat.add_zero] at h0;cases m with
  |zero=>lia
  |succ m=>
   rw[V5,yc h0];have:=nF (n':=n') (m:=m) (n:=n+1) (fun k hk'=>by rw[show n+1+k=n+(k+1) by lia];exact hk (k+1) ?A) (by rw[show n+1+n'=n+(n'+1) by lia];exact h) ?A
   rw[show n+(n'+1)+1=n+1+n'+1 by lia];exact this
theorem xH {T:?S}(g:?Lw)(hr:∀ r∈rs,?Bb):∀ n,n<=rs.length->SolT ((?BU).foldl ?CT (s,?AE)).1
 |0,_=>g.so
 |n+1,hn=>by
  have ih:=xH g hr n ?A;have b:=nK g.hT g.sb hr g.hij g.hj g.h5 g.c0 n ?A;rw[YC,yY];exact tf b.sb.eq ih
theorem aW {T:?S}(g:?Lw)(hr:∀ r∈rs,?Bb)(h0:∀ h,cur i j s h=0)(rl:rs.length<=12):∀ n,n<=5->c+60*n<=1000000->k+15552*n<=15000000->l+12*n<=100000->TrB hs row T i j (c+60*n) (k+15552*n) (l+12*n) ?EV
 |0,_,_,_,_=>g
 |n+1,hn,h1,h2,h3=>by
  have a:=aW g hr h0 rl n ?A ?A ?A ?A;have b:=bK a.hT a.sb hr a.hij a.hj a.h5 a.c0;have so:=xH a hr rs.length ?AC;exact⟨b.sb.more ?A ?A ?A,so,a.hT,a.hij,a.hj,a.h5,by have:=a.c0;lia,h1,h2,h3⟩
theorem fS(g:?B8):∀ k,k<=(?AS).length->SolT ?AW
 |0,_=>⟨fun h i j=>rfl,fun p hp=>by cases hp⟩
 |k+1,hk=>by
  have hp:(YT row.length)[k]?=some (YT row.length)[k]:=yj ?A;have ih:=fS g k ?A;have hi:=ZT (yr hp);have a:=(uC g k ?A).sb g hp;have k15:=uF g.wl;have wl:=g.wl;generalize (?AS)[k]=p at *;have b5:=DB (n:=?wR) ?A;have tr:TrB (yt rs) row (BT rs row) p.1 p.2 (4*BB (p.2 - p.1 - 1)+1) (62208*k) (48*k) (Jh rs row k):=⟨a.1,ih,ax,hi.1,hi.2,wl,yg _,?A,?A,?A⟩
  obtain⟨n,hn,e1,e2⟩:=cA (hs:=?A5) (row:=row) (rs:=rs) (i:=p.1) (j:=p.2) (s:=?AW) (m:=(?A5).length) (n:=0) ⟨(?A5).length,yg _,by rw[qK];exact dl ax a.1 g.ru g.hh hi.1 hi.2 wl ?AC a.2⟩;rw[Z3 hp];have e2:V5 (yt rs) row rs p.1 p.2 ((yt rs).length+1) (Jh rs row k)=stR (yt rs) row rs p.1 p.2 (Jh rs row k) (0+n+1):=e2;rw[e2];have hl:=g.hl;exact(aW tr g.ru a.2 g.rl (0+n+1) ?A ?A ?A ?A).so
def bGs (rs:?A4)(row:?A1)(c:Addr):?AD:=[y9 row,.lst ?AP,.lst ?DC,kbD ?BZ,.raw (.ref c)]
def Cj (Cg:Addr):?zL:=fun ds=>∃ (st:Str) (rs:List yw) (row:List Str),ds=[gD Cg st rs,y9 row]/\GB rs row
def mG (Cg:Addr):?qB:=fun ds r=>∀ (st:Str) (rs:List yw) (row:List Str),ds=[gD Cg st rs,y9 row]->∃ c,r=(bF,?GO)
theorem An {st:Str}{rs:?A4}{row:?A1}:mG Cg [gD Cg st rs,y9 row] (bF,?GO):=fun st' rs' row' e=>by
 simp only[List.cons.injEq,and_true] at e;obtain⟨_,e1⟩:=sx e.1;cases e1;cases Uz e.2;exact⟨c,rfl⟩
def kA (n:Nat)(hs:?A1):List K3:=hs.flatMap fun h=>(YT n).map fun p=>?zH
def kN (n:Nat)(hs:?A1)(h:Str)(t:Nat):List K3:=kA n hs++((YT n).take t).map fun p=>?zH
def btf (rs:?A4)(row:?A1)(k:K3):Rat:=BT rs row k.1 k.2.1 k.2.2
theorem tQ:∀ {hs:List Str},(kA n hs).length=hs.length*(YT n).length
 |[]=>by simp[kA]
 |h::hs=>by
  have:=tQ (n:=n) (hs:=hs);unfold kA at this ⊢;rw[List.flatMap_cons,yI,this,yf,yi,Qe];lia
theorem gM:k∈kA n hs ↔ k.1∈hs/\(k.2.1,k.2.2)∈YT n:=by
 unfold kA;simp only[Q5,yA];constructor
 .rintro⟨h,hh,p,hp,rfl⟩;exact⟨hh,hp⟩
 .rintro⟨h1,h2⟩;exact⟨k.1,h1,(k.2.1,k.2.2),h2,rfl⟩
theorem Go(hn:n<=5)(nh:h∉hs)(hp:(YT n)[t]?=some p):?zH∉kN n hs h t:=fun z=>by
 unfold kN at z;rcases Yw.mp z with y|y
 .exact nh (gM.mp y).1
 .obtain⟨q,hq,e⟩:=yA.mp y;have nd:=(KG hn).sublist (qF (t+1) _);rw[Yl hp,Yr] at nd;have e1:q=p:=Prod.ext (by injection e with _ e;injection e) (by injection e with _ e;injection e);exact nd.2.2 q hq p (by simp) e1
theorem C4(hp:(YT n)[t]?=some p):kN n hs h (t+1)=kN n hs h t++[?zH]:=by
 unfold kN;rw[Yl hp,yH,←List.append_assoc];rfl
theorem FY:kN n hs h (YT n).length=kA n (hs++[h]):=by
 unfold kN kA;rw[yM,Qf];simp
theorem Ls:kN n hs h 0=kA n hs:=by simp[kN]
theorem FZ(hn:n<=5):(kN n hs h t).length<=hs.length*15+15:=by
 unfold kN;rw[yI,tQ,yf,Yh];have:=uF hn;have:=qT hs.length this;lia
theorem FO {f:K3->Rat}(h:k∉ks):pK (ks.map kS) (kS k)=(ks++[k]).map kS/\pA (ks.map kS) ((ks.map f).map sh) (kS k) (sh (f k))=((ks++[k]).map f).map sh:=by
 have e:pK ks k=ks++[k]:=by unfold pK;rw[yd h]
 refine⟨by rw[xy vJ,e],?_⟩;rw[W6 vJ];unfold pA;rw[yd h,show(ks++[k]).map f=ks.map f++[f k] from yH]
inductive Tr where
 |lf (w:Str)
 |nd (r:Nat) (ps:List Tr)
mutual
noncomputable def trD:Tr->D
 |.lf w=>.str w
 |.nd r ps=>.tup [.int r,.tup (KY ps)]
noncomputable def KY:List Tr->List D
 |[]=>[]
 |t::ts=>trD t::KY ts
end
mutual
noncomputable def dpt:Tr->Nat
 |.lf _=>0
 |.nd _ ps=>KZ ps+1
noncomputable def KZ:List Tr->Nat
 |[]=>0
 |t::ts=>max (dpt t) (KZ ts)
end
mutual
noncomputable def wds:Tr->List Str
 |.lf w=>[w]
 |.nd _ ps=>Vx ps
noncomputable def Vx:List Tr->List Str
 |[]=>[]
 |t::ts=>wds t++Vx ts
end
mutual
noncomputable def nds:Tr->Nat
 |.lf _=>0
 |.nd _ ps=>vp ps+1
noncomputable def vp:List Tr->Nat
 |[]=>0
 |t::ts=>nds t+vp ts
end
mutual
noncomputable def shT (rs:?A4):Tr->Rat
 |.lf _=>1
 |.nd r ps=>((rs[r]?).map ?yD).getD 0*zV rs ps
noncomputable def zV (rs:?A4):List Tr->Rat
 |[]=>1
 |t::ts=>shT rs t*zV rs ts
end
mutual
noncomputable def inR (n:Nat):Tr->Prop
 |.lf _=>True
 |.nd r ps=>r<n/\WZ n ps
noncomputable def WZ (n:Nat):List Tr->Prop
 |[]=>True
 |t::ts=>inR n t/\WZ n ts
end
theorem Wz:∀ {ts:List Tr},KY ts=ts.map trD
 |[]=>by rw[KY];rfl
 |t::ts=>by rw[KY,Wz];rfl
theorem WJ:∀ {ts:List Tr} {t:Tr},t∈ts->dpt t<=KZ ts
 |[],_,h=>(Yv h).elim
 |u::ts,t,h=>by
  rw[KZ];rcases yB.mp h with z|z
  .rw[z];exact jC _ _
  .exact yz (WJ z) (ji _ _)
theorem Vs:∀ {ts:List Tr},Vx ts=ts.flatMap wds
 |[]=>by rw[Vx];rfl
 |t::ts=>by rw[Vx,Vs];rfl
def xz:List Rat->Rat
 |[]=>1
 |a::as=>a*xz as
theorem UQ:∀ {ts:List Tr},zV rs ts=xz (ts.map (shT rs))
 |[]=>by rw[zV];rfl
 |t::ts=>by rw[zV,UQ];rfl
theorem Xc:∀ {as:List Rat} {a:Rat},xz (as++[a])=xz as*a
 |[],a=>by simp only[Je,xz];grind
 |b::as,a=>by rw[qP,xz,xz,Xc];grind
theorem lZ {i:Nat}(h:(KY ts)[i]?=some d):∃ t,ts[i]?=some t/\d=trD t:=by
 rw[Wz,yC] at h;cases q:ts[i]? with
 |none=>rw[q] at h;cases h
 |some t=>rw[q] at h;cases h;exact⟨t,rfl,rfl⟩
theorem eN:(KY ts).length=ts.length:=by rw[Wz,yf]
theorem oz {ts:List Tr}{i:Nat}:((ts.take i).flatMap wds).length<=(ts.flatMap wds).length:=by
 have e:ts.flatMap wds=(ts.take i).flatMap wds++(ts.drop i).flatMap wds:=by rw[←Qf,Qi]
 rw[e,yI];lia
def oh (n:Nat):?G:=fun ds d=>∃ t:Tr,ds=[trD t]/\d=y9 ?CJ/\dpt t<=n/\(?CJ).length<=1000
def E5 (n:Nat):?G:=fun ds d=>∃ (rs:List yw) (t:Tr),ds=[.lst ?AP,trD t]/\d=sh (shT rs t)/\dpt t<=n/\inR rs.length t/\(∀ r∈rs,0<=r.2.2/\Sz 5 r.2.2)/\nds t<=1000/\(?CJ).length<=1000
mutual
theorem sZ(hr:∀ r∈rs,0<=r.2.2/\Sz 5 r.2.2):∀ {t:Tr},inR rs.length t->0<=shT rs t/\Sz (6*nds t+(?CJ).length) (shT rs t)
 |.lf w,_=>by rw[shT,nds,wds];exact⟨?B,wX⟩
 |.nd r ps,h=>by
  rw[inR] at h;rw[shT,nds,wds];obtain⟨q,hq⟩:∃ q,rs[r]?=some q:=⟨_,yj h.1⟩
  have hr':=hr q (yr hq);have hp:=cN hr h.2;rw[hq];refine⟨Qo hr'.1 hp.1,(ZF hr'.2 hp.2).mono ?A⟩
theorem cN {rs:?A4}(hr:∀ r∈rs,0<=r.2.2/\Sz 5 r.2.2):∀ {ts:List Tr},WZ rs.length ts->0<=zV rs ts/\Sz (6*vp ts+(Vx ts).length+1) (zV rs ts)
 |[],_=>by rw[zV,vp,Vx];exact⟨?B,wX⟩
 |t::ts,h=>by
  rw[WZ] at h;rw[zV,vp,Vx];have h1:=sZ hr h.1;have h2:=cN hr h.2;refine⟨Qo h1.1 h2.1,(ZF h1.2 h2.2).mono ?_⟩;rw[yI];lia
end
theorem WA:∀ {ts:List Tr},WZ n ts ↔ ∀ t∈ts,inR n t
 |[]=>by rw[WZ];simp
 |t::ts=>by rw[WZ,WA];simp
theorem fK:∀ {ts:List Tr} {t:Tr},t∈ts->nds t<=vp ts
 |[],_,h=>(Yv h).elim
 |u::ts,t,h=>by
  rw[vp];rcases yB.mp h with z|z
  .rw[z];lia
  .have:=fK z;lia
theorem aP:∀ {ts:List Tr} {i:Nat},vp (ts.take i)<=vp ts
 |[],i=>by rw[List.take_nil];exact yg _
 |t::ts,0=>by rw[List.take_zero,vp,vp];lia
 |t::ts,i+1=>by
  rw[List.take_succ_cons,vp,vp];have:=aP (ts:=ts) (i:=i);lia
theorem D5(h:t∈ts):(?CJ).length<=(Vx ts).length:=by
 induction ts with
 |nil=>exact(Yv h).elim
 |cons u ts ih=>
  rw[Vx,yI];rcases yB.mp h with z|z
  .rw[z];lia
  .have:=ih z;lia
theorem X1 {α:Type}{l:?B4}{i:Nat}{x:α}(h:l[i]?=some x):l.take (i+1)=l.take i++[x]:=by
 rw[List.take_succ,h];rfl
inductive Th where
 |lf (w:Str)
 |nd (r:Int) (ps:List Th)
 |one (r:Int)
mutual
noncomputable def thD:Th->D
 |.lf w=>.str w
 |.nd r ps=>.tup [.int r,.tup (xK ps)]
 |.one r=>.tup [.int r]
noncomputable def xK:List Th->List D
 |[]=>[]
 |t::ts=>thD t::xK ts
end
mutual
noncomputable def dpH:Th->Nat
 |.lf _=>0
 |.nd _ ps=>iS ps+1
 |.one _=>0
noncomputable def iS:List Th->Nat
 |[]=>0
 |t::ts=>max (dpH t) (iS ts)
end
def ZE (rs:?A4)(r:Int):Option yw:=if 0<=r then rs[r.toNat]? else none
mutual
noncomputable def zZ (rs:?A4):Th->Str->Bool
 |.lf w,y=>!decide (y∈rs.map ?C)&&decide (w=y)
 |.nd r ps,y=>match ZE rs r with
  |some q=>decide (q.1=y)&&(decide (ps.length=q.2.1.length)&&ZO rs ps q.2.1)
  |none=>false
 |.one _,_=>false
noncomputable def ZO (rs:?A4):List Th->List Str->Bool
 |t::ts,y::ys=>zZ rs t y&&ZO rs ts ys
 |_,_=>true
end
theorem xh:∀ {ts:List Th},xK ts=ts.map thD
 |[]=>by rw[xK];rfl
 |t::ts=>by rw[xK,xh];rfl
theorem eQ:(xK ts).length=ts.length:=by rw[xh,yf]
theorem eG:∀ {ts:List Th} {t:Th},t∈ts->dpH t<=iS ts
 |[],_,h=>(Yv h).elim
 |u::ts,t,h=>by
  rw[iS];rcases yB.mp h with z|z
  .rw[z];exact jC _ _
  .exact yz (eG z) (ji _ _)
theorem aA:∀ {ts:List Th} {ys:List Str},ZO rs ts ys=(ys.zip ts).all fun p=>zZ rs p.2 p.1
 |[],[]=>by rw[ZO];rfl;simp
 |[],y::ys=>by rw[ZO];rfl;simp
 |t::ts,[]=>by rw[ZO];rfl;simp
 |t::ts,y::ys=>by rw[ZO,aA];rfl
theorem K9 {r:Nat}:ZE rs (r:Int)=rs[r]?:=by
 unfold ZE;rw[yc (by lia),qG]
theorem vF {r:Int}(h:ZE rs r=some q):∃ k:Nat,r=k/\rs[k]?=some q/\k<rs.length:=by
 unfold ZE at h;split at h
 .exact⟨r.toNat,?A,h,(?FE).1⟩
 .cases h
theorem eA {r:Int}(h:ZE rs r=none):r<0∨(rs.length:Int)<=r:=by
 unfold ZE at h;split at h
 .rw[yG] at h;lia
 .lia
mutual
noncomputable def Vo:Tr->Th
 |.lf w=>.lf w
 |.nd r ps=>.nd r (JT ps)
noncomputable def JT:List Tr->List Th
 |[]=>[]
 |t::ts=>Vo t::JT ts
end
mutual
theorem Ch:∀ {t:Tr},thD (Vo t)=trD t
 |.lf w=>by rw[Vo,thD,trD]
 |.nd r ps=>by rw[Vo,thD,trD,ou]
theorem ou:∀ {ts:List Tr},xK (JT ts)=KY ts
 |[]=>by rw[JT,xK,KY]
 |t::ts=>by rw[JT,xK,KY,Ch,ou]
end
theorem aE:∀ {ts:List Tr},JT ts=ts.map Vo
 |[]=>by rw[JT];rfl
 |t::ts=>by rw[JT,aE];rfl
theorem UT:(JT ts).length=ts.length:=by rw[aE,yf]
mutual
theorem AU:∀ {t:Tr},dpH (Vo t)=dpt t
 |.lf w=>by rw[Vo,dpH,dpt]
 |.nd r ps=>by rw[Vo,dpH,dpt,mv]
theorem mv:∀ {ts:List Tr},iS (JT ts)=KZ ts
 |[]=>by rw[JT,iS,KZ]
 |t::ts=>by rw[JT,iS,KZ,AU,mv]
end
def eL (n:Nat):?G:=fun ds d=>∃ (rs:List yw) (y:Str) (t:Th),ds=[.lst ?AP,.str y,thD t]/\d=.bl (zZ rs t y)/\dpH t<=n/\rs.length<=100
theorem mN {r:Int}(h:ZE rs r=some q):atI ?AP r=some (zo q):=by
 obtain⟨k,rfl,hk,_⟩:=vF h;refine Jo ?_;unfold yL;rw[yC,hk];rfl
def LI (p:Str×Th):D:=.tup [.str p.1,thD p.2]
theorem mU {ys:?A1}{ts:List Th}:V6 (ys.map D.str) (xK ts)=(ys.zip ts).map LI:=by
 rw[xh];unfold V6;rw[List.zip_map,qd];rfl
def Xs (rs:?A4)(us:List (Str×Th)):Bool:=us.all fun p=>zZ rs p.2 p.1
theorem tu:Xs rs (us++vs)=(Xs rs us&&Xs rs vs):=List.all_append
theorem tL:Xs rs [(y,t)]=zZ rs t y:=by unfold Xs;rw[List.all_cons,List.all_nil,Bool.and_true]
theorem m6 {r:Int}(h:ZE rs r=some q):zZ rs (.nd r ps) y=(decide (q.1=y)&&(decide (ps.length=q.2.1.length)&&Xs rs (q.2.1.zip ps))):=by
 unfold Xs;rw[←aA,zZ,h]
theorem md {r:Int}(h:ZE rs r=none):zZ rs (.nd r ps) y=false:=by rw[zZ,h]
abbrev seg (row:?A1)(i j:Nat):?A1:=(row.drop i).take ?I
section
structure TI (rs:?A4)(row:?A1)(h:Str)(i j:Nat)(v:BV)(t:Tr):Prop where
 d:v.2=trD t
 is:zZ rs (Vo t) h=true
 ws:wds t=seg row i j
 sh:shT rs t=v.1
 inr:inR rs.length t
structure TC (hs:?A1)(C:?zM)(i j:Nat)(q:Rat)(t:Tr)(cs:?A1):Prop where
 nd:cs.Nodup
 le:∀ x∈cs,x∈hs/\q<=C x
 dp:dpt t+3<=cs.length+3*?I
 nn:nds t+6<=cs.length+6*?I
def TG (rs:?A4)(hs row:?A1)(C:?zM)(i j:Nat)(h:Str)(v:BV):Prop:=0<v.1->i<j->∃ (t:Tr) (cs:List Str),TI rs row h i j v t/\TC hs C i j v.1 t cs
structure TL (rs:?A4)(row:?A1)(b:?A1)(i j:Nat)(v:PV)(ts:List Tr):Prop where
 d:v.2=KY ts
 len:ts.length=b.length
 is:ZO rs (JT ts) b=true
 ws:Vx ts=seg row i j
 sh:zV rs ts=v.1
 inr:WZ rs.length ts
 dp:KZ ts+3*min 1 (b.length - 1)<=3*?I
 nn:vp ts+3*b.length<=6*?I
def TP (rs:?A4)(row:?A1)(b:?A1)(i j:Nat)(v:PV):Prop:=0<=v.1/\(0<v.1->∃ ts,TL rs row b i j v ts)
def PP (rs:?A4)(row:?A1)(kp:Kp):Prop:=∀ p∈kp,TP rs row p.1.1 p.1.2.1 p.1.2.2 p.2
theorem Vn:∀ {cs hs:List Str},cs.Nodup->(∀ x∈cs,x∈hs)->cs.length<=hs.length
 |[],hs,_,_=>Y0 _
 |c::cs,hs,n,h=>by
  rw[yR] at n;have hc:=h c (by simp);have ih:=Vn (cs:=cs) (hs:=hs.erase c) n.2 fun x hx=>(List.mem_erase_of_ne (fun (e:x=c)=>n.1 (by rw[←e];exact hx))).mpr (h x (by simp[hx]));rw[List.length_erase_of_mem hc] at ih;have:=List.length_pos_of_mem hc;rw[yi];lia
theorem Dk(h1:i<=m)(h2:m<=j):seg row i j=seg row i m++seg row m j:=by
 unfold seg;have e:j - i=(m - i)+(j - m):=by lia
 rw[e,List.take_add,List.drop_drop];congr 3;lia
theorem oG(h:row[i]?=some x):seg row i (i+1)=[x]:=by
 unfold seg;have hi:=?FE
 obtain⟨hl,he⟩:=hi;rw[jG hl,he];have:i+1 - i=1:=by lia
 rw[this];rfl
theorem Al (hl:?jK)(hm:∀ x∈rs.map ?C,x∈hs)(hB:∀ h i j,TG rs hs row (fun x=>(qu kb x i j).1) i j h ?C9)(hij:i<j)(hp:0<(?C0).1):∃ t,TI rs row x i j ?C0 t/\dpt t<=3*?I/\nds t+3<=6*?I:=by
 unfold qb at hp ⊢;split at hp
 .rename_i hx;rw[yc hx];obtain⟨t,cs,a,c⟩:=hB x i j hp hij;have:=Vn c.nd fun x hx=>(c.le x hx).1;have:=c.dp;have:=c.nn;exact⟨t,a,?A,?A⟩
 .rename_i hx;rw[yd hx];dsimp only at hp ⊢;split at hp
  .rename_i hz;obtain⟨rfl,hr⟩:=hz;rw[yc ⟨rfl,hr⟩];refine⟨.lf x,⟨by rw[trD],?_,by rw[wds,oG hr],by rw[shT],by rw[inR];trivial⟩,by rw[dpt];lia,by rw[nds];lia⟩;rw[Vo,zZ,yu (fun z=>hx (hm x z))];simp
  .exact absurd hp ?B
theorem f9(h0:∀ h i j,0<=(?C9).1):0<=(?C0).1:=by
 unfold qb;split
 .exact h0 _ _ _
 .dsimp only;split <;> decide
theorem E1(a:TI rs row x i j v t)(b:dpt t<=3*?I)(c:nds t+3<=6*?I):TL rs row [x] i j (v.1,[v.2]) [t]:=by
 refine⟨?_,rfl,?_,?_,?_,?_,?_,?_⟩
 .show[v.2]=_;rw[KY,KY,a.d]
 .rw[JT,JT,ZO,a.is,ZO];rfl;simp
 .rw[Vx,Vx,a.ws,Yq]
 .rw[zV,zV,a.sh,Rat.mul_one]
 .rw[WZ,WZ];exact⟨a.inr,?Bi⟩
 .rw[KZ,KZ];show max (dpt t) 0+0<=_;lia
 .rw[vp,vp];show nds t+0+3*1<=_;lia
theorem IS (hl:?jK)(hm:∀ x∈rs.map ?C,x∈hs)(h0:∀ h i j,0<=(?C9).1)(hB:∀ h i j,TG rs hs row (fun x=>(qu kb x i j).1) i j h ?C9):∀ (b:List Str) (i j:Nat) (kp:Kp),b≠[]->i<j->PP rs row kp->TP rs row b i j (?EU).1/\PP rs row (?EU).2
 |[],_,_,kp,hb,_,hp=>absurd rfl hb
 |[x],i,j,kp,_,hij,hp=>by
  rw[bPm];refine⟨⟨f9 h0,fun q=>?_⟩,hp⟩;obtain⟨t,a,b,c⟩:=Al hl hm hB hij q;exact⟨[t],E1 a b c⟩
 |x::y::rest,i,j,kp,_,hij,hp=>by
  rw[bPm];cases q:VF kp ?zJ with
  |some v=>exact⟨hp _ (Ui q),hp⟩
  |none=>
   have go:∀ t,t<=nP ?qL i j->TP rs row ?Z i j (?jR).1/\PP rs row (?jR).2:=by
    intro t
    induction t with
    |zero=>exact fun _=>⟨⟨yJ,fun h=>absurd (show(0:Rat)<0 from h) ?B⟩,hp⟩
    |succ t ih=>
     intro ht;have ih:=ih ?A;rw[YC,yY];generalize (?CX).foldl ?yF ?zU=acc at *;have hm2:i+1+t+(rest.length+1)<=j:=by unfold nP at ht;lia
     obtain⟨f1,f2⟩:=IS hl hm h0 hB ?K ?E j acc.2 (by simp) ?A ih.2;rw[Yi,qH];unfold jQ;have b0:0<=(qb hs row kb x i (i+1+t)).1:=f9 h0;have pt:=Al (x:=x) hl hm hB (i:=i) (j:=?E) ?A;dsimp only;split
     .generalize bPm hs row kb ?K ?E j acc.2=B at *;generalize qb hs row kb x i ?E=A at *;refine⟨⟨Qo b0 f1.1,fun hq=>?_⟩,f2⟩;obtain⟨p1,p2⟩:=eK b0 f1.1 hq;obtain⟨t0,a,dp,nn⟩:=pt p1;obtain⟨ts,c⟩:=f1.2 p2;have cd:=c.dp;have cn:=c.nn;rw[yi] at cn cd;refine⟨t0::ts,?_,by rw[yi,c.len];rfl,?_,?_,?_,?_,?_,?_⟩
      .show A.2::B.1.2=_;rw[KY,a.d,c.d]
      .rw[JT,ZO,a.is,c.is];rfl
      .rw[Vx,a.ws,c.ws,←Dk ?A ?A]
      .rw[zV,a.sh,c.sh]
      .rw[WZ];exact⟨a.inr,c.inr⟩
      .rw[KZ];simp only[yi];lia
      .rw[vp];simp only[yi];lia
     .exact⟨ih.1,f2⟩
   obtain⟨e1,e2⟩:=go ?Bx ?AC;refine⟨e1,fun p hp'=>?_⟩;rcases Uo hp' with z|z
   .subst z;exact e1
   .exact e2 p z
structure TS (rs:?A4)(hs row:?A1)(s:KBP):Prop where
 eq:s.1.1.length=s.1.2.length
 nn:∀ h a b,0<=(qu s.1 h a b).1
 b:∀ h i j,TG rs hs row (fun x=>(qu s.1 x i j).1) i j h (qu s.1 h i j)
 p:PP rs row s.2
theorem Do (hl:?jK)(hm:∀ x∈rs.map ?C,x∈hs)(hij:i<j)(g:TS rs hs row s)(hr:?Bb)(hn:rs[n]?=some r):TS rs hs row (?Fb).1:=by
 have bp:=IS hl hm g.nn g.b r.2.1 i j s.2 (cL hr) hij g.p;unfold vq;split
 .rename_i q;have q0:0<r.2.2*(bPm hs row s.1 r.2.1 i j s.2).1.1:=by
   have:=g.nn r.1 i j;grind
  obtain⟨p1,p2⟩:=eK hr.pos bp.1.1 q0;obtain⟨ts,c⟩:=bp.1.2 p2;have r1:r.1∈hs:=hm _ (yA.mpr ⟨r,yr hn,rfl⟩);have ti:∀ ts,TL rs row r.2.1 i j (?zE).1 ts->TI rs row r.1 i j ?xV (.nd n ts):=by
   intro ts c;refine⟨?_,?_,by rw[wds,c.ws],?_,?_⟩
   .show D.tup _=_;rw[trD,c.d]
   .rw[Vo,zZ,K9,hn];dsimp only;rw[c.is,UT,c.len];simp
   .rw[shT,hn,c.sh];rfl
   .rw[inR];exact⟨(yk.mp hn).1,c.inr⟩
  have tc:∃ (t:Tr) (cs:List Str),TI rs row r.1 i j ?xV t/\r.1∉cs/\cs.Nodup/\(∀ x∈cs,x∈hs/\r.2.2*(?zE).1.1<=(qu s.1 x i j).1)/\dpt t+2<=cs.length+3*?I/\nds t+5<=cs.length+6*?I:=by
   cases o:wK hs r with
   |false=>
    have cd:=c.dp;have cn:=c.nn;have b1:=hr.b1;have z0:r.2.1.length=1->KZ ts=0/\vp ts=0:=by
     intro z;obtain⟨x,ex⟩:=QA.mp z;have cl:=c.len;rw[z] at cl;obtain⟨t,rfl⟩:=QA.mp cl;have ci:=c.is;have nx:=cU o ex;rw[ex,JT,JT,ZO,Yg] at ci;cases t with
     |lf w=>rw[KZ,KZ,dpt,vp,vp,nds];exact ?CV
     |nd k ps=>
      exfalso;have c1:=ci.1;rw[Vo,zZ] at c1;split at c1
      .rename_i q2 hq2;rw[Yg] at c1;obtain⟨k2,_,hk2,_⟩:=vF hq2;exact nx (hm x (yA.mpr ⟨q2,yr hk2,of_decide_eq_true c1.1⟩))
      .cases c1
    refine⟨_,[],ti ts c,by simp,by simp,by simp,?_,?_⟩
    .rw[dpt,Yz];by_cases z:r.2.1.length=1
     .have:=z0 z;lia
     .lia
    .rw[nds,Yz];by_cases z:r.2.1.length=1
     .have:=z0 z;lia
     .lia
   |true=>
    obtain⟨e,hx⟩:=dh o;have eB:(bPm hs row s.1 r.2.1 i j s.2).1=((qu s.1 (b0 r) i j).1,[(qu s.1 (b0 r) i j).2]):=by
     rw[e,bPm];unfold qb;rw[yc hx]
    rw[eB] at ti q p2 ⊢;dsimp only at q p2;obtain⟨t,cs,a,d⟩:=g.b (b0 r) i j p2 hij;have hc3:=Vn d.nd fun x hx=>(d.le x hx).1;have dd:=d.dp;have dn:=d.nn;have l1:r.2.2*(qu s.1 (b0 r) i j).1<=(qu s.1 (b0 r) i j).1:=by
     have:=qL hr.one (Yx p2)
     rwa [Rat.one_mul] at this
    refine⟨_,cs,ti [t] (by rw[e];exact E1 a ?A ?A),fun z=>?_,d.nd,fun x hx=>⟨(d.le x hx).1,yV l1 (d.le x hx).2⟩,?_,?_⟩
    .have:=(d.le _ z).2;grind
    .rw[dpt,KZ,KZ];lia
    .rw[nds,vp,vp];lia
  clear ti
  generalize bPm hs row s.1 r.2.1 i j s.2=B at *;have mono:∀ x a b,(qu s.1 x a b).1<=(qu ?xP x a b).1:=by
   intro x a b;rw[Zr g.eq];split
   .rename_i z;obtain⟨rfl,rfl,rfl⟩:=z;exact Yx q
   .exact yJ
  refine⟨V1 g.eq,fun h a b=>yV (g.nn h a b) (mono h a b),fun h a b=>?_,bp.2⟩;show TG rs hs row (fun x=>(qu ?xP x a b).1) a b h (qu ?xP h a b);by_cases z:h=r.1/\a=i/\b=j
  .obtain⟨t,cs,c1,c2,c3,c4,c5,c6⟩:=tc;rw[Zr g.eq (h':=h),yc z];obtain⟨rfl,rfl,rfl⟩:=z;intro _ _;refine⟨t,r.1::cs,c1,yR.mpr ⟨c2,c3⟩,fun x hx=>?_,?qJ,?qJ⟩;rcases yB.mp hx with y|y
   .subst y;refine⟨r1,?_⟩;rw[Zr g.eq,yc ⟨rfl,rfl,rfl⟩];exact yJ
   .exact⟨(c4 x y).1,yV (c4 x y).2 (mono x _ _)⟩
  .rw[Zr g.eq (h':=h),yd z];intro y1 y2;obtain⟨t,cs,c1,c2⟩:=g.b h a b y1 y2;exact⟨t,cs,c1,c2.nd,fun x hx=>⟨(c2.le x hx).1,yV (c2.le x hx).2 (mono x a b)⟩,c2.dp,c2.nn⟩
 .exact⟨g.eq,g.nn,g.b,bp.2⟩
theorem BD (hl:?jK)(hm:∀ x∈rs.map ?C,x∈hs)(hr:∀ r∈rs,?Bb)(hij:i<j)(g:TS rs hs row s):TS rs hs row (?Fh).1:=by
 unfold rnd;have go:∀ (ns:List Nat) (a:KBP×Bool),(∀ n∈ns,n<rs.length)->TS rs hs row a.1->TS rs hs row (ns.foldl ?CT a).1:=by
  intro ns
  induction ns with
  |nil=>intro a _ h;exact h
  |cons n ns ih=>
   intro a hn h;have hn0:=hn n (by simp);have e:rs[n]?=some (rs.getD n ("", [],0)):=by simp[hn0]
   exact ih _ (fun k hk=>hn k (by simp[hk])) (Do hl hm hij h (hr _ (yr e)) e)
 exact go _ _ (fun n hn=>qk.mp hn) g
theorem n8 (hl:?jK)(hm:∀ x∈rs.map ?C,x∈hs)(hr:∀ r∈rs,?Bb)(hij:i<j):∀ {m:Nat} {s:KBP},TS rs hs row s->TS rs hs row (V5 hs row rs i j m s)
 |0,s,g=>g
 |m+1,s,g=>by
  rw[V5];split
  .exact n8 hl hm hr hij (BD hl hm hr hij g)
  .exact BD hl hm hr hij g
end
theorem l9(g:?B8):∀ k,k<=(?AS).length->TS rs ?A5 row ?AW
 |0,_=>⟨rfl,fun h a b=>yJ,fun h i j z=>absurd (show(0:Rat)<0 from z) ?B,fun p hp=>by cases hp⟩
 |k+1,hk=>by
  have hp:(YT row.length)[k]?=some (YT row.length)[k]:=yj ?A;have ih:=l9 g k ?A;rw[Z3 hp];refine n8 g.hl (fun x hx=>?_) g.ru (ZT (yr hp)).1 ih;obtain⟨r,hr,rfl⟩:=yA.mp hx;exact g.hh r hr
theorem Du(g:?B8)(hij:i<j)(hp:0<BT rs row h i j):∃ t,(qu ?BZ h i j).2=trD t/\zZ rs (Vo t) h=true/\wds t=seg row i j/\shT rs t=BT rs row h i j/\inR rs.length t/\dpt t<=3*?I/\nds t<=6*?I:=by
 have a:=l9 g _ ?AC;obtain⟨t,cs,b,c⟩:=a.b h i j hp hij;have:=Vn c.nd fun x hx=>(c.le x hx).1;have:=c.dp;have:=c.nn;have:=g.hl;exact⟨t,b.d,b.is,b.ws,b.sh,b.inr,?A,?A⟩
theorem oa {f:?V}:∀ {rs:List yw},(∀ r∈rs,0<=f r)->0<=QR f rs
 |[],_=>yJ
 |r::rs,h=>by
  rw[QR];have a:=h r (by simp);have b:=oa (rs:=rs) fun x hx=>h x (by simp[hx]);grind
theorem xc {f:?V}:∀ {rs:List yw},(∀ r∈rs,0<=f r)->q∈rs->f q<=QR f rs
 |r::rs,h,m=>by
  rw[QR];have a:=h r (by simp);have b:=oa (rs:=rs) fun x hx=>h x (by simp[hx]);rcases yB.mp m with z|z
  .subst z;grind
  .have c:=xc (rs:=rs) (fun x hx=>h x (by simp[hx])) z;grind
theorem Wp(hj:?O):(seg row i j).length=j - i:=by
 unfold seg;rw[Yh,Qx];lia
section
mutual
theorem DR {rs:?A4}(h0:∀ r∈rs,?wD):∀ {t:Tr},0<=shT rs t
 |.lf w=>by rw[shT];decide
 |.nd k ps=>by
  rw[shT];refine Qo ?_ (Wv h0);cases q:rs[k]? with
  |none=>exact yJ
  |some r=>exact(h0 r (yr q)).1
theorem Wv {rs:?A4}(h0:∀ r∈rs,?wD):∀ {ts:List Tr},0<=zV rs ts
 |[]=>by rw[zV];decide
 |t::ts=>by rw[zV];exact Qo (DR h0) (Wv h0)
end
mutual
theorem Hd {rs:?A4}(h0:∀ r∈rs,?wD):∀ {t:Tr} {x:Str},zZ rs (Vo t) x=true->1<=(?CJ).length
 |.lf w,x,_=>by rw[wds];exact yg _
 |.nd k ps,x,h=>by
  rw[Vo,zZ,K9] at h;rw[wds];cases q:rs[k]? with
  |none=>rw[q] at h;cases h
  |some r=>
   rw[q] at h;dsimp only at h;rw[Yg,Yg,UT] at h;have a:=dm h0 (ts:=ps) (of_decide_eq_true h.2.1) h.2.2;have:=(h0 r (yr q)).2;lia
theorem dm {rs:?A4}(h0:∀ r∈rs,?wD):∀ {ts:List Tr} {bd:List Str},ts.length=bd.length->ZO rs (JT ts) bd=true->bd.length<=(Vx ts).length
 |[],[],_,_=>Y0 _
 |[],_::_,h,_=>by cases h
 |_::_,[],h,_=>by cases h
 |t::ts,x::xs,h,h3=>by
  rw[JT,ZO,Yg] at h3;have a:=Hd h0 (t:=t) h3.1;have c:=dm h0 (ts:=ts) (by simpa using h) h3.2;rw[Vx,yI,yi];lia
end
mutual
theorem EX (g:?Aj)(h0:∀ r∈rs,?wD):∀ {t:Tr} {x:Str} {i j:Nat},j<=row.length->zZ rs (Vo t) x=true->wds t=seg row i j->i<j/\shT rs t<=wT ?A5 row ?Ae x i j
 |.lf w,x,i,j,hj,h,e=>by
  rw[Vo,zZ,Yg] at h;rw[wds] at e;have l:=Wp (row:=row) (i:=i) hj;rw[←e,List.length_singleton] at l;have ej:j=i+1:=by lia
  subst ej;have hx:x∉yt rs:=fun z=>by rw[JA] at z;rw[yK z] at h;cases h.1
  have hw:w=x:=of_decide_eq_true h.2;subst hw;obtain⟨y,hy⟩:∃ y,row[i]?=some y:=⟨_,yj ?A⟩
  rw[oG hy] at e;have e2:w=y:=by simpa using e
  subst e2;unfold wT;rw[yd hx,yc ⟨rfl,hy⟩,shT];exact⟨?A,yJ⟩
 |.nd k ps,x,i,j,hj,h,e=>by
  rw[Vo,zZ,K9] at h;rw[wds] at e;cases q:rs[k]? with
  |none=>rw[q] at h;cases h
  |some r=>
   rw[q] at h;dsimp only at h;rw[Yg,Yg,UT] at h;obtain⟨h1,h2,h3⟩:=h;have h1:r.1=x:=of_decide_eq_true h1;have h2:ps.length=r.2.1.length:=of_decide_eq_true h2;have rm:=yr q;have r0:=h0 r rm;have il:i<j:=by
    have l:=Wp (row:=row) (i:=i) hj;have n:=dm h0 (ts:=ps) h2 h3;rw[e,l] at n;lia
   have a:=rS g h0 (ts:=ps) ?A hj h2 h3 e;have hx:x∈yt rs:=by rw[JA];exact yA.mpr ⟨r,rm,h1⟩
   refine⟨il,?_⟩;unfold wT;rw[yc hx,←lR g hx il hj,shT,q];have nn:∀ r∈rs,0<=d8 rs row x i j r:=fun r hr=>by
    unfold d8;split
    .exact Qo (h0 r hr).1 (EM g (Qk il) hj).1
    .exact yJ
   refine yV ?_ (xc nn rm);unfold d8;rw[yc h1];exact Ye a r0.1
theorem rS (g:?Aj)(h0:∀ r∈rs,?wD):∀ {ts:List Tr} {bd:List Str} {i j:Nat},i<=j->j<=row.length->ts.length=bd.length->ZO rs (JT ts) bd=true->Vx ts=seg row i j->zV rs ts<=wP ?A5 row ?Ae bd i j
 |[],[],i,j,hi,hj,_,_,e=>by
  have l:=Wp (row:=row) (i:=i) hj;rw[Vx] at e;rw[←e,Yz] at l;rw[zV,wP,yc ?A];exact yJ
 |[],_::_,i,j,_,_,h,_,_=>by cases h
 |_::_,[],i,j,_,_,h,_,_=>by cases h
 |t::ts,x::xs,i,j,hi,hj,h,h3,e=>by
  rw[JT,ZO,Yg] at h3;rw[Vx] at e;have l:=Wp (row:=row) (i:=i) hj;rw[←e,yI] at l;have e1:wds t=seg row i (i+(wds t).length):=by
   have:=congrArg (List.take (?CJ).length) e;rw[List.take_left] at this;refine this.trans ?_;unfold seg;rw[List.take_take];congr 1;lia
  have e2:Vx ts=seg row (i+(wds t).length) j:=by
   have:=congrArg (List.drop (?CJ).length) e;rw[List.drop_left] at this;refine this.trans ?_;unfold seg;rw[List.drop_take,List.drop_drop];congr 1;lia
  have a:=EX g h0 (t:=t) ?A h3.1 e1;have c:=rS g h0 (ts:=ts) ?A hj (by simpa using h) h3.2 e2;have z:0<=zV rs ts:=Wv h0;have nn:∀ k,k<j - i->0<=(fun t=>wT ?A5 row ?Ae x i ?E*wP ?A5 row ?Ae xs ?E j) k:=fun k hk=>Qo (og g ?A).1 (EM g ?A hj).1;rw[zV,wP];refine yV ?_ (WG (k:=(?CJ).length - 1) nn ?A);rw[show i+1+((wds t).length - 1)=i+(wds t).length by lia];exact yV (qL a.2 z) (Ye c (og g ?A).1)
end
end
theorem X8:QN h (a++b)=QN h a+QN h b:=by
 show(a++b).foldl (JR h) 0=_;rw[yY,kU];rfl
theorem aF {rs:?A4}(n:Nat):(?wJ).Perm rs:=by
 have:=qI (l₁:=rs.drop n) (l₂:=rs.take n)
 rwa [Qi] at this
theorem um {n:Nat}:x∈yt ?wJ ↔ x∈yt rs:=by
 rw[JA,JA];exact((aF n).map _).mem_iff
theorem U3:(?A5).Nodup:=Wu Qw
theorem oH:(yt ?wJ).length<=(?A5).length:=Vn U3 fun x hx=>um.mp hx
theorem Er {hs ws:?A1}{rs:?A4}(g:?HY)(n:Nat):GOk (yt ?wJ) ws ?wJ:=by
 have p:=aF (rs:=rs) n;have hh:∀ x,x∈yt ?wJ ↔ x∈hs:=fun x=>by rw[um,g.fst]
 have nd:=Yr.mp g.nd;refine⟨Yr.mpr ⟨U3,nd.2.1,fun x hx y hy=>nd.2.2 x ((hh x).mp hx) y hy⟩,fun x hx=>?_,fun z=>?_,g.w0,?_,g.wl,fun z=>?_,by rw[p.length_eq];exact g.rl,rfl,fun h hx=>?_,fun r hr=>?_,fun r hr=>g.pos r (p.mem_iff.mp hr),(p.map _).nodup_iff.mpr g.prs⟩
 .refine g.sym x ?_;rcases Yw.mp hx with z|z
  .exact Yu _ ((hh x).mp z)
  .exact y6 _ z
 .obtain⟨y,hy⟩:=List.exists_mem_of_ne_nil hs g.h0;have:=(hh y).mpr hy;rw[z] at this;cases this
 .have:=oH (rs:=rs) (n:=n);rw[g.fst] at this;exact yz this g.hl
 .have:=p.length_eq;rw[z] at this;exact g.r0 (qr.mp this.symm)
 .rw[X8,Rat.add_comm,←X8,Qi];exact g.one h ((hh h).mp hx)
 .have b:=g.body r (p.mem_iff.mp hr);refine⟨b.1,b.2.1,fun x hx=>?_⟩;rcases Yw.mp (b.2.2 x hx) with z|z
  .exact Yu _ ((hh x).mpr z)
  .exact y6 _ z
theorem lY:∀ {rs:List yw},QN h rs=QR (fun r=>if r.1=h then r.2.2 else 0) rs
 |[]=>rfl
 |r::rs=>by rw[jw,QR,lY]
theorem IA(g:?HY)(h3:?jK)(hr:?zY):?B8:=by
 have hh:∀ r∈rs,r.1∈yt rs:=fun r hr=>JA.mpr (yA.mpr ⟨r,hr,rfl⟩);refine⟨g.rl,hr,by rw[g.fst];exact h3,fun r hr=>?_,hh⟩;have b:=g.body r hr;have q:=g.pos r hr;refine⟨b.1,b.2.1,Yx q.1,?_,q.2⟩;have o:=g.one r.1 (by rw[←g.fst];exact hh r hr);rw[lY] at o;rw[←o];have nn:∀ r'∈rs,0<=(fun r':yw=>if r'.1=r.1 then r'.2.2 else 0) r':=fun r' hr'=>by
  dsimp only;split
  .exact Yx (g.pos r' hr').1
  .exact yJ
 have:=xc nn hr;rw[yc rfl] at this;exact this
def mL (w:?S):List Str->Nat->Nat->List Rat
 |[],i,j=>if i=j then [1] else []
 |x::xs,i,j=>(List.range (nP (xs.length+1) i j)).flatMap fun t=>if 0<w x i ?E then (mL w xs ?E j).map fun a=>w x i ?E*a else []
abbrev wB (rs:?A4)(row:?A1):?S:=wT ?A5 row ?BQ
theorem my(g:?B8)(hij:i<j)(hj:?O):0<=wB rs row x i j/\Sz 200000 (wB rs row x i j):=by
 unfold wB wT;split
 .exact AW g hij hj x
 .split
  .exact⟨?B,wX.mono ?B⟩
  .exact⟨?B,Uq.mono ?B⟩
theorem mW(g:?B8):∀ {b:List Str} {i j:Nat},i<=j->j<=row.length->∀ q∈mL (wB rs row) b i j,0<=q/\q<=mP ?A5 row ?BQ b i j/\Sz (200000*b.length+1) q
 |[],i,j,_,_,q,hq=>by
  rw[mL] at hq;rw[mP];split at hq
  .rename_i e;rw[yE.mp hq,yc e];exact⟨?B,yJ,wX.mono ?B⟩
  .cases hq
 |x::xs,i,j,hij,hj,q,hq=>by
  rw[mL] at hq;obtain⟨t,ht,hq⟩:=Q5.mp hq;rw[qk] at ht;unfold nP at ht;split at hq
  .obtain⟨a,ha,rfl⟩:=yA.mp hq;obtain⟨c1,c2,c3⟩:=mW g (b:=xs) ?A hj a ha;have w:=my g (x:=x) (i:=i) (j:=?E) ?A ?A;refine⟨Qo w.1 c1,?_,(ZF w.2 c3).mono ?qJ⟩;rw[mP];exact yV (Ye c2 w.1) (Wq (f:=fun t=>wB rs row x i ?E*mP ?A5 row ?BQ xs ?E j) (t:=t) ?A)
  .cases hq
theorem lx {w:?S}:∀ {b:List Str} {i j:Nat},j<=i+5->(mL w b i j).length<=5 ^ b.length
 |[],i,j,_=>by rw[mL];split <;> simp
 |x::xs,i,j,h=>by
  rw[mL,List.length_flatMap];have go:∀ n,n<=5->n<=nP (xs.length+1) i j->((?BU).map fun t=>(if 0<w x i ?E then (mL w xs ?E j).map fun a=>w x i ?E*a else []).length).sum<=n*5 ^ xs.length:=by
   intro n
   induction n with
   |zero=>intro _ _;simp
   |succ n ih=>
    intro h5 hn;rw[YC,yH,List.sum_append,Qe];refine Nat.add_le_add (ih ?A ?A) ?_;simp only[yD,Q6,zf,List.sum_nil,Q7,Nat.add_zero];split
    .rw[yf];exact lx ?A
    .exact Y0 _
  have n5:nP (xs.length+1) i j<=5:=by unfold nP;lia
  rw[yi,QW,jP];exact yz (go _ n5 ?AC) (qq _ n5)
theorem eD(g:?B8)(hr:r∈rs)(hij:i<j)(hj:?O){q:Rat}(hq:q∈mL ?E0 r.2.1 i j):r.2.2*q<=BT rs row r.1 i j:=by
 have a:=(mW g (Qk hij) hj q hq).2.1;rw[EU g hij hj];have:=Ki (f:=fun r':yw=>if r'.1=r.1 then r'.2.2*mP ?A5 row ?BQ r'.2.1 i j else 0) hr;rw[yc rfl] at this;exact yV (Ye a (g.ru r hr).pos) this
section
theorem Eg(ok:?KS)(c:?F4)(hr:?Aw)(ha:?yP)(ho:V3 X B o Γ Ω fun q Ω1=>∃ fs gs d,q=.obj Cc fs gs/\m∉fs/\C (.obj Cc fs gs::ds) d/\R d Ω1)(hn:ds.length+1=n:=by rfl)
  (hst:?W:=by rfl) (hpl:?zD:=by rfl)
  (ht:eval ?qE X.env=(do
   let ov ←eval o X.env
   standAt apos.atName
   let (f,first) ←holding [ov] (getMethod ov m pl)
   callWith pos f first ?kJ ?qD):=by rfl):V3 X B ?qE Γ Ω R:=fun F σ H S pins s I=>by
 obtain⟨f,fd,Fn,hM,hb⟩:=ok;refine bH (pl:=pl) j6 c hM Fn hr hb .nil uZ ha hst hpl ht pins s σ H _ I ((ho F σ H S).mono fun v H1 ⟨q,Ω1,F1,S1,f1,i1,fs,gs,d,e1,hm,hC,r⟩=>?_);subst e1;obtain⟨a,dx,xs,rfl,h1,hl,il⟩:=isO i1;refine⟨a,dx,_,rfl,S1.fh _ _ h1,Z8 hm,F1,S1.fh,S1.sl,fun vs H2 F2 p2 i2=>?_⟩;dsimp only;rw[Yq];exact⟨_,d,F2,hC,hn,p2.fh,?ID,fun v' H3 F3 p3 i3=>⟨d,Ω1,F3,S1.pur (p2.trans p3),f1.trans (p2.trans p3).ff,i3,r⟩⟩
end
def bdD (rs:?A4)(row:?A1):D:=.dt ((?ES).map kS) (((?ES).map ?Dw).map sh)
def Gf (Cg:Addr):?G:=fun ds d=>∃ (st:Str) (rs:List yw) (row:List Str),ds=[gD Cg st rs,y9 row]/\d=bdD rs row/\GB rs row/\(?A5).Nodup
def lT (Cg:Addr):?G:=fun ds d=>∃ (st:Str) (rs:List yw) (row:List Str),ds=[gD Cg st rs,y9 row]/\d=(?IT).2/\GB rs row/\0<BT rs row st 0 row.length
theorem ED [DecidableEq κ]:∀ {ks:List κ} {xs:List α},k∉ks->vA ks xs k=none
 |[],_,_=>rfl
 |x::ks,[],_=>rfl
 |x::ks,y::xs,h=>by
  unfold vA;rw[yU,y3,yu (fun e:x=k=>h (by rw[e];simp))];exact ED (ks:=ks) fun z=>h (by simp[z])
theorem Aw(hh:h∈yt rs)(hij:i<j)(hj:?O):vA ((?ES).map kS) (((?ES).map ?Dw).map sh) (kS ?Y)=some (sh (BT rs row h i j)):=by
 rw[k8 vJ,BR (gM.mpr ⟨hh,Ub hij hj⟩)];rfl
theorem FL(hij:i<j)(hj:?O):(vA ((?ES).map kS) (((?ES).map ?Dw).map sh) (kS (x,i,j))).getD (sh (if j=i+1/\row[i]?=some x then 1 else 0))=sh (wB rs row x i j):=by
 unfold wB wT;by_cases hx:x∈yt rs
 .rw[Aw hx hij hj,yc hx];rfl
 .rw[k8 vJ,ED (fun z=>hx (gM.mp z).1),yd hx];rfl
def ii (rs:?A4)(row:?A1):D:=.dk [jz "found", jz "row"] [bdD rs row,y9 row]
def mlD (rs:?A4)(row:?A1)(b:?A1)(i j:Nat):D:=.lst ((mL ?E0 b i j).map sh)
def Cu (n:Nat):?G:=fun ds d=>∃ (rs:List yw) (row:List Str) (b:List Str) (i j:Nat),ds=[ii rs row,y9 b,.int (i:Int),.int (j:Int)]/\d=mlD rs row b i j/\b.length<=n/\i<=j/\j<=row.length/\GB rs row/\n<=4
def Df:?G:=fun ds d=>∃ (rs:List yw) (row:List Str),ds=[.lst ?AP,bdD rs row,y9 row]/\d=.bl true/\GB rs row/\∀ r∈rs,0<=r.2.2/\Sz 5 r.2.2
def mLt (rs:?A4)(row:?A1)(x:Str)(xs:?A1)(i j n:Nat):List Rat:=(?BU).flatMap fun t=>if 0<wB rs row x i ?E then (mL ?E0 xs ?E j).map fun a=>wB rs row x i ?E*a else []
theorem fH:mLt rs row x xs i j (n+1)=mLt rs row x xs i j n++if 0<wB rs row x i (i+1+n) then (mL ?E0 xs (i+1+n) j).map fun a=>wB rs row x i (i+1+n)*a else []:=by
 unfold mLt;rw[YC,Qf];simp
theorem nJ(h:j<=i+5):∀ {n:Nat},n<=5->(mLt rs row x xs i j n).length<=n*5 ^ xs.length
 |0,_=>by simp[mLt]
 |n+1,hn=>by
  have:=nJ (rs:=rs) (row:=row) (x:=x) (xs:=xs) (i:=i) (j:=j) h (n:=n) ?A;rw[fH,yI,Qe];refine Nat.add_le_add this ?_;split
  .rw[yf,Q7];exact lx ?A
  .exact Y0 _
theorem Cw {q:Rat}(h:0<=q):decide (0<q.num)=decide (0<q):=by
 by_cases e:0<q
 .have a:=Rat.num_nonneg.mpr h;have b:q.num≠0:=fun z=>by rw[Rat.num_eq_zero.mp z] at e;exact absurd e ?B
  rw[yK e,yK (show 0<q.num by lia)]
 .have e2:q=0:=qN (Rat.not_lt.mp e) h;subst e2;rfl
theorem EO:atI [D.lst [],D.lst [sh 1]] (if k then 1 else 0)=some (D.lst (if k=true then [sh 1] else [])):=by cases k <;> rfl
theorem Ao {i j:Nat}:D.lst ?xT=mlD rs row [] i j:=by
 unfold mlD;rw[mL];by_cases e:i=j
 .simp[e]
 .have:¬ ((i:Int)=(j:Int)):=by lia
  simp[e,this]
theorem aO {f:?N}(h:xD n f=0)(nn:∀ t,t<n->0<=f t)(ht:t<n):f t=0:=by
 have a:=Wq (f:=f) ht;rw[h] at a;exact qN a (nn t ht)
theorem UP {a b:Rat}(h:a*b=0):a=0∨b=0:=by
 by_cases e:a=0
 .exact .inl e
 .refine .inr ?_;have:a⁻¹*(a*b)=b:=by rw[←Rat.mul_assoc,Rat.inv_mul_cancel _ e,Rat.one_mul]
  rw[←this,h,Jr]
section
def ZOk (rs:?A4)(row:?A1)(n:Nat):Prop:=∀ x a b,a<b->b<=row.length->b - a<=n->BT rs row x a b=0->TW rs row x a b=0
theorem nN(z:?HV)(h1:a<b)(h2:b<=row.length)(h3:b - a<=n)(h:wB rs row x a b=0):wT ?A5 row ?Ae x a b=0:=by
 unfold wB wT at h;unfold wT;split at h
 .rename_i hx;rw[yc hx];exact z x a b h1 h2 h3 h
 .rename_i hx;rw[yd hx];exact h
theorem Bl (g:?B8){n:Nat}(z:?HV):∀ {b:List Str} {i j:Nat},j<=row.length->j - i<=n->mP ?A5 row ?BQ b i j=0->wP ?A5 row ?Ae b i j=0
 |[],i,j,_,_,h=>by
  rw[mP] at h;rw[wP];exact h
 |x::xs,i,j,hj,hn,h=>by
  rw[mP] at h;rw[wP];refine jO fun t ht=>?_;have a:=aO h (fun t ht=>Qo (my g ?A ?A).1 B6) ht;rcases UP a with q|q
  .rw[nN z (by lia) (by lia) (by lia) q,Rat.zero_mul]
  .rw[Bl g z hj (by lia) q,Jr]
theorem Eb (g:?B8){n:Nat}(z:?HV){i j:Nat}(hj:?O)(hn:j - i<=n+1)(h:mP ?A5 row ?BQ (x::y::ys) i j=0):wP ?A5 row ?Ae (x::y::ys) i j=0:=by
 rw[mP] at h;rw[wP];refine jO fun t ht=>?_;have a:=aO h (fun t ht=>Qo (my g ?A ?A).1 B6) ht;by_cases e:i+1+t=j
 .rw[Kj ?qJ,Jr]
 .rcases UP a with q|q
  .rw[nN z (by lia) (by lia) (by lia) q,Rat.zero_mul]
  .rw[Bl g z hj (by lia) q,Jr]
theorem nV {f h:?V}:∀ {l:List yw},(∀ r∈l,f r<=h r)->QR f l<=QR h l
 |[],_=>yJ
 |r::l,a=>by
  rw[QR,QR];have a0:=a r (by simp);have:=nV (l:=l) fun x hx=>a x (by simp[hx]);grind
theorem nD {f h:?V}:∀ {l:List yw},(∀ r∈l,f r<=h r)->q∈l->f q<h q->QR f l<QR h l
 |r::l,a,m,lt=>by
  rw[QR,QR];have a0:=a r (by simp);have le:QR f l<=QR h l:=nV fun x hx=>a x (by simp[hx]);rcases yB.mp m with z|z
  .subst z;grind
  .have c:=nD (l:=l) (fun x hx=>a x (by simp[hx])) z lt;grind
theorem su {m:Rat}:∀ {l:List yw},QR (fun r=>if r.1=h then r.2.2*m else 0) l=QN h l*m
 |[]=>by rw[QR];show(0:Rat)=0*m;rw[Rat.zero_mul]
 |r::l=>by
  rw[QR,su,jw];split <;> grind
theorem r6 {f:?zM}:∀ (hs:List Str),∃ m,0<=m/\(∀ h∈hs,f h<=m)/\(m=0∨∃ h∈hs,f h=m)
 |[]=>⟨0,yJ,fun h hh=>by (cases hh),?A2⟩
 |x::hs=>by
  obtain⟨m,m0,a,b⟩:=r6 (f:=f) hs;by_cases e:f x<=m
  .refine⟨m,m0,fun h hh=>?_,?_⟩
   .rcases yB.mp hh with z|z
    .rw[z];exact e
    .exact a h z
   .rcases b with z|⟨h,hh,z⟩
    .exact ?Ap
    .exact .inr ⟨h,by simp[hh],z⟩
  .have e:=Rat.not_le.mp e;refine⟨f x,by grind,fun h hh=>?_,.inr ⟨x,by simp,rfl⟩⟩;rcases yB.mp hh with z|z
   .rw[z];exact yJ
   .have:=a h z;grind
theorem Ia (so:?Aj)(hij:i<j)(hj:?O)(hh:h∈yt rs):0<=TW rs row h i j:=by
 have:=(og so (x:=h) (i:=i) hj).1;unfold wT at this
 rwa [yc hh] at this
theorem AT (so:?Aj)(g:?B8)(hp:∀ r∈rs,0<r.2.2)(h1:∀ h∈yt rs,QN h rs=1){n:Nat}(z:?HV){i j:Nat}(hij:i<j)(hj:?O)(hn:j - i<=n+1){m:Rat}(hm:0<m)(le:∀ h∈yt rs,BT rs row h i j=0->TW rs row h i j<=m):∀ k h,XO ?A5 rs h<=k->h∈yt rs->BT rs row h i j=0->TW rs row h i j<m:=by
 intro k
 induction k using Nat.strongRecOn with
 |ind k ih=>
 intro h hk hh hb;by_cases lv:h∈yy rs
 .obtain⟨r0,hr0,e0,lr⟩:=XW (Jz.mp lv).2;have mz:∀ r∈rs,r.1=h->mP ?A5 row ?BQ r.2.1 i j=0:=fun r hr e=>by
   have a:=Ki (f:=fun r':yw=>if r'.1=h then r'.2.2*mP ?A5 row ?BQ r'.2.1 i j else 0) hr;rw[←EU g hij hj,hb] at a;rw[yc e] at a;have c:r.2.2*mP (yt rs) row (BT rs row) r.2.1 i j=0:=qN a (Qo (Yx ?Cb) B6);rcases UP c with q|q
   .have:=hp r hr;grind
   .exact q
  have body:∀ r∈rs,r.1=h->wP ?A5 row ?Ae r.2.1 i j=0∨∃ x∈yt rs,r.2.1=[x]/\BT rs row x i j=0/\wP ?A5 row ?Ae r.2.1 i j=TW rs row x i j:=fun r hr e=>by
   have q:=mz r hr e;have b1:=(g.ru r hr).b1;cases eb:r.2.1 with
   |nil=>rw[eb] at b1;simp at b1
   |cons x xs=>
    rw[eb] at q;cases xs with
    |cons y ys=>exact .inl (Eb g z hj hn q)
    |nil=>
     rw[lF ax hij] at q;by_cases hx:x∈yt rs
     .refine .inr ⟨x,hx,rfl,?_,?_⟩
      .unfold wT at q
       rwa [yc hx] at q
      .rw[xC hij];unfold wT;rw[yc hx]
     .refine .inl ?_;rw[xC hij];unfold wT at q ⊢;rw[yd hx] at q ⊢;exact q
  have e:=lR so hh hij hj;have o:=h1 h hh;have sm:=su (h:=h) (m:=m) (l:=rs);rw[o,Rat.one_mul] at sm;rw[←e,←sm];refine nD (q:=r0) (fun r hr=>?_) hr0 ?_
  .unfold d8;split
   .rename_i er;refine Ye ?_ (Yx ?Cb);rcases body r hr er with q|⟨x,hx,_,bx,q⟩
    .rw[q];exact Yx hm
    .rw[q];exact le x hx bx
   .exact yJ
  .unfold d8;rw[yc e0,yc e0];refine Rat.mul_lt_mul_of_pos_left ?_ (hp r0 hr0);rcases body r0 hr0 e0 with q|⟨x,hx,eb,bx,q⟩
   .rw[q];exact hm
   .rw[q];have:=(lr x (by rw[eb];simp) hx).2;exact ih (XO ?A5 rs x) ?A x ?AC hx bx
 .rw[bZ so lv];exact hm
theorem nI (so:?Aj)(g:?B8)(hp:∀ r∈rs,0<r.2.2)(h1:∀ h∈yt rs,QN h rs=1):∀ n,ZOk rs row n
 |0=>fun x a c h1 h2 h3=>by lia
 |n+1=>fun x i j hij hj hn hb=>by
  have z:=nI so g hp h1 n;by_cases hx:x∈yt rs
  .obtain⟨m,m0,a,c⟩:=r6 (f:=fun h=>if BT rs row h i j=0 then TW rs row h i j else 0) ?A5;have le:∀ h∈yt rs,BT rs row h i j=0->TW rs row h i j<=m:=fun h hh q=>by
    have:=a h hh
    rwa [yc q] at this
   have x0:=Ia so hij hj hx;rcases c with c|⟨h,hh,c⟩
   .have:=le x hx hb;rw[c] at this;exact qN this x0
   .by_cases q:BT rs row h i j=0
    .rw[yc q] at c;by_cases mp:0<m
     .have:=AT so g hp h1 z hij hj hn mp le _ h ?AC hh q;rw[c] at this;exact absurd this (Rat.lt_irrefl)
     .have:=le x hx hb;exact qN (yV this (Rat.not_lt.mp mp)) x0
    .rw[yd q] at c;have:=le x hx hb;rw[←c] at this;exact qN this x0
  .exact bZ so (fun y=>hx (Jz.mp y).1) i j
end
end L3
namespace Law
open PySem L2 L3
section
variable (P w K mg base) in
abbrev At:Prop:=OkF P w K mg base CX0 36 "_law_given" ["_law_script"] (spR K 1 Ar Aa)
theorem cW (z:?AK)(d:Yo K mg "_law_given" Zj ["_law_script"])(Jg:?KC)(lK:AK P w K mg base)(rL:Bm P w K mg base):At P w K mg base:=by
 refine AM d VZ rfl fun f cdv A outer s H E hr ds hC B hB=>?_;obtain⟨ns,rfl⟩:=hC;refine YM (i:=1) VZ.nd rfl ?A2 (wG (Yk (d:=.int (ns.getD 3 0)) Jg ?A3 rfl ?Fy ?_) yx ?_) ?_
 .exact⟨ns,3,rfl,rfl⟩
 .decide
 have m3:=ZU (a:=ns.getD 3 0) (show(0:Int)<3 by decide);obtain⟨m,n,em,en,m1,m3',n1,n5⟩:=Iu m3.1 m3.2;generalize ns.getD 3 0 % 3=way at *;refine QB (i:=2) VZ.nd rfl ?A2 (Hg (m:=m) lK ?A3 rfl (Yk (d:=.int (ns.getD 0 0)) Jg ?A3 rfl ?Fy ⟨ns,0,rfl,rfl⟩) (Yk (d:=.int (ns.getD 1 0)) Jg ?A3 rfl ?Fy ⟨ns,1,rfl,rfl⟩) (Zo (km (yb yx ?DH)) ?AO em) m1 ?A fun hs ws rs g hl=>?_);refine ZG (oJ (jY (YI (y7 (d:=?BC) ?AT yx rfl) (jY (YI (y7 (d:=?D2) ?AT yx rfl) (jY (YI (y7 (d:=?CH) ?AT yx rfl) (jY (nc rL ?A3 rfl (yb (Yk (d:=.int (ns.getD 2 0)) Jg ?A3 rfl ?Fy ⟨ns,2,rfl,rfl⟩) (yb (y7 (d:=?D2) ?AT yx rfl) (yb (Zo (d:=.int (n:Int)) (km (yb yx ?DH)) ?AO en) yq))) ⟨ns.getD 2 0,ws,n,rfl,g.w0,g.wl,n1,n5⟩ fun d hd=>VE yq ⟨by (simp only[yi,Yz];decide),?_⟩)))))))));obtain⟨row,rfl,r1,r2,_⟩:=hd _ ws n rfl;exact⟨hs,ws,rs,row,rfl,g,?A,r1,?A⟩
end
section
variable (P w K mg base) in
abbrev lw:Prop:=OkF P w K mg base CX0 2 "cleared" ["row", "k"] (spP K 2 oV)
theorem lj (yZ:?X)(d:Yo K mg "cleared" ZY ["row", "k"])  : ?JL:=by
 refine YJ d iu rfl fun f cdv A outer s H E hr ds r hC B hB=>?_;obtain⟨m,k',f',rfl,rfl,hk,hm⟩:=hC;refine YK (aK (aK (PF3.p (Kc (pq 0 rfl) Kg (vH (pq 1 rfl)))) (km (yb (qo yZ rfl) yq)) ?_) (PF3.p (Kc (pq 0 rfl) (vH (J0 (pq 1 rfl) yx)) Kg)) ?_) ?_
 .rw[cj (by lia),nA ?A,Y1];show k'+1<=sizeLine;unfold sizeLine;lia
 .rw[yI,cj ?A,nA ?A,Y1,nG ?A,Qx,Y1];show k'+1+_<=sizeLine;unfold sizeLine;lia
 .rw[cj (by lia),nG ?A,Gq hk,Hf];rfl
variable (P w K mg base) in
abbrev A7:Prop:=OkF P w K mg base CX0 36 "without_itself" ["row", "k"] (spP K 2 oQ)
theorem Uj (z:?AK)(yZ:?X)(zQ:?wL)(d:Yo K mg "without_itself" Qq ["row", "k"])(JQ:?FF)(lL:Fj P w K mg base)(CL:EL P w K mg base)(wq:?JL):A7 P w K mg base:=by
 refine YJ d vE rfl fun f cdv A outer s H E hr ds r hC B hB=>?_;obtain⟨m,k',s',f',rfl,rfl,hk,hm,nn,hb,h1⟩:=hC;have a:=nn k' hk;have p:=v9 h1;have hu:=hr.units;have sb:Sz (1+s'+1) (1 - f' k'):=lm wX a.2;refine QT (ql (XH hr.units (Zo (d:=?Hn) (pq 0 rfl) (pq 1 rfl) ?_) (qo yZ rfl) zD zA)) ?_ ?_
 .exact uk hk
 .intro hz;rw[JB] at hz;have hz:=of_decide_eq_true hz;refine YK (pq 0 rfl) ?_;refine KC fun j hj=>?_;rw[hz];by_cases h:j=k'
  .rw[yc h,h,hz]
  .rw[yd h];grind
 intro _;refine ?AR;refine QT (vD (jn (Yk (d:=.bl true) JQ ?A3 rfl (yb (Zo (d:=?Hn) (pq 0 rfl) (pq 1 rfl) ?_) (yb (qo zQ rfl) yq)) ?_))) ?_ ?_
 .exact uk hk
 .exact⟨f' k',1,s',1,rfl,by rw[yK h1],a.2,wX,by lia,by decide⟩
 .intro hk;cases hk
 .intro _;refine ?AR;refine YM (i:=2) vE.nd rfl (.inr rfl) (Yk (d:=sh (1 - f' k')) lL ?A3 rfl (yb (qo zQ rfl) (yb (Zo (d:=?Hn) (pq 0 rfl) (pq 1 rfl) ?_) yq)) ?_) ?_
  .exact uk hk
  .exact⟨1,f' k',1,s',rfl,rfl,?B,a.1,wX,a.2,?B,?A,Yx h1⟩
  refine YK (PF3.p (jX (SX:=yp Qq) (XN:=["row", "k", "left"]) (N:=["way", "left"]) (nt:=1) (caps:=[2]) (pre:=(fun i=>tb i fun j=>sh (if j=k' then 0 else f' j / (1 - f' k')))) ⟨rfl,?D,?D,?D,rfl,?D⟩ (Qy (Yk (d:=shR m (fun j=>if j=k' then 0 else f' j)) wq ?A3 rfl (yb (pq 0 rfl) (yb (pq 1 rfl) yq)) ?_)) ?_ ?_ ?_)) ?_
  .exact⟨m,k',f',rfl,rfl,hk,hm⟩
  .intro i hi;rw[Y1] at hi ⊢;unfold sizeLine;lia
  .rfl
  .intro c i d hd;have hi:i<m:=by
    have:=(?GP).1
    rwa [Y1] at this
   rw[JU hi] at hd;cases hd;refine⟨_,(Yn (i:=0) (show List.Nodup (α:=Str) ["way", "left"] by decide +kernel) rfl (.inl rfl)),(Sub.set rfl),.inl ⟨sh (if i=k' then 0 else f' i / (1 - f' k')),zB,(Yk (d:=sh (if i=k' then 0 else f' i / (1 - f' k'))) CL ?A3 rfl (yb (pq 0 rfl) (yb (pqc 1 rfl) yq)) ?_),?_⟩⟩
   .refine⟨_,1 - f' k',s'+1,1+s'+1,rfl,?_,?_,Yx p,?_,sb,?A,?A,p⟩
    .dsimp only;by_cases h:i=k'
     .rw[yc h,yc h];congr 1;grind
     .rw[yd h,yd h]
    .dsimp only;by_cases h:i=k'
     .rw[yc h];decide
     .rw[yd h];exact(nn i hi).1
    .dsimp only;by_cases h:i=k'
     .rw[yc h];exact ?F3
     .rw[yd h];exact(nn i hi).2.mono ?A
   .exact J2
  .rw[Y1];rfl
variable (P w K mg base) in
abbrev sg:Prop:=OkF P w K mg base CX0 35 "put_in" ["row", "k", "found"] (spP K 3 HS)
theorem pb (z:?AK)(yZ:?X)(d:Yo K mg "put_in" vd ["row", "k", "found"])(Ut:?H8)(zH:?Dx)(wq:?JL):sg P w K mg base:=by
 refine YJ d aR rfl fun f cdv A outer s H E hr ds r hC B hB=>?_;obtain⟨m,k',s',f',g',rfl,rfl,hk,hm,nn,nng,hb,hg⟩:=hC;have a:=nn k' hk;have hu:=hr.units;refine YM (i:=3) aR.nd rfl (.inr rfl) (Zo (d:=?Hn) (pq 0 rfl) (pq 1 rfl) ?_) ?_
 .exact uk hk
 refine QT (ql (XH hr.units (pqc 3 rfl) (qo yZ rfl) zD zA)) ?_ ?_
 .intro hz;rw[JB] at hz;have hz:=of_decide_eq_true hz;refine YK (pq 0 rfl) ?_;refine KC fun j hj=>?_;rw[hz];by_cases h:j=k'
  .rw[yc h,h,hz]
  .rw[yd h];grind
 .intro hz;refine ?AR;refine YK (PF3.p (jX (SX:=yp vd) (XN:=["row", "k", "found", "way"]) (N:=["kept", "more", "way"]) (nt:=2) (caps:=[3]) (pre:=(fun i=>tb i fun j=>sh (if j=k' then 0 else f' j+f' k'*g' j))) ⟨rfl,?D,?D,?D,rfl,?D⟩ (tY z.zip rfl (Yk (d:=shR m (fun j=>if j=k' then 0 else f' j)) wq ?A3 rfl (yb (pq 0 rfl) (yb (pq 1 rfl) yq)) ?_) (pq 2 rfl)) ?_ ?_ ?_)) ?_
  .exact⟨m,k',f',rfl,rfl,hk,hm⟩
  .intro i hi;unfold V6 at hi;rw[yf,iK,Y1] at hi;rw[Y1];unfold sizeLine;lia
  .rfl
  .intro c i d hd;unfold V6 at hd;rw[iK] at hd;have hi:i<m:=by
    have:=(?GP).1
    rwa [yf,Y1] at this
   rw[yC,JU hi] at hd;cases hd;have zs:Sz (s'+1) (if i=k' then 0 else f' i):=by
    by_cases h:i=k'
    .rw[yc h];exact ?F3
    .rw[yd h];exact(nn i hi).2.mono ?A
   have zn:0<=(if i=k' then 0 else f' i):=by
    by_cases h:i=k'
    .rw[yc h];decide
    .rw[yd h];exact(nn i hi).1
   refine⟨_,(kL rfl (qR (Yn (i:=0) (show List.Nodup (α:=Str) ["kept", "more", "way"] by decide +kernel) rfl (.inl rfl)) (qR (Yn (i:=1) (show List.Nodup (α:=Str) ["kept", "more", "way"] by decide +kernel) rfl (.inl rfl)) vb))),(Sub.trans (Sub.set rfl) (Sub.set rfl)),.inl ⟨sh ?kH,zB,(fk (d:=sh ?kH) (ql (XH hr.units (pq 1 rfl) (qo yZ rfl) zD zA)) (fun hc=>(jS (pq 0 rfl) ?_)) (fun hc=>(jS (Yk (d:=sh ?kH) Ut ?A3 rfl (yb (pq 0 rfl) (yb (Yk (d:=sh (f' k'*g' i)) zH ?A3 rfl (yb (pqc 2 rfl) (yb (pq 1 rfl) yq)) ?_) yq)) ?_) ?_))),?_⟩⟩
   .rw[JB] at hc;have hc:=of_decide_eq_true hc;show sh (if i=k' then 0 else f' i)=sh ?kH;rw[hc];congr 1;by_cases h:i=k'
    .rw[yc h,yc h]
    .rw[yd h,yd h];grind
   .exact⟨f' k',g' i,s',2*s'+2,rfl,rfl,a.1,(nng i hi).1,a.2,(nng i hi).2,?A,?A,?Bi⟩
   .refine⟨_,f' k'*g' i,s'+1,s'+(2*s'+2),rfl,?_,zn,Qo a.1 (nng i hi).1,zs,ZF a.2 (nng i hi).2,?A,?A,?Bi⟩;dsimp only;by_cases h:i=k'
    .rw[yc h,yc h,h,hg];congr 1;grind
    .rw[yd h,yd h]
   .rfl
   .exact J2
  .unfold V6;rw[yf,iK,Y1];rfl
variable (P w K mg base) in
abbrev BZ:Prop:=OkF P w K mg base CX0 37 "solved_rows" ["ways", "ends"] (spP K 2 Hk)
theorem WD (z:?AK)(d:Yo K mg "solved_rows" Qv ["ways", "ends"])(wu:A7 P w K mg base)(CK:sg P w K mg base):BZ P w K mg base:=by
 refine YJ d Jv rfl fun f cdv A outer s H E hr ds r hC B hB=>?_;obtain⟨n,m,s',W,B',rfl,rfl,⟨hn,hm,gW,ge,hb⟩,hp⟩:=hC;have G0:=mH gW ge;have pE:=iR (B:=B') hp;refine gS (i:=2) (SX:=yp Qv) (XN:=["ways", "ends", "rows", "k", "found"]) (N:=["k", "ways", "ends"]) (nt:=1) (caps:=[0,1]) (pre:=(fun i=>tb i fun r=>shR (n+m) (wM n W B' r)))  ⟨rfl,?D,?D,?D,rfl,?D⟩ Jv.nd rfl (.inl rfl)  (Vw (n:=n) z.range rfl (zS z.len rfl (pqc 1 rfl)) ?_ ?_) ?_ ?_ ?_ ?_
 .rw[Y1]
 .lia
 .intro i hi;rw[jF] at hi;rw[Y1];unfold sizeLine;lia
 .rfl
 .intro c i d hd;obtain⟨hi,rfl⟩:=zu hd;rw[qK];refine⟨_,(Yn (i:=0) (show List.Nodup (α:=Str) ["k", "ways", "ends"] by decide +kernel) rfl (.inl rfl)),(Sub.set rfl),.inl ⟨shR (n+m) (wM n W B' i),zB,(jS (aK (PF3.p (Vy z.list rfl (Zo (d:=shR n (W i)) (pqc 1 rfl) (pq 0 rfl) ?_) (.inl rfl))) (PF3.p (Vy z.list rfl (Zo (d:=shR m (B' i)) (pqc 2 rfl) (pq 0 rfl) ?_) (.inl rfl))) ?_) ?_),?_⟩⟩
  .exact uk hi
  .exact uk hi
  .rw[Y1,Y1];unfold sizeLine;lia
  .exact congrArg D.lst Gz
  .exact J2
 refine jo PassesOwn.never rfl (Vw (n:=n) z.range rfl (zS z.len rfl (pqc 1 rfl)) ?_ ?_) (fun i Γ _=>∃ a b,Γ=[some (shM n n W),some (shM n m B'),some (shM n (n+m) (EK ?CS i)),a,b]) ?_ ?_ ?_
 .rw[Y1]
 .lia
 .refine⟨none,none,?_⟩;rw[jF];rfl
 .rintro k d Γ Ω hd ⟨a,b,rfl⟩;obtain⟨hk,rfl⟩:=zu hd;rw[qK];have Gk:=G0.at (QK n m) k ?A fun j hj=>pE j ?A;have hs:4*sK s' k+3<=big:=yz (show sK s' (k+1)<=sK s' n from oj ?A) hb;refine⟨_,(Yn (i:=3) Jv.nd rfl (.inr rfl)),?_⟩;refine YM (i:=4) Jv.nd rfl (.inr rfl) (Yk (d:=shR (n+m) (fun j=>if j=k then 0 else EK ?CS k k j / (1 - EK ?CS k k k))) wu ?A3 rfl (yb (Zo (d:=shR (n+m) (EK ?CS k k)) (pq 2 rfl) (pqc 3 rfl) ?_) (yb (pqc 3 rfl) yq)) ?_) ?_
  .exact uk hk
  .exact⟨n+m,k,sK s' k,EK ?CS k k,rfl,rfl,?A,?A,fun j hj=>Gk k j hk hj,hs,pE k hk⟩
  refine gS (i:=2) (SX:=yp Qv) (XN:=["ways", "ends", "rows", "k", "found"]) (N:=["place", "row", "k", "found"]) (nt:=2) (caps:=[3,4]) (pre:=(fun i=>tb i fun r=>shR (n+m) (zW (EK ?CS k) k r)))  ⟨rfl,?D,?D,?D,rfl,?D⟩ Jv.nd rfl (.inl rfl)  (FM z.enumerate rfl (pq 2 rfl)) ?_ ?_ ?_ ?_
  .intro i hi;unfold aD at hi;rw[List.length_mapIdx,Y1] at hi;rw[Y1];unfold sizeLine;lia
  .rfl
  .intro c i d hd;unfold aD at hd;rw[pc] at hd;have hi:i<n:=by
    have:=(?GP).1
    rwa [Y1] at this
   rw[JU hi] at hd;cases hd;refine⟨_,(kL rfl (qR (Yn (i:=0) (show List.Nodup (α:=Str) ["place", "row", "k", "found"] by decide +kernel) rfl (.inl rfl)) (qR (Yn (i:=1) (show List.Nodup (α:=Str) ["place", "row", "k", "found"] by decide +kernel) rfl (.inl rfl)) vb))),(Sub.trans (Sub.set rfl) (Sub.set rfl)),.inl ⟨shR (n+m) ?J7,zB,(fk (d:=shR (n+m) ?J7) (ql (v8 (pq 0 rfl) (pqc 2 rfl))) (fun hc=>(jS (pqc 3 rfl) ?_)) (fun hc=>(jS (Yk (d:=shR (n+m) ?J7) CK ?A3 rfl (yb (pq 1 rfl) (yb (pqc 2 rfl) (yb (pqc 3 rfl) yq))) ?_) ?_))),?_⟩⟩
   .have hc:=of_decide_eq_true hc;have hc:i=k:=by lia
    subst hc;refine KC fun j hj=>?_;unfold zW;rw[yc rfl]
   .have hc:=of_decide_eq_false hc;have hc:¬ i=k:=by lia
    refine⟨n+m,k,sK s' k,EK ?CS k i,_,rfl,?_,?A,?A,fun j hj=>Gk i j hi hj,fun j hj=>?_,hs,yc rfl⟩
    .refine KC fun j hj=>?_;unfold zW;rw[yd hc];by_cases h:j=k
     .rw[yc h,yc h]
     .rw[yd h,yd h,yd h]
    .have x:=(Gk.step hk ?A (pE k hk)) k j hk hj;dsimp only;by_cases h:j=k
     .rw[yc h];exact⟨?B,?F3⟩
     .rw[yd h];exact⟨xx (Gk k j hk hj).1 (v9 (pE k hk)),(rM (Gk k j hk hj).2 (lm wX (Gk k k hk ?A).2) (v9 (pE k hk))).mono ?A⟩
   .rfl
   .exact J2
  refine ?AR;unfold aD;rw[List.length_mapIdx,Y1];exact⟨_,_,rfl⟩
 .rintro Γ Ω ⟨a,b,rfl⟩;rw[jF];refine YK (PF3.p (jX (SX:=yp Qv) (XN:=["ways", "ends", "rows", "k", "found"]) (N:=["row", "ends"]) (nt:=1) (caps:=[1]) (pre:=(fun i=>tb i fun r=>shR m (fun j=>EK ?CS n r (n+j)))) ⟨rfl,?D,?D,?D,rfl,?D⟩ (Qy (pq 2 rfl)) ?_ ?_ ?_)) ?_
  .intro i hi;rw[Y1] at hi ⊢;unfold sizeLine;lia
  .rfl
  .intro c i d hd;have hi:i<n:=by
    have:=(?GP).1
    rwa [Y1] at this
   rw[JU hi] at hd;cases hd;refine⟨_,(Yn (i:=0) (show List.Nodup (α:=Str) ["row", "ends"] by decide +kernel) rfl (.inl rfl)),(Sub.set rfl),.inl ⟨shR m (fun j=>EK ?CS n i (n+j)),zB,(jS (PF3.p (Kc (pq 0 rfl) (vH (zS z.len rfl (pqc 1 rfl))) Kg)) ?_),?_⟩⟩
   .rw[Y1,uD ?jH,DU];rfl
   .exact J2
  .rw[Y1];rfl
end
section
variable (P w K mg base) in
abbrev cm:Prop:=OkF P w K mg base CX0 34 "sum_of_products" ["pairs"] (spP K 1 HN)
theorem ur (ht:?jC)(yZ:?X)(d:Yo K mg "sum_of_products" Qd ["pairs"])(Q3:?HE)(KQ:?HB):?Hr:=by
 refine YJ d qi rfl fun f cdv A outer s H E hr ds r hC B hB=>?_;obtain⟨ps,s',rfl,rfl,hp,hb,hs⟩:=hC;have py:Pyl (cx0 P w K mg base ["pairs", "top", "bottom", "one", "other", "below", "divisor"] "sum_of_products" Qd f cdv A outer s H E):=(xp ht rfl rfl hr ?B).nox;refine YM (i:=1) qi.nd rfl ?A2 yx ?_;refine YM (i:=2) qi.nd rfl ?A2 yx ?_;refine jo PassesOwn.never rfl (Qy ?A8) (fun i Γ _=>∃ (t b:Int) (x3 x4 x5 x6:Option D),SopOk s' ?EC i t b/\Γ=[some (.lst (ps.map kP)),some (.int t),some (.int b),x3,x4,x5,x6]) ⟨0,1,_,_,_,_,IP,rfl⟩ ?_ ?_
 .rintro i d Γ Ω hd ⟨t,b,x3,x4,x5,x6,so,rfl⟩;obtain⟨p,hp',rfl⟩:=VQ hd;have hi:i<ps.length:=(yk.mp hp').1;have hq:=hp p (yr hp');have hB:i*(2*s'+1)+1<=big:=by
   refine yz ?_ hb;unfold Hm;have:i*(2*s'+1)<=ps.length*(4*s'+2):=qa (Qk hi) ?A;lia
  have hB':big=67108864:=rfl;have he:0<(p.1.den:Int)*(p.2.den:Int):=JE ?HS ?HS;have g0:0<My.G b ((p.1.den:Int)*(p.2.den:Int)):=My.G_pos he;have eb:((p.1.den:Int)*(p.2.den:Int)).natAbs<2 ^ (s'+s'):=qB (jW hq.1.2) (jW hq.2.2);have c1:=W2 (a:=b) (g:=?GE) (yQ so.b0) g0;have c2:=W2 (a:=?yO) (g:=?GE) (yQ he) g0;have b1:=kJ c1 so.bb;have b2:=kJ c2 eb;have bn:(p.1.num*p.2.num).natAbs<2 ^ (s'+s'):=qB hq.1.2.1 hq.2.2.1;refine⟨_,(kL rfl (qR (Yn (i:=3) qi.nd rfl ?A2) (qR (Yn (i:=4) qi.nd rfl ?A2) vb))),?_⟩;refine QT (PW3.t (iT (ql (fE hr.units ?AZ (qo yZ rfl) zD zA)) fun _=>(cJ (ql (fE hr.units ?AX (qo yZ rfl) zD zA))))) ?_ ?_
  .intro hk;refine YM (i:=5) qi.nd rfl ?A2 ?Ll ?_
   .exact zw (jW hq.1.2) (jW hq.2.2) ?A
   refine YM (i:=6) qi.nd rfl ?A2 (Yk (d:=.int ?GE) Q3 ?A3 rfl (yb ?AT (yb ?Bv yq)) ?_) ?_
   .exact⟨_,_,rfl,rfl,yQ so.b0,yQ he⟩
   refine YM (i:=1) qi.nd rfl ?A2 (J0 (JS ?AO (Jn py ?Bv ?BE ?_) ?_) (JS ?Ll (Jn py ?AT ?BE ?_) ?_)) ?_
   .exact g0
   .exact zw so.tb b2 ?A
   .exact zw hq.1.2.1 hq.2.2.1 ?A
   .exact g0
   .exact zw bn b1 ?A
   refine YM (i:=2) qi.nd rfl ?A2 (JS (Jn py ?AT ?BE ?_) ?Bv ?_) ?_
   .exact g0
   .exact zw b1 eb ?A
   refine y8 (y8 ⟨_,_,_,_,_,_,?_,rfl⟩);rw[Yl hp'];exact so.more hq.1 hq.2
  .intro hk;refine y8 (y8 ⟨t,b,_,_,_,_,?_,rfl⟩);rw[Yl hp'];refine so.skip ?_;rw[JB,JB] at hk;by_cases z:p.1=0
   .exact ?Ap
   .refine .inr ?_;simpa [z] using hk
 .rintro Γ Ω ⟨t,b,x3,x4,x5,x6,so,rfl⟩;rw[yf,yM] at so;refine YK (Yk (d:=sh (Zl ps)) KQ ?A3 rfl (yb ?AO ?Dh) ?_) ?_
  .exact⟨t,b,rfl,by rw[so.e],so.t0,so.b0⟩
  rfl
variable (P w K mg base) in
abbrev rT:Prop:=OkF P w K mg base CX0 2 "is_step" ["rule", "heads"] (spP K 2 Ep)
theorem iB (z:?AK)(d:Yo K mg "is_step" Vb ["rule", "heads"])  : rT P w K mg base:=by
 refine YJ d h8 rfl fun f cdv A outer s H E hr ds r hC B hB=>?_;obtain⟨r,L,rfl,rfl⟩:=hC;by_cases h1:r.2.1.length=1
 .obtain⟨x,hx⟩:∃ x,r.2.1=[x]:=QA.mp h1;have hx':(r.2.1.map D.str)=[D.str x]:=by rw[hx];rfl
  refine YK (uY (vZ (v8 (jb z.len rfl (y7 (pq 0 rfl) yx rfl)) yx)) fun _=>(wO (vZ (DG hr.units (y7 (d:=.str x) (y7 (pq 0 rfl) yx rfl) yx ?_) (pq 1 rfl) (.inl rfl) ?_)))) ?_
  .show atI (r.2.1.map D.str) 0=_;rw[hx'];rfl
  .exact Zm
  show D.bl _=D.bl _;rw[J6];unfold Qz;rw[hx];simp
 .have e:decide (((r.2.1.map D.str).length:Int)=1)=false:=yu (by rw[yf];lia);refine YK (jS (d:=.bl (Qz L r)) (uY (k':=?AE) (vZ (v8 (jb z.len rfl (y7 (pq 0 rfl) yx rfl)) yx)) fun hk=>by rw[e] at hk;cases hk) ?_) rfl;show D.bl (_&&false)=D.bl (Qz L r);rw[Bool.and_false];unfold Qz;split
  .rename_i x hx;rw[hx] at h1;exact absurd rfl h1
  .rfl
variable (P w K mg base C_Grammar) in
abbrev A9:Prop:=OkF P w K mg base CX0 3 "live_rules" ["grammar"] (spP K 1 (Dr C_Grammar))
theorem Xq (yS:?Ba)(d:Yo K mg "live_rules" JP ["grammar"])(QM:?G2)(vn:?IH)(ZM:?Jz)(zI:?K4):?MO:=by
 refine YJ d vN rfl fun f cdv A outer s H E hr ds r hC B hB=>?_;obtain⟨st,rs,rfl,rfl,h1,h2⟩:=hC;refine YM (i:=1) vN.nd rfl ?D7 (PF3.p (Zw (ds:=?DC) QM yS.c ?A3 ?A8 JM ?_)) ?_
 .exact ?E5
 refine YM (i:=2) vN.nd rfl ?D7 (PF3.p (Zw (ds:=yO ?F9) vn yS.c ?A3 ?A8 kr ?_)) ?_
 .exact ?E5
 refine YK (PF3.p (jX (SX:=yp JP) (XN:=["grammar", "heads", "live"]) (N:=["rule", "heads", "live"]) (nt:=1) (caps:=[1,2]) (pre:=(fun i=>yL ((?E2).filter fun r=>?jX))) ?Dn (Qy (PF3.p (Zw (ds:=?AP) ZM yS.c ?A3 ?A8 vX ?_))) ?_ ?_ ?_)) ?_
 .exact ?E5
 .intro i hi;rw[YW,sizeLine_eq];have:=YO (fun r:yw=>?jX) ?E2;rw[Yh] at this;lia
 .rfl
 .intro c i d hd;obtain⟨r,hr',rfl⟩:=jx hd;cases q:Qs (yt rs) (zj (yt rs) rs) r.2.1 with
  |true=>
   refine⟨_,(Yn (i:=0) (show List.Nodup (α:=Str) ["rule", "heads", "live"] by decide +kernel) rfl ?A2),?D4,.inl ⟨zo r,(ud (jn (Yk (d:=?Cl) zI ?A3 rfl ?Kj ?_))),?A8,?_⟩⟩
   .exact⟨r.2.1,_,_,rfl,by rw[q],h2 r (yr hr')⟩
   .show yL ((rs.take (i+1)).filter fun r=>?jX)=_;rw[Yl hr',qU,YE (p:=fun r:yw=>?jX) q];unfold yL;rw[yH];rfl
  |false=>
   refine⟨_,(Yn (i:=0) (show List.Nodup (α:=Str) ["rule", "heads", "live"] by decide +kernel) rfl ?A2),?D4,.inr ⟨(ud (jn (Yk (d:=?EL) zI ?A3 rfl ?Kj ?_))),?_⟩⟩
   .exact⟨r.2.1,_,_,rfl,by rw[q],h2 r (yr hr')⟩
   .show yL ((rs.take (i+1)).filter fun r=>?jX)=_;rw[Yl hr',qU,YF (p:=fun r:yw=>?jX) (fun z=>by rw[q] at z;cases z)];simp
 rw[YW,yM];rfl
variable (P w K mg base) in
abbrev cY:Prop:=OkF P w K mg base CX0 2 "stretches" ["row"] (spP K 1 F8)
theorem bP (z:?AK)(d:Yo K mg "stretches" JC ["row"])  : ?Hw:=by
 refine YJ d VL rfl fun f cdv A outer s H E hr ds r hC B hB=>?_;obtain⟨row,rfl,rfl,h1⟩:=hC;refine wR (i:=1) VL.nd rfl (.inl rfl) (VT yq) fun l=>?_;refine jo PassesOwn.never rfl (kZ (n:=?Cj) (lo:=1) z.range rfl yx (J0 (jb z.len rfl (pq 0 rfl)) yx) ?_ ?_ ?_) (fun i Γ Ω=>∃ x,Γ=[some ?Ah,some (.raw (.ref l)),x]/\Ω=[(l,QO K ((ao row.length i).map wQ))]) ?_ ?_ ?_
 .rfl
 .rw[yf];lia
 .rw[yf];lia
 .exact⟨_,rfl,rfl⟩
 .rintro i d Γ Ω hd ⟨x,rfl,rfl⟩;obtain⟨hi,rfl⟩:=zu hd;refine⟨_,(Yn (i:=2) VL.nd rfl (.inr rfl)),?_⟩;refine AY (i:=1) rfl (.inl rfl) rfl (jX (SX:=yp JC) (XN:=["row", "found", "length"]) (N:=["i", "length"]) (nt:=1) (caps:=[2]) (pre:=(fun k=>((?Cs).map fun j=>(j,j+i+1)).map wQ)) ⟨rfl,?D,?D,?D,rfl,?D⟩ (Vw (n:=row.length - i) z.range rfl (J0 (dL (jb z.len rfl (pq 0 rfl)) (pqc 2 rfl)) yx) ?_ ?_) ?_ ?_ ?_) ?_ ?_
  .rw[yf];lia
  .lia
  .intro k hk;rw[yf,yf,List.length_range,sizeLine_eq];rw[jF] at hk;lia
  .rfl
  .intro c k d hd;obtain⟨hk,rfl⟩:=zu hd;refine⟨_,(Yn (i:=0) (show List.Nodup (α:=Str) ["i", "length"] by decide +kernel) rfl (.inl rfl)),(Sub.set rfl),.inl ⟨wQ (k,k+i+1),zB,(jS (qM (yb (pq 0 rfl) (yb (J0 (pq 0 rfl) (pqc 1 rfl)) yq))) ?_),?_⟩⟩
   .have e:((0+k:Nat):Int)+((1+i:Nat):Int)=((k+i+1:Nat):Int):=by lia
    show D.tup [.int ((0+k:Nat):Int),.int (((0+k:Nat):Int)+((1+i:Nat):Int))]=D.tup [.int (k:Int),.int ((k+i+1:Nat):Int)];rw[e,qK]
   .show((List.range (k+1)).map fun j=>(j,j+i+1)).map wQ=_;rw[YC,yH,yH];rfl
  .rw[jF,yf,yf,yf,List.length_range,sizeLine_eq];have:=p7 (n:=?Cj) (i:=i);have:row.length*i<=10*10:=qa h1 ?A;lia
  .refine y8 ⟨_,rfl,?_⟩;rw[xM,yH,jF];rfl
 .rintro Γ Ω ⟨x,rfl,rfl⟩;rw[jF];refine Zv (i:=1) rfl ?_;refine YK (pq 1 rfl) ?_;rfl
variable (P w K mg base) in
abbrev AS:Prop:=OkF P w K mg base CX0 38 "chains_of" ["heads", "steps"] (spP K 2 tE)
theorem c8 (z:?AK)(yZ:?X)(zQ:?wL)(d:Yo K mg "chains_of" JD ["heads", "steps"])(XQ:BZ P w K mg base):AS P w K mg base:=by
 refine YJ d QU rfl fun f cdv A outer s H E hr ds r hC B hB=>?_;obtain⟨L,ss,s',rfl,rfl,nd,hL,hss,hb1,hkn,hsz,hs1,hsk,hpv⟩:=hC;refine QB (i:=2) QU.nd rfl (.inr rfl) (de fun l=>?_);refine jo PassesOwn.never rfl (Qy (pq 1 rfl)) (fun i Γ Ω=>∃ x3,Γ=[some (.lst (yO L)),some (.lst (yL ss)),some (.raw (.ref l)),x3,none,none,none,none,none]/\Ω=[(l,oDt K (((ss.take i).map fun r=>?U).map kW) (((ss.take i).map ?yD).map sh))]) ⟨_,rfl,rfl⟩ ?_ ?_
 .rintro i d Γ Ω hd ⟨x3,rfl,rfl⟩;obtain⟨r,hr',rfl⟩:=jx hd;obtain⟨y,hy⟩:=hb1 r (yr hr');have hn:=uj (f:=fun r:yw=>?U) hkn hr';have ey:b0 r=y:=by unfold b0;rw[hy];rfl
  have hi:i<ss.length:=(yk.mp hr').1;refine⟨_,(Yn (i:=3) QU.nd rfl (.inl rfl)),?_⟩;refine c9 (k:=kW ?U) hr.units (YI (pqc 2 rfl) ⟨rfl,rfl⟩) (yb (y7 (pq 3 rfl) yx rfl) (yb (y7 (d:=.str (b0 r)) (y7 (pq 3 rfl) yx rfl) yx ?_) yq)) (y7 (pq 3 rfl) yx rfl) ?Ad ?_ ?_
  .show atI (r.2.1.map D.str) 0=_;rw[ey,hy];rfl
  .rw[yf,yf,Yh,sizeLine_eq];lia
  .refine y8 ⟨_,rfl,?_⟩;have e1:pK (((ss.take i).map fun r=>?U).map kW) (kW ?U)=((ss.take (i+1)).map fun r=>?U).map kW:=by
    rw[xy ln,Yl hr',yH];unfold pK;rw[yd hn];rfl
   have e2:pA (((ss.take i).map fun r=>?U).map kW) (((ss.take i).map ?yD).map sh) (kW ?U) (sh r.2.2)=((ss.take (i+1)).map ?yD).map sh:=by
    rw[W6 ln,Yl hr',yH];unfold pA;rw[yd hn];rfl
   rw[e1,e2];rfl
 .rintro Γ Ω ⟨x3,rfl,rfl⟩;rw[YW,yM];refine tS (i:=2) rfl ?_;refine wR (i:=4) QU.nd rfl (.inl rfl) (VT yq) fun l4=>?_;refine wR (i:=5) QU.nd rfl (.inl rfl) (VT yq) fun l5=>?_;refine jo PassesOwn.never rfl (Qy (pq 0 rfl)) (fun i Γ Ω=>∃ x6,Γ=[some (.lst (yO L)),some (.lst (yL ss)),some (.dt ((ss.map fun r=>?U).map kW) ((ss.map ?yD).map sh)),x3,some (.raw (.ref l4)),some (.raw (.ref l5)),x6,none,none]/\Ω=[(l5,QO K (tb i fun r=>shR L.length (idM L r))),(l4,QO K (tb i fun r=>shR L.length (wM2 L ss r)))]) ⟨_,rfl,rfl⟩ ?_ ?_
  .rintro i d Γ Ω hd ⟨x6,rfl,rfl⟩;obtain⟨h,hh,rfl⟩:=jH hd;have hi:i<L.length:=(yk.mp hh).1;have eh:L.getD i "" = h:=by rw[yv,hh];rfl
   refine⟨_,(Yn (i:=6) QU.nd rfl (.inr rfl)),?_⟩;refine aZ ?zV ?_;refine Va (i:=4) rfl (.inl rfl) rfl (PF3.p (jX (SX:=yp JD) (XN:=["heads", "steps", "straight", "rule", "ways", "ends", "head", "chains", "found"]) (N:=["other", "straight", "head"]) (nt:=1) (caps:=[2,6]) (pre:=(fun k=>tb k fun j=>sh (wM2 L ss i j))) ⟨rfl,?D,?D,?D,rfl,?D⟩ (Qy (pq 0 rfl)) ?_ ?_ ?_)) ?_ ?_
   .intro k hk;rw[YL] at hk;rw[Y1,sizeLine_eq];lia
   .rfl
   .intro c k d hd;obtain⟨o,ho,rfl⟩:=jH hd;refine⟨_,(Yn (i:=0) (show List.Nodup (α:=Str) ["other", "straight", "head"] by decide +kernel) rfl (.inl rfl)),(Sub.set rfl),.inl ⟨sh (wM2 L ss i k),zB,(jS (aX (k:=kW (h,o)) hr.units (pqc 1 rfl) (yb (pqc 2 rfl) (yb (pq 0 rfl) yq)) (qo yZ rfl)) ?_),?_⟩⟩
    .unfold wM2;rw[eh,show L.getD k "" = o by rw[yv,ho];rfl,k8 ln];unfold vw;cases vA (ss.map fun r=>?U) (ss.map ?yD) (h,o) <;> rfl
    .exact J2
   .rw[Y1,sizeLine_eq];lia
   rw[YL];refine aZ ?zV ?_;refine Va (i:=5) rfl (.inl rfl) rfl (PF3.p (jX (SX:=yp JD) (XN:=["heads", "steps", "straight", "rule", "ways", "ends", "head", "chains", "found"]) (N:=["other", "head"]) (nt:=1) (caps:=[6]) (pre:=(fun k=>tb k fun j=>sh (idM L i j))) ⟨rfl,?D,?D,?D,rfl,?D⟩ (Qy (pq 0 rfl)) ?_ ?_ ?_)) ?_ ?_
   .intro k hk;rw[YL] at hk;rw[Y1,sizeLine_eq];lia
   .rfl
   .intro c k d hd;obtain⟨o,ho,rfl⟩:=jH hd;refine⟨_,(Yn (i:=0) (show List.Nodup (α:=Str) ["other", "head"] by decide +kernel) rfl (.inl rfl)),(Sub.set rfl),.inl ⟨sh (idM L i k),zB,(fk (d:=sh (idM L i k)) (ql (X4 (pqc 1 rfl) (pq 0 rfl))) (fun hc=>(jS (qo zQ rfl) ?_)) (fun hc=>(jS (qo yZ rfl) ?_))),?_⟩⟩
    .have hc:=of_decide_eq_true hc;unfold idM;rw[eh,show L.getD k "" = o by rw[yv,ho];rfl,yc hc]
    .have hc:=of_decide_eq_false hc;unfold idM;rw[eh,show L.getD k "" = o by rw[yv,ho];rfl,yd hc]
    .exact J2
   .rw[Y1,sizeLine_eq];lia
   rw[YL];refine y8 ⟨_,rfl,?_⟩;rw[J2,J2];rfl
  .rintro Γ Ω ⟨x6,rfl,rfl⟩;rw[YL];refine Zv (i:=5) rfl ?_;refine Zv (i:=4) rfl ?_;refine QB (i:=7) QU.nd rfl (.inl rfl) (Ai fun lc=>?_);have gI:kR L.length L.length s' (idM L):=fun i j _ _=>by
    unfold idM;split
    .exact⟨?B,wX.mono hs1⟩
    .exact⟨?B,Uq.mono hs1⟩
   have gW:kR L.length L.length s' (wM2 L ss):=fun i j _ _=>mZ hsz hs1;refine jo PassesOwn.never rfl (tY z.zip rfl (pq 0 rfl) (Yk (d:=shM L.length L.length (chF L ss)) XQ ?A3 rfl (yb (pq 4 rfl) (yb (pq 5 rfl) yq)) ?_)) (fun i Γ Ω=>∃ x6 x8,Γ=[some (.lst (yO L)),some (.lst (yL ss)),some (.dt ((ss.map fun r=>?U).map kW) ((ss.map ?yD).map sh)),x3,some (shM L.length L.length ?EA),some (shM L.length L.length (idM L)),x6,some (.raw (.ref lc)),x8]/\Ω=[(lc,oDk K ((L.take i).map jz) (tb i fun r=>.dk ?Ca (tb L.length fun j=>?J8)))]) ⟨_,_,rfl,rfl⟩ ?_ ?_
   .exact⟨L.length,L.length,s',?EA,idM L,rfl,rfl,⟨?A,?A,gW,gI,hsk⟩,hpv⟩
   .rintro i d Γ Ω hd ⟨x6,x8,rfl,rfl⟩;obtain⟨h,hi,hh,rfl⟩:=AR hd;refine⟨_,(kL rfl (qR (Yn (i:=6) QU.nd rfl (.inr rfl)) (qR (Yn (i:=8) QU.nd rfl (.inl rfl)) vb))),?_⟩;refine Ct (k:=jz h) hr.units (pq 7 rfl) (pqc 6 rfl) (YI (rF rfl z.dict rfl z.zip rfl (jS (pq 0 rfl) (congrArg D.lst X2)) (pq 8 rfl) (xT nd) ?_ ?_) ⟨_,_,[],?Ad,?_,?_⟩)
    .rw[yf,Y1]
    .rw[yf,sizeLine_eq];lia
    .rw[yf,Yh,sizeLine_eq];lia
    .refine y8 ⟨_,_,rfl,?_⟩;have hn:jz h∉(L.take i).map jz:=fun z=>by
      have:=uj (f:=fun x:Str=>x) (by simpa using nd) hh;exact this (by simpa using (Kk Vl).mp z)
     have e1:pK ((L.take i).map jz) (jz h)=(L.take (i+1)).map jz:=by
      unfold pK;rw[yd hn,Yl hh,yH];rfl
     have e2:∀ v:D,pA ((L.take i).map jz) (tb i fun r=>D.dk ?Ca (tb L.length fun j=>?J8)) (jz h) v=(tb i fun r=>D.dk ?Ca (tb L.length fun j=>?J8))++[v]:=fun v=>by
      unfold pA;rw[yd hn]
     rw[e1,e2,J2];rfl
   .rintro Γ Ω ⟨x6,x8,rfl,rfl⟩;rw[sf,yM];refine AZ (i:=7) rfl ?_;refine YK (pq 7 rfl) ?_;rfl
end
section
variable (P w K mg base C_Sums) in
abbrev gZ:Prop:=OkM P w K mg base CX0 2 C_Sums "within" ["self", "head", "i", "j"] (spP K 4 (BX C_Sums))
theorem Xe (Yp:?Ce)(yZ:?X)(d:Y5 K C_Sums "within" "Sums.within" j9 ["self", "head", "i", "j"])  : ?IP:=by
 refine KM d WP rfl fun f cdv A outer s H E hr ds r hC B hB=>?_;obtain⟨g,row,hs,br,ch,kw,kn,h,i,j,rfl,rfl⟩:=hC;refine YK (aX (k:=kS ?Y) hr.units (Zn ?A8 Yp.c Yp.n_known_sums rfl) ?FP (qo yZ rfl)) ?_;show(vA (kn.1.map kS) (kn.2.map sh) (kS ?Y)).getD (sh 0)=sh (vK kn h i j);rw[k8 vJ];unfold vK;cases vA kn.1 kn.2 ?Y <;> rfl
variable (P w K mg base C_Grammar C_Sums) in
abbrev Bx:Prop:=OkM P w K mg base CX0 3 C_Sums "whole" ["self"] (spP K 1 (sI C_Sums C_Grammar))
theorem Xv (z:?AK)(Yp:?Ce)(yS:?Ba)(d:Y5 K C_Sums "whole" "Sums.whole" JK ["self"])(vW:?IP)(ZL:?IG):?MN:=by
 refine KM d Xx rfl fun f cdv A outer s H E hr ds r hC B hB=>?_;obtain⟨st,rs,row,hs,br,ch,kw,kn,rfl,rfl⟩:=hC;refine YK (Vz (d:=sh (vK kn st 0 row.length)) vW Yp.c ?A3 ?A8 kX (yb (ng (d:=.str st) ZL yS.c ?A3 (Zn ?A8 Yp.c Yp.n_grammar rfl) Vu ?_) (yb yx (yb (jb z.len rfl (Zn ?A8 Yp.c Yp.n_row rfl)) yq))) ?_) ?_
 .exact ?E5
 .exact⟨?CY,?Ah,hs,br,ch,kw,kn,st,0,?Cj,by rw[yf];rfl,rfl⟩
 rfl
variable (P w K mg base C_Sums) in
abbrev iX:Prop:=OkM P w K mg base CX0 3 C_Sums "worth" ["self", "symbol", "i", "j"] (spP K 4 (Eh C_Sums))
theorem XD (Yp:?Ce)(yZ:?X)(zQ:?wL)(d:Y5 K C_Sums "worth" "Sums.worth" JO ["self", "symbol", "i", "j"])(vW:?IP):?JS:=by
 refine KM d Xz rfl fun f cdv A outer s H E hr ds r hC B hB=>?_;obtain⟨g,br,ch,kw,row,hs,kn,x,i,j,rfl,rfl,hi⟩:=hC;refine QT (ql (DG hr.units (pq 1 rfl) (Zn (pq 0 rfl) Yp.c Yp.n_known_heads rfl) (.inl rfl) ?_)) ?_ ?_
 .exact Zm
 .intro hk;rw[J6] at hk;have hk:=of_decide_eq_true hk;refine YK (Vz (d:=sh (vK kn x i j)) vW Yp.c ?A3 (pq 0 rfl) kX (yb (pq 1 rfl) (yb (pq 2 rfl) (yb (pq 3 rfl) yq))) ?_) ?_
  .exact⟨_,_,_,_,_,_,kn,x,i,j,rfl,rfl⟩
  unfold woS;rw[yc hk]
 .intro hk;rw[J6] at hk;have hk:=of_decide_eq_false hk;refine ?AR;obtain⟨y,hr0⟩:∃ y,row[i]?=some y:=⟨_,yj hi⟩
  refine YK (fk (d:=sh ?Et) (PW3.t (iT (ql (v8 (pq 3 rfl) (J0 (pq 2 rfl) yx))) fun _=>(cJ (ql (X4 (y7 (d:=.str y) (Zn (pq 0 rfl) Yp.c Yp.n_row rfl) (pq 2 rfl) ?_) (pq 1 rfl)))))) (fun hc=>(jS (qo zQ rfl) ?_)) (fun hc=>(jS (qo yZ rfl) ?_))) ?_
  .exact Jo (by rw[yC,hr0];rfl)
  .rw[Yg] at hc;have h1:=of_decide_eq_true hc.1;have h2:=of_decide_eq_true hc.2;unfold woS;rw[yd hk,yc ⟨?A,by rw[hr0,h2]⟩]
  .unfold woS;rw[yd hk,yd ?_];rintro⟨h1,h2⟩;rw[hr0] at h2;rw[yK (show(j:Int)=(i:Int)+1 by lia),yK (Option.some.inj h2)] at hc;cases hc
  rfl
end
section
variable (P w K mg base) in
abbrev B8:Prop:=OkF P w K mg base CX0 41 "_law_none_better" ["_law_rules_here", "_law_found", "_law_row_here"] (spP K 3 Df)
theorem uc (z:?AK)(d:Yo K mg "_law_none_better" jq ["_law_rules_here", "_law_found", "_law_row_here"])(lJ:OkF P w K mg base CX0 40 "_law_most" ["_law_box", "_law_body", "_law_i", "_law_j"] (spP K 4 (Cu 4)))(ZD:?H2):B8 P w K mg base:=by
 refine YJ (k:=40) d Y9 rfl fun f cdv A outer s H E hr ds r hC B hB=>?_;obtain⟨rs,row,rfl,rfl,g,hz⟩:=hC;have wl:=g.wl;have rl:=g.rl;refine QB (i:=3) Y9.nd rfl (.inl rfl) (V3.frozenK (D1 fun q=>⟨jz "found", K4,YI (pq 1 rfl) ⟨jz "row", K4,YI (pq 2 rfl) ⟨_,?Ad,show[jz "found", jz "row"].Nodup by decide +kernel,fun ba=>⟨ba,_,_,_,rfl,rfl,?_⟩⟩⟩⟩));show W3 _ _ _ [some (.lst ?AP),some ?E8,some ?Ah,some ?F6,none,none,none,none,none,none,none,none] _ _;refine jo PassesOwn.never rfl (Vw (n:=?Cj) z.range rfl (jb z.len rfl (pq 2 rfl)) ?_ ?_) (fun i Γ Ω=>∃ x4 x5 x6 x7 x8 x9 x10 x11,Γ=[some (.lst ?AP),some ?E8,some ?Ah,some ?F6,x4,x5,x6,x7,x8,x9,x10,x11]/\Ω=[]) ⟨_,_,_,_,_,_,_,_,rfl,rfl⟩ ?_ ?_
 .rw[yf]
 .lia
 .rintro i d Γ Ω hd ⟨x4,x5,x6,x7,x8,x9,x10,x11,rfl,rfl⟩;obtain⟨hi,rfl⟩:=zu hd;rw[qK];refine⟨_,(Yn (i:=4) Y9.nd rfl (.inl rfl)),?_⟩;refine jo PassesOwn.never rfl (kZ (n:=row.length - i) (lo:=i+1) z.range rfl (J0 (pq 4 rfl) yx) (J0 (jb z.len rfl (pq 2 rfl)) yx) ?_ ?_ ?_) (fun t Γ Ω=>∃ x5 x6 x7 x8 x9 x10 x11,Γ=[some (.lst ?AP),some ?E8,some ?Ah,some ?F6,some (.int (i:Int)),x5,x6,x7,x8,x9,x10,x11]/\Ω=[]) ⟨_,_,_,_,_,_,_,rfl,rfl⟩ ?_ ?_
  .push_cast;rfl
  .rw[yf];push_cast;lia
  .rw[yf];lia
  .rintro t d Γ Ω hd ⟨x5,x6,x7,x8,x9,x10,x11,rfl,rfl⟩;obtain⟨ht,rfl⟩:=zu hd;refine⟨_,(Yn (i:=5) Y9.nd rfl (.inl rfl)),?_⟩;have hj:i+1+t<=row.length:=by lia
   refine jo PassesOwn.never rfl (Qy (pq 0 rfl)) (fun u Γ Ω=>∃ x6 x7 x8 x9 x10 x11,Γ=[some (.lst ?AP),some ?E8,some ?Ah,some ?F6,some (.int (i:Int)),some (.int ((i+1+t:Nat):Int)),x6,x7,x8,x9,x10,x11]/\Ω=[]) ⟨_,_,_,_,_,_,rfl,rfl⟩ ?_ ?_
   .rintro u d Γ Ω hd ⟨x6,x7,x8,x9,x10,x11,rfl,rfl⟩;obtain⟨r,hr',rfl⟩:=jx hd;have rm:=yr hr';have hf:=g.hh r rm;have ru:=g.ru r rm;have zr:=hz r rm;have ba:=Aw hf (i:=i) (j:=?E) ?A hj;have bz:=AW g (i:=i) (j:=?E) ?A hj r.1;have nb:∀ q∈mL (wB rs row) r.2.1 i (i+1+t),r.2.2*q<=BT rs row r.1 i ?E:=fun q hq=>eD g rm ?A hj hq;have me:=mW g (b:=r.2.1) (i:=i) (j:=?E) ?A hj;have m0:mlD rs row r.2.1 i (i+1+t)=.lst ((mL (wB rs row) r.2.1 i (i+1+t)).map sh):=rfl;have b4:=ru.b4;generalize BT rs row r.1 i ?E=v at *;generalize mL ?E0 r.2.1 i ?E=L at *;refine⟨_,(kL rfl (qR (Yn (i:=6) Y9.nd rfl (.inl rfl)) (qR (Yn (i:=7) Y9.nd rfl (.inl rfl)) (qR (Yn (i:=8) Y9.nd rfl (.inl rfl)) vb)))),?_⟩;refine YM (i:=9) (d:=sh v) Y9.nd rfl (.inl rfl) (BE (k:=kS (r.1,i,?E)) hr.units (pq 1 rfl) (yb (pq 6 rfl) (yb (pq 4 rfl) (yb (pq 5 rfl) yq))) ba) ?_;refine jo PassesOwn.never rfl (Qy (Yk (d:=.lst (L.map sh)) lJ ?Aq rfl (yb (pq 3 rfl) (yb (pq 7 rfl) (yb (pq 4 rfl) (yb (pq 5 rfl) yq)))) ⟨rs,row,r.2.1,i,?E,rfl,m0.symm,b4,?A,hj,g,?A⟩)) (fun y Γ Ω=>∃ x10 x11,Γ=[some (.lst ?AP),some ?E8,some ?Ah,some ?F6,some (.int (i:Int)),some (.int ((i+1+t:Nat):Int)),some (.str r.1),some (y9 r.2.1),some (sh r.2.2),some (sh v),x10,x11]/\Ω=[]) ⟨_,_,rfl,rfl⟩ ?_ ?_
    .rintro y d Γ Ω hd ⟨x10,x11,rfl,rfl⟩;obtain⟨a,ha,rfl⟩:=VQ hd;have am:=yr ha;have az:=me a am;have al:=nb a am;have sz:=ZF zr.2 az.2.2;have bg:big=67108864:=rfl;have l1:5+(200000*r.2.1.length+1)<=big:=by lia
     have l2:200000<=big:=by lia
     refine⟨_,(Yn (i:=10) Y9.nd rfl (.inl rfl)),?_⟩;refine YM (i:=11) (d:=sh (r.2.2*a)) Y9.nd rfl (.inl rfl) (Yk ZD ?Aq rfl (yb (pq 8 rfl) (yb (pq 10 rfl) yq)) ⟨_,_,5,200000*r.2.1.length+1,rfl,rfl,zr.1,az.1,zr.2,az.2.2,?B,?A,?Bi⟩) ?_;generalize r.2.2*a=o at *;refine QT (ql (dX (JS (y7 (d:=.int v.num) (pq 9 rfl) yx rfl) (y7 (d:=.int (o.den:Int)) (pq 11 rfl) yx rfl) (kK bz.2 sz l2 l1)) (JS (y7 (d:=.int o.num) (pq 11 rfl) yx rfl) (y7 (d:=.int (v.den:Int)) (pq 9 rfl) yx rfl) (kK sz bz.2 l1 l2)))) (fun hk=>?_) (fun _=>?_)
     .have hk:decide (v.num*o.den<o.num*v.den)=true:=hk;rw[decide_eq_decide.mpr (My.q_lt v o)] at hk;exact absurd (of_decide_eq_true hk) (Rat.not_lt.mpr al)
     .exact y8 (y8 ⟨_,_,rfl,rfl⟩)
    .rintro Γ Ω ⟨x10,x11,rfl,rfl⟩;exact y8 ⟨_,_,_,_,_,_,rfl,rfl⟩
   .rintro Γ Ω ⟨x6,x7,x8,x9,x10,x11,rfl,rfl⟩;exact y8 ⟨_,_,_,_,_,_,_,rfl,rfl⟩
  .rintro Γ Ω ⟨x5,x6,x7,x8,x9,x10,x11,rfl,rfl⟩;exact y8 ⟨_,_,_,_,_,_,_,_,rfl,rfl⟩
 .rintro Γ Ω ⟨x4,x5,x6,x7,x8,x9,x10,x11,rfl,rfl⟩;exact YK uo rfl
end
section
variable (P w K mg base C_Grammar) in
abbrev BY:Prop:=OkF P w K mg base CX0 51 "best_tree" ["grammar", "row"] (spP K 2 (lT C_Grammar))
variable (P w K mg base C_Grammar) in
abbrev A2:Prop:=OkF P w K mg base CX0 51 "bounds" ["grammar", "row"] (spP K 2 (Gf C_Grammar))
variable (P w K mg base C_Grammar C_Sums) in
abbrev AE:Prop:=OkI P w K mg base CX0 49 "Sums" C_Sums ["self", "grammar", "row"] (io K 3 C_Sums (tJ C_Grammar) (lW C_Grammar))
theorem Gn (z:?AK)(yS:?Ba)(Yp:?Ce)(F:Fun K "law" "law" eM f fd)(Jg:?KC)(gC:At P w K mg base)(rK:?MU)(Hr:?MP)(dG:?MN)(CJ:?MW)(gA:?MS)(XS:OkF P w K mg base CX0 18 "_law_is_tree" ["_law_rules_here", "_law_symbol", "_law_thing"] (spP K 3 (eL 15)))(gG:OkF P w K mg base CX0 16 "_law_words" ["_law_tree_here"] (spP K 1 (oh 15)))(Xm:OkF P w K mg base CX0 51 "_law_share_of" ["_law_rules_here", "_law_tree_here"] (spP K 2 (E5 15)))(Us:B8 P w K mg base):FnOk P w K mg base CX0 53 f fd ["_law_script"] (UH K):=by
 refine D9 (k:=52) F zY fun cdv A outer s H E hr ns hlen B hB=>?_;refine Gv (nc gC ?A3 rfl (yb ?A8 yq) ⟨ns,rfl⟩ fun d hd=>?_);obtain⟨hs,ws,rs0,row,rfl,g0,hl3,r1,r5⟩:=hd;refine⟨_,(kL rfl (qR (Yn (i:=1) zY.nd rfl ?A2) (qR (Yn (i:=2) zY.nd rfl ?A2) (qR (Yn (i:=3) zY.nd rfl ?A2) (qR (Yn (i:=4) zY.nd rfl ?A2) vb))))),?_⟩;obtain⟨h0,hh0⟩:∃ h0,hs[0]?=some h0:=⟨_,yj (Qc.mpr g0.h0)⟩
 have a0:atI (yO hs) 0=some (.str h0):=by
  refine Jo (j:=0) ?_;unfold yO;rw[yC,hh0];rfl
 refine YM (i:=5) (d:=.str h0) zY.nd rfl ?A2 (Zo ?AO yx a0) ?_;have rp:0<rs0.length:=Qc.mpr g0.r0;have rl0:=g0.rl;have lr:(yL rs0).length=rs0.length:=YW;have m:=ZU (a:=ns.getD 4 0) (b:=(((yL rs0).length:Nat):Int)) (by rw[lr];lia);obtain⟨a,ha⟩:=YR m.1;have ha:ns.getD 4 0 % (((yL rs0).length:Nat):Int)=(a:Int):=ha;rw[ha,lr] at m;have hal:a<rs0.length:=by lia
 refine YM (i:=6) (d:=.int (a:Int)) zY.nd rfl ?A2 (jS (wG (Yk (d:=.int (ns.getD 4 0)) Jg ?A3 rfl ?Fy ⟨ns,4,rfl,rfl⟩) (zS z.len rfl ?AZ) (by rw[lr];lia)) (by rw[ha])) ?_;have c1:vt (yL rs0) none (some (a:Int))=yL (rs0.take a):=by rw[WN (by rw[lr];lia)];unfold yL;rw[List.map_take]
 have c2:vt (yL rs0) (some (a:Int)) none=yL (rs0.drop a):=by rw[uD (by rw[lr];lia)];unfold yL;rw[List.map_drop]
 have c3:yL (rs0.drop a)++yL (rs0.take a)=yL (rs0.drop a++rs0.take a):=by unfold yL;rw[yH]
 refine YM (i:=3) (d:=.lst (yL (rs0.drop a++rs0.take a))) zY.nd rfl ?A2 (jS (aK (PF3.p (Kc ?AZ (vH ?BE) Kg)) (PF3.p (Kc ?AZ Kg (vH ?BE))) ?_) ?_) ?_
 .rw[c1,c2,YW,YW,Yh,Qx,sizeLine_eq];lia
 .rw[c1,c2,c3]
 have g:=Er g0 a;have th:=oH (rs:=rs0) (n:=a);have hf:h0∈yt (rs0.drop a++rs0.take a):=um.mpr (by rw[g0.fst];exact yr hh0);rw[g0.fst] at th;generalize rs0.drop a++rs0.take a=rs at *;have h3:(yt rs).length<=3:=by lia
 obtain⟨M,b,so⟩:=DS g h3 (row:=row) r5;have gb:=IA g h3 (row:=row) r5;have pz:∀ r∈rs,0<=r.2.2/\Sz 5 r.2.2:=fun r hr'=>⟨Yx (g.pos r hr').1,(g.pos r hr').2⟩
 refine YM (i:=7) (d:=gD C_Grammar h0 rs) zY.nd rfl ?A2 (Hc (r:=(gF,gDs h0 rs)) rK ?A3 rfl (yb ?Bv (yb (PF3.p (Vy z.list rfl ?AZ ?A2)) yq)) ⟨h0,rs,rfl,rfl,g.gv hf⟩) ?_;refine QB (i:=8) zY.nd rfl ?A2 (Cv dG Yp.c ?A3 (a8 Hr ?A3 rfl ?I5 ⟨h0,rs,row,M,b,5,rfl,so⟩ fun r hC=>?_));obtain⟨c,rfl⟩:=hC h0 rs row rfl;refine⟨_,_,sh (TW rs row h0 0 row.length),rfl,XG,⟨h0,rs,row,_,_,_,_,knG rs row,rfl,rfl⟩,?_⟩;have tz:=og so (x:=h0) (i:=0) (j:=?Cj) ?AC;have et:wT (yt rs) row (TW rs row) h0 0 row.length=TW rs row h0 0 row.length:=by unfold wT;rw[yc hf]
 rw[et] at tz;have bz:=AW gb (i:=0) (j:=?Cj) ?A ?AC h0;have z0:=nI so gb (fun r hr'=>(g.pos r hr').1) (fun h hh=>g.one h hh) row.length h0 0 row.length ?A ?AC ?A;have bt:=Du gb (h:=h0) (i:=0) (j:=?Cj) ?A;have tl:∀ t,zZ rs (Vo t) h0=true->wds t=seg row 0 row.length->shT rs t<=TW rs row h0 0 row.length:=fun t q1 q2=>by
  rw[←et];exact(EX so (fun r hr'=>⟨(pz r hr').1,(g.body r hr').1⟩) ?AC q1 q2).2
 have ba:=Aw hf (i:=0) (j:=?Cj) ?A ?AC;have cb:0<BT rs row h0 0 row.length->lT C_Grammar [gD C_Grammar h0 rs,y9 row] (qu (kbF rs row) h0 0 row.length).2:=fun q=>⟨h0,rs,row,rfl,rfl,gb,q⟩
 generalize TW rs row h0 0 row.length=W at *;generalize (qu ?BZ h0 0 row.length).2=D0 at *;generalize BT rs row h0 0 row.length=V at *;show W3 _ _ _ [some (.scr ns),some ?BC,some ?D2,some ?CH,some ?Ah,some (.str h0),some (.int (a:Int)),some (gD C_Grammar h0 rs),some (sh W),none,none,none] _ _;refine QT (ql (XH hr.units ?Di (jS (d:=sh 0) (qM ?DH) rfl) zD zA)) (fun _=>YK uo rfl) (fun hk=>?AR);rw[JB] at hk;have hW:W≠0:=of_decide_eq_false hk;have hV:0<V:=by
  rcases Rat.le_iff_lt_or_eq.mp bz.1 with q|q
  .exact q
  .exact absurd (z0 q.symm) hW
 obtain⟨t,rfl,t1,t2,t3,t4,t5,t6⟩:=bt hV;have sr:seg row 0 row.length=row:=by unfold seg;simp
 have tl:=tl t t1 t2;rw[sr] at t2;have l1:(wds t).length<=5:=by rw[t2];exact r5
 refine YM (i:=9) (d:=?E8) zY.nd rfl ?A2 (Yk CJ ?A3 rfl ?I5 ⟨h0,rs,row,rfl,rfl,gb,U3⟩) ?_;refine YM (i:=10) (d:=trD t) zY.nd rfl ?A2 (Yk gA ?A3 rfl ?I5 (cb hV)) ?_;refine QT (PW3.t (ko (k:=!true) (vD (jn (Yk (d:=?Cl) XS ?A3 rfl (yb ?AZ (yb ?MY ?K8)) ⟨rs,h0,Vo t,by rw[Ch],by rw[t1],by rw[AU];lia,by have:=gb.rl;lia⟩))) fun _=>wj (ql (fE hr.units (Yk (d:=?Ah) gG ?A3 rfl ?K8 ⟨t,rfl,by rw[t2],by lia,by lia⟩) ?AX Kf (yz k7 ?B))))) (fun hk=>?_) (fun _=>?AR)
 .rw[Vr] at hk;simp at hk
 refine YM (i:=11) (d:=sh V) zY.nd rfl ?A2 (Yk Xm ?A3 rfl (yb ?AZ ?K8) ⟨rs,t,rfl,by rw[t3],by lia,t4,pz,by lia,by lia⟩) ?_;rw[t3] at tl;have bg:big=67108864:=rfl;have q1:200000<=big:=by lia
 have q2:1650001<=big:=by lia
 refine QT (PW3.t (ko (ql (fE hr.units (pq 11 rfl) (BE (k:=kS (h0,0,?Cj)) (d:=sh V) hr.units (pq 9 rfl) (yb ?MY (yb (jS (d:=.int ((0:Nat):Int)) yx rfl) (yb (jS (d:=.int (row.length:Int)) (jb z.len rfl ?AX) (by rw[yf])) yq))) ba) zD zA)) fun _=>wj (ql (dX (JS (y7 (d:=.int W.num) ?Di yx rfl) (y7 (d:=.int (V.den:Int)) (pq 11 rfl) yx rfl) (kK tz.2 bz.2 q2 q1)) (JS (y7 (d:=.int V.num) (pq 11 rfl) yx rfl) (y7 (d:=.int (W.den:Int)) ?Di yx rfl) (kK bz.2 tz.2 q1 q2)))))) (fun hk=>?_) (fun _=>?AR)
 .have hk:(!qy (sh V) (sh V)||decide (W.num*V.den<V.num*W.den))=true:=hk;rw[JB,yK rfl] at hk;have hk:W.num*V.den<V.num*W.den:=by simpa using hk
  exact absurd ((My.q_lt W V).mp hk) (Rat.not_lt.mpr tl)
 .exact YK (Yk (d:=?Cl) Us ?A3 rfl (yb ?AZ (yb (pq 9 rfl) (yb ?AX yq))) ⟨rs,row,rfl,rfl,gb,pz⟩) rfl
end
section
theorem Vq (z:?AK)(Yp:?Ce)(yZ:?X)(d:?xS)(ZX:?JS)(jt:?Hr)(ih:OkM P w K mg base CX0 (3*n+34) C_Sums "worth_of_body" ["self", "body", "i", "j"] (spS K 4 ?F1 (C2 n))):OkM P w K mg base CX0 (3*n+34+1) C_Sums "sum_of_partings" ["self", "body", "i", "j"] (spS K 4 ?F1 (ID (n+1))):=by
 refine Ja d QG rfl IC fun f cdv A outer s H E hr t ds t' r hC B=>?_;obtain⟨x,y,rest,i,j,M,b,rfl,rfl,rfl,hn,hn4,hij,hjr,g,hkl⟩:=hC;have hB:big=67108864:=rfl;have hM:=g.d;have rl:=g.rl;have ac:=nu (hs:=t.hs) (row:=t.row) (kn:=t.kn) (kw:=t.kw) ?A g.kn (x:=x) (y:=y) (rest:=rest) (i:=i) (j:=j) (ez hM g.kn ?K (by simp)) ?A g.kw;have np:nP (rest.length+2) i j<=4:=by unfold nP;lia
 have hp11:11 ^ (rest.length+1)<=11 ^ 3:=YD ?B ?A;refine wR (i:=4) QG.nd rfl (.inl rfl) (VT yq) fun l=>?_;refine jo PassesOwn.never rfl (kZ (n:=?Bx) (lo:=i+1) z.range rfl (J0 (pq 2 rfl) yx) (J0 (dL (pq 3 rfl) (jb z.len rfl (pq 1 rfl))) yx) ?_ ?_ ?_) (fun k Γ Ω=>∃ x5 x6,Γ=[some (.raw (.ref t.a)),some (y9 ?Z),some (.int (i:Int)),some (.int (j:Int)),some (.raw (.ref l)),x5,x6]/\Ω=(l,QO K ((?CN).1.map kP))::omG P w K C_Sums {t with kw:=(?CN).2}) ?_ ?_ ?_
 .push_cast;lia
 .rw[yf];unfold nP;simp only[yi];lia
 .rw[yf];simp only[yi];lia
 .exact⟨_,_,rfl,rfl⟩
 .rintro k d Γ Ω hd ⟨x5,x6,rfl,rfl⟩;obtain⟨hk,rfl⟩:=zu hd;have a:=ac k ?A;have hm:i+1+k+1<=j:=by unfold nP at hk;lia
  have es:ZQ t x y rest i j (k+1)=QQ (fun m=>?MG) (fun m=>?Lh) i (ZQ t x y rest i j k) k:=by
   unfold ZQ;rw[YC,yY];rfl
  change AcOk M (9*?I - 10) k (t.kw.length+k*11 ^ (rest.length+1)) ?CN at a;have hkm:k*11 ^ (rest.length+1)<=4*11 ^ 3:=qa ?A hp11;have kl:=a.kl;refine⟨_,(Yn (i:=5) QG.nd rfl (.inl rfl)),?_⟩;refine QB (i:=6) QG.nd rfl (.inl rfl) (Wi (L:=?AE) (d:=sh (woS t.hs t.row t.kn i (i+1+k) x)) (Γ':=[some (sO C_Sums t.g (y9 t.row) (.lst ?FN) (.lst (yL t.br)) (chD t.L t.ch) (knD t.kn) (.raw (.ref t.c))),some (y9 ?Z),some (.int (i:Int)),some (.int (j:Int)),some (.raw (.ref l)),some (.int ((i+1+k:Nat):Int)),x6]) (Vz ZX Yp.c ?Aq (pq 0 rfl) K5 (yb (y7 (d:=.str x) (pq 1 rfl) yx (Jo (j:=0) rfl)) (yb (pq 2 rfl) (yb (pq 5 rfl) yq))) ?_) (Vi (i:=0) (j:=5) (a:=t.a) (b:=t.b) (Ka Q0) rfl ?Cm rfl ?EE) (jE fg bX) rfl ?_)
  .exact⟨t.g,.lst (yL t.br),chD t.L t.ch,.raw (.ref t.c),t.row,t.hs,t.kn,x,i,i+1+k,rfl,rfl,?A⟩
  refine QT (ql (fE hr.units (pq 6 rfl) (qo yZ rfl) zD zA)) ?_ ?_
  .intro hz;rw[JB] at hz;have hz:¬ woS t.hs t.row t.kn i (i+1+k) x=0:=by simpa using hz
   refine pZ (i:=4) (l:=l) rfl (.inl rfl) rfl yo (fun F o ⟨xs,e,_⟩=>⟨xs,e⟩) (oJ (jY (YI (pq 6 rfl) (jY (Zg (t:={t with kw:=(?CN).2}) (t':={t with kw:=(wBm t.hs t.row t.kn ?K (i+1+k) j (?CN).2).2}) (d:=sh (wBm t.hs t.row t.kn ?K (i+1+k) j (?CN).2).1) (Ω4:=[(l,QO K ((?CN).1.map kP))]) ih Yp.c ?Aq (pq 0 rfl) ?Cm zN (yb (jS (d:=y9 ?K) (uT (pq 1 rfl) (vH yx) Kg ?_) ?_) (yb (pq 5 rfl) (yb (pq 3 rfl) yq))) rfl (qI (l₁:=[(l,QO K ((?CN).1.map kP))])) ?_ (VE yq ⟨?_,_,omG P w K C_Sums {t with kw:=(wBm t.hs t.row t.kn ?K (i+1+k) j (?CN).2).2},qI,?_,?_⟩))))))
   .rintro⟨h1,_⟩;simp[HT.sIx] at h1
   .exact congrArg D.tup HM
   .exact⟨?K,i+1+k,j,M,b,rfl,rfl,rfl,by simp,by simp only[yi];lia,?A,?A,hjr,⟨g.d,g.db,g.bl,g.rl,g.kn,a.kw⟩,by show(?CN).2.length+n*20000<=16000000;lia⟩
   .show 2<=sizeLine;decide
   .rw[yf,sizeLine_eq];have:=a.len;lia
   .refine y8 (y8 ⟨_,_,rfl,?_⟩);rw[es];unfold QQ;rw[yd hz,yH];rfl
  .intro hz;rw[JB] at hz;have hz:woS t.hs t.row t.kn i (i+1+k) x=0:=by simpa using hz
   refine y8 (y8 ⟨_,_,rfl,?_⟩);rw[es];unfold QQ;rw[yc hz]
 .rintro Γ Ω ⟨x5,x6,rfl,rfl⟩;rw[jF];have a:=ac _ ?AC;change AcOk M (9*?I - 10) _ _ ?FX at a;refine ZG (U4 (L:=?AE) (d:=sh (Zl (?FX).1)) (Γ':=[some (.raw (.ref t.a)),some (y9 ?Z),some (.int (i:Int)),some (.int (j:Int)),some (.lst ((?FX).1.map kP)),x5,x6]) (Yk jt ?Aq rfl (yb (pq 4 rfl) yq) ?_) (ZB (i:=4) Q0 rfl yo UD) (jE fg bX) rfl ⟨rfl,fun p hp=>ye _ hp⟩);refine⟨_,?FO,rfl,rfl,fun p hp=>⟨g.sz (a.prs p hp).2.1 ?A,g.sz (a.prs p hp).2.2 ?A⟩,oF (by have:=a.len;lia),mT⟩
theorem VC (z:?AK)(Yp:?Ce)(yZ:?X)(d:Y5 K C_Sums "worth_of_body" "Sums.worth_of_body" qX ["self", "body", "i", "j"])(d':?xS)(ZX:?JS)(jt:?Hr):∀ n,OkM P w K mg base CX0 (3*n+34) C_Sums "worth_of_body" ["self", "body", "i", "j"] (spS K 4 ?F1 (C2 n)):=by
 intro n
 induction n with
 |zero=>
  refine Ja (k:=33) d zO rfl E8 fun f cdv A outer s H E hr t ds t' r hC B=>?_;obtain⟨body,i,j,M,b,rfl,rfl,rfl,h1,h2,_⟩:=hC;lia
 |succ n ih=>
  have op:=Vq z Yp yZ d' ZX jt ih;refine Ja (k:=3*n+36) d zO rfl E8 fun f cdv A outer s H E hr t ds t' r hC B=>?_;obtain⟨body,i,j,M,b,rfl,rfl,rfl,h1,h2,hn4,hij,hjr,g,hkl⟩:=hC;obtain⟨a,b',c,gd,row,hs,br,L,ch,kn,kw⟩:=t;dsimp only at hjr hkl ⊢
  match body,h1,h2 with
  |[x],_,_=>
   refine ?H0
   .intro _;rw[wBm];refine ZG (Wi (L:=?AE) (d:=sh ?Et) (Γ':=[some (sO C_Sums gd ?Ah ?BC (.lst (yL br)) (chD L ch) (knD kn) ?BO),some (y9 [x]),some ?yU,some ?qR]) (Vz ZX Yp.c ?Aq ?A8 K5 ?Ma ⟨gd,.lst (yL br),chD L ch,?BO,row,hs,kn,x,i,j,rfl,rfl,?A⟩) (Vi (i:=0) (j:=5) (a:=a) (b:=b') (Ka Q0) rfl yo rfl ?Cm) bX rfl ⟨rfl,fun p hp=>hp⟩)
   .intro hk;have hk:decide ((1:Int)=1)=false:=hk;exact absurd hk ?B
  |x::y::rest,_,h2=>
   have e0:decide (((List.map D.str (x::y::rest)).length:Int)=1)=false:=yu (by rw[yf];simp only[yi];lia);refine ?H0
   .intro hk;rw[e0] at hk;cases hk
   .intro _;refine ?AR;have tup:∀ {X:L2.Cx} {Γ:Ga} {es:List Expr} {x1:Nat} {tp:Pos},P3 X Γ ?Hu (.tup [y9 ?Z,.int (i:Int),.int (j:Int)])->P3 X Γ ?Hu (kD (kB ?zJ)):=fun h=>by rw[E4];exact h
    cases q:kO kw ?zJ with
    |none=>
     refine wL (KF hr.units (YI ?GQ ⟨_,rfl,J9 (d:=?BO) (a:=a) ?A8 yo Yp.c Yp.n_known_worths rfl ⟨c,kwV kw,rfl,?EE,fun _=>?_,fun hk=>?_⟩⟩))
     .have ac:=nu (hs:=hs) (row:=row) (kn:=kn) (kw:=kw) (by have:=g.d;lia) g.kn (x:=x) (y:=y) (rest:=rest) (i:=i) (j:=j) (ez g.d g.kn ?K (by simp)) (by have:row.length<=5:=g.rl;lia) g.kw _ ?AC;have hp11:11 ^ (rest.length+1)<=11 ^ 3:=YD ?B (by simp only[yi] at h2;lia);have np:nP (rest.length+2) i j<=4:=by have:row.length<=5:=g.rl;unfold nP;lia
      have hkm:nP (rest.length+2) i j*11 ^ (rest.length+1)<=4*11 ^ 3:=qa np hp11;have kl:=ac.kl;rw[wBm,q];dsimp only;refine lD hr.units (Zg (t:=?MM) (t':=⟨a,b',c,gd,row,hs,br,L,ch,kn,(?FQ).2⟩) (d:=sh (Zl (?FQ).1)) (Ω4:=[]) op Yp.c ?Aq ?A8 yo Vt ?FP rfl ?Ad ⟨x,y,rest,i,j,M,b,rfl,rfl,rfl,h2,hn4,hij,hjr,g,hkl⟩
       (J9 (d:=?BO) (a:=a) ?A8 yo Yp.c Yp.n_known_worths rfl ⟨c,rfl,YI ?GQ ⟨_,_,_,rfl,si,?_,?_⟩⟩))
      .show(kwV (?FQ).2).length<sizeLine;unfold kwV;rw[yf,sizeLine_eq];unfold ZQ;dsimp only;lia
      .show W3 _ B _ _ ((c,ky P w K c (xr (kwV (?FQ).2) (kB ?zJ) (sh (Zl (?FQ).1))))::_) _;rw[CZ];refine ?AR;refine ZG (oC hr.units (J9 (d:=?BO) (a:=a) ?A8 ?Cm Yp.c Yp.n_known_worths rfl ⟨c,rfl,YI ?GQ ⟨_,_,_,rfl,yo,by rw[Uv,Bj];rfl,rfl,fun p hp=>?_⟩⟩));simp only[omG,yB,Yv,or_false] at hp ⊢;rcases hp with z|z|z
       .exact .inr ?Ap
       .exact .inr ?BR
       .exact ?Ap
     .rw[Uv,q] at hk;cases hk
    |some v=>
     refine wL (KF hr.units (YI ?GQ ⟨_,rfl,J9 (d:=?BO) (a:=a) ?A8 yo Yp.c Yp.n_known_worths rfl ⟨c,kwV kw,rfl,?EE,fun hk=>?_,fun _=>?_⟩⟩))
     .rw[Uv,q] at hk;cases hk
     .refine ?AR;rw[wBm,q];exact ZG (oC hr.units (J9 (d:=?BO) (a:=a) ?A8 yo Yp.c Yp.n_known_worths rfl ⟨c,rfl,YI ?GQ ⟨_,_,_,rfl,?EE,by rw[Uv,q];rfl,rfl,fun p hp=>hp⟩⟩))
end
section
variable (P w K mg base C_Sums) in
abbrev A4:Prop:=OkM P w K mg base CX0 47 C_Sums "ends_at" ["self", "i", "j"] (spS K 3 ?F1 Iv)
theorem wm (Yp:?Ce)(yZ:?X)(d:Y5 K C_Sums "ends_at" "Sums.ends_at" jJ ["self", "i", "j"])(LQ:OkM P w K mg base CX0 46 C_Sums "worth_of_body" ["self", "body", "i", "j"] (spS K 4 ?F1 (C2 4)))(Ut:?H8)(zH:?Dx):?MJ:=by
 refine Ja d J5 rfl HK fun f cdv A outer s H E hr t ds t' r hC B=>?_;obtain⟨i,j,M,b,m,rfl,rfl,rfl,hij,hjr,g,ks,hm⟩:=hC;obtain⟨a,b',c,gd,row,hs,br,L,ch,kn,kw⟩:=t;dsimp only at hjr g ks ⊢;have hB:big=67108864:=rfl;have hM:=g.d;have rl:=g.rl;have bl:=g.br.len;have kl3:kw.length<=m*600000:=ks.2.2;have k1:KnG M (m*30) kn:=ks.1;have k2:KwD M kw:=ks.2.1;have eo:=uB (row:=row) (kw:=kw) g.d k1.d g.br hij ?A k2;have gs:=ks.gs g (a:=a) (b':=b') (c:=c) (gd:=gd);refine QB (i:=3) J5.nd rfl (.inl rfl) (Ai fun l=>?_);refine xP PassesOwn.never rfl (sv (J9 (d:=.lst (yL br)) (a:=a) (pq 0 rfl) ?Cm Yp.c Yp.n_branches rfl ⟨_,rfl,fun k Γ Ω=>∃ x4 x5,Γ=[some (.raw (.ref a)),some (.int (i:Int)),some (.int (j:Int)),some (.raw (.ref l)),x4,x5]/\Ω=(l,oDk K (((br.take k).foldl ?DL ?zZ).1.1.map jz) (((br.take k).foldl ?DL ?zZ).1.2.map sh))::omG P w K C_Sums ⟨a,b',c,gd,row,hs,br,L,ch,kn,((br.take k).foldl (QP hs row kn i j) ?zZ).2⟩,⟨_,_,rfl,rfl⟩,?_,?_⟩))
 .rintro k d Γ Ω hd ⟨x4,x5,rfl,rfl⟩;obtain⟨r,hr',rfl⟩:=jx hd;have hk':k<br.length:=(yk.mp hr').1;have hrm:=yr hr';obtain⟨b1,b2,b3⟩:=g.br.body r hrm;have eo:=eo k ?A;have en:(br.take (k+1)).foldl (QP hs row kn i j) ?zZ=QP hs row kn i j ((br.take k).foldl (QP hs row kn i j) ?zZ) r:=by rw[Yl hr',yY];rfl
  generalize (br.take k).foldl ?DL ?zZ=e at *;have kl:=eo.kl;have w9:=II (hs:=hs) (row:=row) hM ks.1.d hij ?A eo.kw b1 b3;refine⟨_,(Yn (i:=4) J5.nd rfl (.inl rfl)),?_⟩;refine QB (i:=5) J5.nd rfl (.inl rfl) (Zg (t:=⟨a,b',c,gd,row,hs,br,L,ch,kn,e.2⟩) (t':=⟨a,b',c,gd,row,hs,br,L,ch,kn,(?wB).2⟩) (d:=sh (?wB).1) (Ω4:=[(l,oDk K (e.1.1.map jz) (e.1.2.map sh))]) LQ Yp.c ?A3 (pq 0 rfl) ?Cm zN (yb (y7 (pq 4 rfl) yx rfl) (yb (pq 1 rfl) (yb (pq 2 rfl) yq))) rfl (qI (l₁:=[(l,oDk K (e.1.1.map jz) (e.1.2.map sh))])) ?_ ?_)
  .exact⟨r.2.1,i,j,M,b,rfl,rfl,rfl,b1,b2,?B,hij,hjr,⟨g.d,g.db,g.bl,g.rl,ks.1.d,eo.kw⟩,by show e.2.length+4*20000<=16000000;lia⟩
  refine aZ qI ?_;refine QT (ql (fE hr.units (pq 5 rfl) (qo yZ rfl) zD zA)) ?_ ?_
  .intro hz;rw[JB] at hz;have hz:¬ (wBm hs row kn r.2.1 i j e.2).1=0:=by simpa using hz
   have gg:=gs.sz (OkN.up ?A (b8 ?A eo.vals (x:=r.1)) ?A) ?A;have hq:=gs.sz (g.br.sz r hrm) ?B;have hw:=gs.sz w9 ?A;have ht:=gs.sz (OkD.mul ?A (g.br.sz r hrm) w9) ?A;refine Ct (k:=jz r.1) hr.units (pq 3 rfl) (y7 (pq 4 rfl) yx rfl) (FC Ut ?A3 rfl (jY (FI (k:=jz r.1) hr.units (pq 3 rfl) yo (y7 (pq 4 rfl) yx rfl) (qo yZ rfl) (jY (YI (Yk (d:=sh (r.2.2*(?wB).1)) zH ?A3 rfl (yb (y7 (pq 4 rfl) yx rfl) (yb (pq 5 rfl) yq)) ?_) (VE yq ⟨sh ((vA e.1.1 e.1.2 r.1).getD 0+r.2.2*(?wB).1),?_,rfl,_,_,_,?Ad,?_,?_⟩))))))
   .exact⟨r.2.2,(?wB).1,?FO,?FO,rfl,rfl,hq.1,hw.1,hq.2,hw.2,?B,?B,?Bi⟩
   .refine⟨(vA e.1.1 e.1.2 r.1).getD 0,r.2.2*(?wB).1,?FO,?FO,?_,rfl,gg.1,ht.1,gg.2,ht.2,?B,?B,?Bi⟩;rw[k8 Vl];cases vA e.1.1 e.1.2 r.1 <;> rfl
   .rw[yf,sizeLine_eq];have:=eo.len;lia
   .refine y8 (y8 ⟨_,_,rfl,?_⟩);rw[en,xy Vl,W6 Vl];unfold QP;rw[yd hz];rfl
  .intro hz;rw[JB] at hz;have hz:(wBm hs row kn r.2.1 i j e.2).1=0:=by simpa using hz
   refine y8 (y8 ⟨_,_,rfl,?_⟩);rw[en];unfold QP;rw[yc hz];rfl
 .rintro Γ Ω ⟨x4,x5,rfl,rfl⟩;rw[YW,yM];refine AZ (i:=3) rfl ?_;exact YK (pq 3 rfl) ⟨rfl,fun p hp=>hp⟩
variable (P w K mg base C_Sums) in
abbrev tD:Prop:=OkM P w K mg base CX0 48 C_Sums "settle" ["self", "i", "j"] (spS K 3 ?F1 HZ)
theorem wZ (Yp:?Ce)(yZ:?X)(d:Y5 K C_Sums "settle" "Sums.settle" ju ["self", "i", "j"])(LO:?MJ)(jt:?Hr):?MI:=by
 refine Ja d zx rfl IB fun f cdv A outer s H E hr t ds t' r hC B=>?_;obtain⟨i,j,M,b,m,rfl,rfl,rfl,hij,hjr,g,ks,hm⟩:=hC;obtain⟨a,b',c,gd,row,hs,br,L,ch,kn,kw⟩:=t;dsimp only at hjr g ks ⊢;have hB:big=67108864:=rfl;have hM:=g.d;have rl:=g.rl;have bl:=g.br.len;have ll:=g.ll;have k1:KnG M (m*30) kn:=ks.1;have k2:KwD M kw:=ks.2.1;have eo:=uB (row:=row) (kw:=kw) g.d k1.d g.br hij ?A k2 br.length ?AC;rw[yM] at eo;have gs:=ks.gs g (a:=a) (b':=b') (c:=c) (gd:=gd);refine QB (i:=3) zx.nd rfl (.inr rfl) (Zg (t:=⟨a,b',c,gd,row,hs,br,L,ch,kn,kw⟩) (t':=⟨a,b',c,gd,row,hs,br,L,ch,kn,(?Ig).2⟩) (d:=enD (?Ig).1) (Ω4:=[]) LO Yp.c ?A3 (pqc 0 rfl) yo wS (yb (pq 1 rfl) (yb (pq 2 rfl) yq)) rfl ?Ad ⟨i,j,M,b,m,rfl,rfl,rfl,hij,hjr,g,ks,hm⟩ ?_);unfold vy;dsimp only;change EnG M (9*?I - 8) br.length _ L ?Ig at eo;generalize Zt hs row kn br i j kw=e at *;refine xP PassesOwn.never rfl (Ez (J9 (d:=chD L ch) (a:=a) (pqc 0 rfl) yo Yp.c Yp.n_chains rfl ⟨_,_,rfl,fun k Γ Ω=>∃ x4 x5,Γ=[some (.raw (.ref a)),some (.int (i:Int)),some (.int (j:Int)),some (enD e.1),x4,x5]/\Ω=omG P w K C_Sums ⟨a,b',c,gd,row,hs,br,L,ch,(L.take k).foldl (QD L ch e.1 i j) kn,e.2⟩,⟨_,_,rfl,rfl⟩,?_,?_⟩))
 .rintro k d Γ Ω hd ⟨x4,x5,rfl,rfl⟩;rw[←X2] at hd;obtain⟨h,hh,rfl⟩:=jH hd;have hk:k<L.length:=(yk.mp hh).1;have hL:=yr hh;have ps:=Bh hM g.ch eo bl hL;have en:(L.take (k+1)).foldl (QD L ch e.1 i j) kn=QD L ch e.1 i j ((L.take k).foldl (QD L ch e.1 i j) kn) h:=by rw[Yl hh,yY];rfl
  have kl:=By (L:=L) (ch:=ch) (e:=e.1) (i:=i) (j:=j) (hs:=L.take k) (kn:=kn);have kl2:=k1.len;rw[Yh] at kl;generalize (L.take k).foldl (QD L ch e.1 i j) kn=kn' at *;refine⟨_,(Yn (i:=4) zx.nd rfl (.inr rfl)),?_⟩;refine QB (i:=5) zx.nd rfl (.inl rfl) (U4 (L:=?AE) (d:=sh (ug L ch e.1 h)) (Γ':=[some (.obj C_Sums sF [gd,y9 row,.lst ?Az,.lst (yL br),chD L ch,.raw (.ref b'),.raw (.ref c)]),some (.int (i:Int)),some (.int (j:Int)),some (enD e.1),some (.str h),x5]) (Yk (d:=sh (ug L ch e.1 h)) jt ?A3 rfl (yb (PF3.p (jX (SX:=yp ju) (XN:=["self", "i", "j", "ends", "head", "total"]) (N:=["last", "self", "ends", "head"]) (nt:=1) (caps:=[0,3,4]) (pre:=(fun k=>((e.1.1.take k).map fun o=>(?HU,?xB)).map kP)) ⟨rfl,?D,?D,?D,rfl,?D⟩ (GP (pqc 3 rfl)) ?_ ?_ ?_)) yq) ?_) (ZB (i:=0) Q0 rfl yo Vj) bX rfl ?_)
  .intro k hk;rw[yf] at hk;rw[yf,yf,Yh,sizeLine_eq];have:=eo.len;lia
  .rfl
  .intro c k d hd;rw[qd] at hd;obtain⟨o,ho,rfl⟩:=VQ hd;have hoL:=eo.keys o (yr ho);refine⟨_,(Yn (i:=0) (show List.Nodup (α:=Str) ["last", "self", "ends", "head"] by decide +kernel) rfl (.inl rfl)),(Sub.set rfl),.inl ⟨kP (?HU,?xB),zB,(qM (yb (dZ (k:=jz o) (d:=sh ?HU) hr.units (dZ (k:=jz h) (d:=.dk ?Ca (tb L.length fun j=>sh (ch (L.idxOf h) j))) hr.units (Zn (pqc 1 rfl) Yp.c Yp.n_chains rfl) (pqc 3 rfl) ?_) (pq 0 rfl) ?_) (yb (dZ (k:=jz o) (d:=sh ?xB) hr.units (pqc 2 rfl) (pq 0 rfl) ?_) yq))),?_⟩⟩
   .exact CC g.nd hL
   .exact CC g.nd hoL
   .exact Hl eo.eq (yr ho)
   .dsimp only;rw[Yl ho,yH,yH];rfl
  .rw[yf,yf,yM];refine⟨UG L ch e.1 h,?FO,rfl,rfl,fun p hp=>⟨gs.sz (ps p hp).2.1 ?B,gs.sz (ps p hp).2.2 ?A⟩,?_,mT⟩;rw[WX];exact oF (DW g eo)
  refine QT (ql (fE hr.units (pq 5 rfl) (qo yZ rfl) zD zA)) ?_ ?_
  .intro hz;rw[JB] at hz;have hz:¬ ug L ch e.1 h=0:=by simpa using hz
   refine c9 (l:=b') (k:=kS ?Y) (kt:=knK kn') (ds:=knV kn') hr.units (J9 (d:=.raw (.ref b')) (a:=a) (pqc 0 rfl) yo Yp.c Yp.n_known_sums rfl ⟨rfl,rfl⟩) (yb (pqc 4 rfl) (yb (pq 1 rfl) (yb (pq 2 rfl) yq))) (pq 5 rfl) ?zV ?_ ?_
   .unfold knK;rw[yf,sizeLine_eq];lia
   .refine aZ ?zV (y8 (y8 ⟨_,_,rfl,?_⟩));rw[en];unfold QD;rw[yd hz];unfold omG fM;dsimp only;rw[show knK (pK kn'.1 ?Y,pA kn'.1 kn'.2 ?Y (ug L ch e.1 h))=pK (knK kn') (kS ?Y) from (xy vJ).symm,show knV (pK kn'.1 ?Y,pA kn'.1 kn'.2 ?Y (ug L ch e.1 h))=pA (knK kn') (knV kn') (kS ?Y) (sh (ug L ch e.1 h)) from (W6 vJ).symm];rfl
  .intro hz;rw[JB] at hz;have hz:ug L ch e.1 h=0:=by simpa using hz
   refine y8 (y8 ⟨_,_,rfl,?_⟩);rw[en];unfold QD;rw[yc hz]
 .rintro Γ Ω ⟨x4,x5,rfl,rfl⟩;rw[yf,yf,yM];exact y8 ⟨rfl,fun p hp=>hp⟩
end
section
theorem Aj (z:?AK)(Yp:?Ce)(yS:?Ba)(d:vz K mg "Sums" C_Sums "Sums.__init__" Qm ["self", "grammar", "row"])(vn:?IH)(dv:?MO)(QM:?G2)(KO:rT P w K mg base)(gE:AS P w K mg base)(ZC:?Hw)(LN:?MI):?MP:=by
 refine eE d jA rfl fun f cdv A outer s H E hr a ds hC B hB=>?_;obtain⟨st,rs,row,M,b,s',rfl,so⟩:=hC;have hrl:=so.rl;have lrl:(JX (yt rs) (yy rs) rs).length<=rs.length:=YO _ _;have brl:(Z9 rs).length<=30:=by have:(Z9 rs).length<=_:=YO _ _;lia
 have ssl:(zM rs).length<=30:=by have:(zM rs).length<=_:=YO _ _;lia
 have brm:∀ r∈Z9 rs,r∈rs:=fun r hr'=>(YA.mp (YA.mp hr').1).1;have ssm:∀ r∈zM rs,r∈rs:=fun r hr'=>(YA.mp (YA.mp hr').1).1;refine YM (i:=3) jA.nd rfl (.inr rfl) (PF3.p (Zw (ds:=yO ?A7) vn yS.c ?A3 (pq 1 rfl) kr ?_)) ?_
 .exact⟨st,rs,rfl,rfl⟩
 refine YM (i:=4) jA.nd rfl (.inl rfl) (Yk (d:=.lst (yL ?BX)) dv ?A3 rfl (yb (pq 1 rfl) yq) ?_) ?_
 .exact⟨st,rs,rfl,rfl,so.rl,so.body⟩
 refine JV (a:=a) (pq 0 rfl) Yp.c Yp.n_grammar (YI (pq 1 rfl) ⟨[],[],[],?Ad,by simp,by decide,?_⟩);refine JV (a:=a) (pq 0 rfl) Yp.c Yp.n_row (YI (pq 2 rfl) ⟨_,_,[],?Ad,?B,?B,?_⟩);refine JV (a:=a) (pq 0 rfl) Yp.c Yp.n_known_heads (YI (PF3.p (Zw (ds:=?DC) QM yS.c ?A3 (pq 1 rfl) JM ?_)) ⟨_,_,[],?Ad,?B,?B,?_⟩)
 .exact⟨st,rs,rfl,rfl⟩
 refine JV (a:=a) (pq 0 rfl) Yp.c Yp.n_branches (YI (PF3.p (jX (SX:=yp Qm) (XN:=["self", "grammar", "row", "live", "rules", "i", "j"]) (N:=["rule", "live"]) (nt:=1) (caps:=[3]) (pre:=(fun i=>yL (((?BX).take i).filter fun r=>!Qz ?A7 r))) ⟨rfl,?D,?D,?D,rfl,?D⟩ (Qy (pq 4 rfl)) ?_ ?_ ?_)) ⟨_,_,[],?Ad,?B,?B,?_⟩)
 .intro i hi;rw[YW,sizeLine_eq];have:=YO (fun r:yw=>!Qz ?A7 r) ((?BX).take i);rw[Yh] at this;lia
 .rfl
 .intro c i d hd;obtain⟨r,hr',rfl⟩:=jx hd;cases q:Qz (yy rs) r with
  |false=>
   refine⟨_,(Yn (i:=0) ?kF rfl (.inl rfl)),(Sub.set rfl),.inl ⟨zo r,(EE (vD (jn (Yk (d:=.bl false) KO ?A3 rfl (yb (pq 0 rfl) (yb (pqc 1 rfl) yq)) ?_))) ?_),(pq 0 rfl),?_⟩⟩
   .exact⟨r,_,rfl,by rw[q]⟩
   .rfl
   .show yL (((?BX).take (i+1)).filter fun r=>!Qz ?A7 r)=_;rw[Yl hr',qU,YE (p:=fun r:yw=>!Qz ?A7 r) (by rw[q];rfl)];unfold yL;rw[yH];rfl
  |true=>
   refine⟨_,(Yn (i:=0) ?kF rfl (.inl rfl)),(Sub.set rfl),.inr ⟨(EE (vD (jn (Yk (d:=.bl true) KO ?A3 rfl (yb (pq 0 rfl) (yb (pqc 1 rfl) yq)) ?_))) ?_),?_⟩⟩
   .exact⟨r,_,rfl,by rw[q]⟩
   .rfl
   .show yL (((?BX).take (i+1)).filter fun r=>!Qz ?A7 r)=_;rw[Yl hr',qU,YF (p:=fun r:yw=>!Qz ?A7 r) ?qI];simp
 rw[YW,yM];refine JV (a:=a) (pq 0 rfl) Yp.c Yp.n_chains (YI (Yk (d:=chD ?A7 ?Bw) gE ?A3 rfl (yb (pqc 3 rfl) (yb (PF3.p (jX (SX:=yp Qm) (XN:=["self", "grammar", "row", "live", "rules", "i", "j"]) (N:=["rule", "live"]) (nt:=1) (caps:=[3]) (pre:=(fun i=>yL (((?BX).take i).filter ?DB))) ⟨rfl,?D,?D,?D,rfl,?D⟩ (Qy (pq 4 rfl)) ?_ ?_ ?_)) yq)) ?_) ⟨_,_,[],?Ad,?B,?B,?_⟩)
 .intro i hi;rw[YW,sizeLine_eq];have:=YO ?DB ((?BX).take i);rw[Yh] at this;lia
 .rfl
 .intro c i d hd;obtain⟨r,hr',rfl⟩:=jx hd;cases q:Qz (yy rs) r with
  |true=>
   refine⟨_,(Yn (i:=0) ?kF rfl (.inl rfl)),(Sub.set rfl),.inl ⟨zo r,(ud (jn (Yk (d:=.bl true) KO ?A3 rfl (yb (pq 0 rfl) (yb (pqc 1 rfl) yq)) ?_))),(pq 0 rfl),?_⟩⟩
   .exact⟨r,_,rfl,by rw[q]⟩
   .show yL (((?BX).take (i+1)).filter ?DB)=_;rw[Yl hr',qU,YE (p:=?DB) q];unfold yL;rw[yH];rfl
  |false=>
   refine⟨_,(Yn (i:=0) ?kF rfl (.inl rfl)),(Sub.set rfl),.inr ⟨(ud (jn (Yk (d:=.bl false) KO ?A3 rfl (yb (pq 0 rfl) (yb (pqc 1 rfl) yq)) ?_))),?_⟩⟩
   .exact⟨r,_,rfl,by rw[q]⟩
   .show yL (((?BX).take (i+1)).filter ?DB)=_;rw[Yl hr',qU,YF (p:=?DB) ?qI];simp
 .rw[YW,yM];refine⟨?A7,?B5,s',rfl,rfl,so.par.nd,yz so.par.ll ?B,ssl,fun r hr'=>?_,so.keys,fun r hr'=>so.sz r (ssm r hr'),so.s1,so.sk,so.piv⟩;have:=(YA.mp hr').2;unfold Qz at this;split at this
  .rename_i x hx;exact⟨x,hx⟩
  .cases this
 refine JV (a:=a) (pq 0 rfl) Yp.c Yp.n_known_sums (de fun b'=>⟨_,_,[(b',oDt K [] [])],?zV,?B,?B,?_⟩);refine JV (a:=a) (pq 0 rfl) Yp.c Yp.n_known_worths (ic fun c=>⟨_,_,[(b',oDt K [] []),(c,ky P w K c [])],(?zV).trans (List.Perm.cons _ ?zV),?B,?B,?_⟩);have key:=KI so;have l15:=uF so.par.rl;have wl:=so.par.rl;refine jo PassesOwn.never rfl (Qy (Yk (d:=.lst ((?AS).map wQ)) ZC ?A3 rfl (yb (pq 2 rfl) yq) ?_)) (fun k Γ Ω=>∃ x5 x6,Γ=[some (.raw (.ref a)),some ?CY,some ?Ah,some (.lst (yO ?A7)),some (.lst (yL ?BX)),x5,x6]/\Ω=omG P w K C_Sums ⟨a,b',c,?CY,row,?A5,?BG,?A7,?Bw,(?Al).1,(?Al).2⟩) ⟨_,_,rfl,rfl⟩ ?_ ?_
 .exact⟨row,rfl,rfl,?A⟩
 .rintro k d Γ Ω hd ⟨x5,x6,rfl,rfl⟩;obtain⟨p,hp,rfl⟩:=VQ hd;have hk:k<(YT row.length).length:=(?EM).1;have hpi:=ZT (yr hp);refine⟨_,(kL rfl (qR (Yn (i:=5) jA.nd rfl (.inl rfl)) (qR (Yn (i:=6) jA.nd rfl (.inl rfl)) vb))),?_⟩;refine Wn (Zg (t:=⟨a,b',c,?CY,row,?A5,?BG,?A7,?Bw,(?Al).1,(?Al).2⟩) (t':=⟨a,b',c,?CY,row,?A5,?BG,?A7,?Bw,(zR rs row (k+1)).1,(zR rs row (k+1)).2⟩) (d:=.non) (Ω4:=[]) LN Yp.c ?A3 (pq 0 rfl) yo Wy (yb (pq 5 rfl) (yb (pq 6 rfl) yq)) rfl ?Ad ?_ ?_)
  .exact⟨p.1,p.2,M,b,k,rfl,by rw[Vk hp],rfl,hpi.1,hpi.2,so.par,key k (by lia),by lia⟩
  .exact y8 ⟨_,_,rfl,rfl⟩
 .rintro Γ Ω ⟨x5,x6,rfl,rfl⟩;rw[yf];refine Ca (j:=5) rfl (Af (Ω':=[(a,JW K C_Sums sF (sGs C_Grammar st rs row c))]) (fun q hq=>?_) (by simp) (y8 ⟨_,A5 (c:=c),rfl⟩));rw[yE.mp hq];exact yo
end
end Law
namespace L3
open PySem PySem.Spec PySem.Calls PyProof.Rows L2
section
theorem IM (h:V3 X B a Γ Ω fun d Ω1=>∃ k,d=.bl k/\if k=true then R ?Cl Ω1 else V3 X B b Γ Ω1 R):V3 X B (.BoolOp .Or [a,b] pos) Γ Ω R:=fun F σ H S pins s I=>
 sM j6 (AI j6) pins s σ H _ I ((?AV).mono fun v H1 ⟨d,Ω1,F1,S1,f1,i1,k,e1,r⟩=>by
  subst e1;refine⟨k,isB i1,?_⟩;cases k with
  |true=>
   rw[yc rfl] at r ⊢;exact⟨?Cl,Ω1,F1,S1,f1,Uw F1,r⟩
  |false=>
   rw[yd yN] at r ⊢;exact(r F1 σ H1 S1).mono fun v2 H2 ⟨d2,Ω2,F2,S2,f2,i2,r2⟩=>⟨d2,Ω2,F2,S2,?Dv,i2,r2⟩)
end
end L3
namespace Law
open PySem L2 L3
section
variable (P w K mg base C_Bests) in
abbrev xA:Prop:=OkM P w K mg base CX0 2 C_Bests "best" ["self", "head", "i", "j"] (spP K 4 (AL C_Bests))
theorem Xn (Yd:?Cd)(yZ:?X)(d:Y5 K C_Bests "best" "Bests.best" JI ["self", "head", "i", "j"])  : ?Fa:=by
 refine KM d Xw rfl fun f cdv A outer s H E hr ds r hC B hB=>?_;obtain⟨row,rs,hs,kp,kb,h,i,j,rfl,rfl⟩:=hC;refine YK (aX (k:=kS ?Y) hr.units (Zn (pq 0 rfl) Yd.c Yd.n_known_bests rfl) (yb (pq 1 rfl) (yb (pq 2 rfl) (yb (pq 3 rfl) yq))) (qM (yb (qo yZ rfl) (yb Iy yq)))) ?_;show(vA (kb.1.map kS) (kb.2.map bvD) (kS ?Y)).getD (bvD (0,.non))=bvD ?C9;rw[k8 vJ];unfold qu;cases vA kb.1 kb.2 ?Y <;> rfl
variable (P w K mg base C_Bests) in
abbrev iN:Prop:=OkM P w K mg base CX0 3 C_Bests "best_part" ["self", "symbol", "i", "j"] (spP K 4 (DZ C_Bests))
theorem ui (Yd:?Cd)(yZ:?X)(zQ:?wL)(d:Y5 K C_Bests "best_part" "Bests.best_part" QE ["self", "symbol", "i", "j"])(jZ:?Fa):?K9:=by
 refine KM d uf rfl fun f cdv A outer s H E hr ds r hC B hB=>?_;obtain⟨rs,kp,row,hs,kb,x,i,j,rfl,rfl,hij,hj⟩:=hC;refine QT (ql (DG hr.units (pq 1 rfl) (Zn (pq 0 rfl) Yd.c Yd.n_known_heads rfl) (.inl rfl) ?_)) ?_ ?_
 .exact Zm
 .intro hk;rw[J6] at hk;have hk:=of_decide_eq_true hk;refine YK (Vz (d:=bvD (qu kb x i j)) jZ Yd.c ?A3 (pq 0 rfl) Zh (yb (pq 1 rfl) (yb (pq 2 rfl) (yb (pq 3 rfl) yq))) ⟨_,_,_,_,kb,x,i,j,rfl,rfl⟩) ?_;unfold qb;rw[yc hk]
 .intro hk;rw[J6] at hk;have hk:=of_decide_eq_false hk;refine ?AR;have sl:(row.drop i).take (j - i)=[x] ↔ j=i+1/\row[i]?=some x:=by
   obtain⟨y,hy⟩:∃ y,row[i]?=some y:=⟨_,yj ?A⟩
   have hd:row.drop i=y::row.drop (i+1):=by
    obtain⟨h1,h2⟩:=yk.mp hy;rw[←h2];exact jG h1
   constructor
   .intro e;have l:=congrArg List.length e;rw[Yh,Qx] at l;simp only[yi,Yz] at l;have e1:j=i+1:=by lia
    rw[hd,show j - i=1 by lia] at e;have:y=x:=by simpa using e
    exact⟨e1,by rw[hy,this]⟩
   .rintro⟨rfl,e⟩;rw[hy] at e;cases e;rw[hd,show i+1 - i=1 by lia];simp
  refine YK (qM (yb (fk (d:=sh (if j=i+1/\row[i]?=some x then 1 else 0)) (ql (XH hr.units (jS (d:=y9 ((row.drop i).take ?I)) (p9 (Zn (pq 0 rfl) Yd.c Yd.n_row rfl) (vH (pq 2 rfl)) (vH (pq 3 rfl))) ?_) (jS (d:=y9 [x]) (qM (yb (pq 1 rfl) yq)) rfl) Kf (yz k7 ?B))) (fun hc=>jS (qo zQ rfl) ?_) (fun hc=>jS (qo yZ rfl) ?_)) (yb (pq 1 rfl) yq))) ?_
  .unfold y9;rw[l8 (by rw[yf];lia) (by rw[yf];lia),List.map_take,List.map_drop]
  .rw[Vr] at hc;rw[yc (sl.mp (of_decide_eq_true hc))]
  .rw[Vr] at hc;rw[yd fun z=>of_decide_eq_false hc (sl.mpr z)]
  .unfold qb;rw[yd hk];rfl
theorem vo (z:?AK)(Yd:?Cd)(yZ:?X)(d:?uG)(Jp:?K9)(zH:?Dx)(JQ:?FF)(ih:OkM P w K mg base CX0 (3*n+34) C_Bests "best_parting" ["self", "body", "i", "j"] (spS K 4 ?FD (C6 n))):OkM P w K mg base CX0 (3*n+34+1) C_Bests "best_of_partings" ["self", "body", "i", "j"] (spS K 4 ?FD (Hx (n+1))):=by
 refine Ja d Y2 rfl IJ fun f cdv A outer s H E hr t ds t' r hC B=>?_;obtain⟨x,y,rest,i,j,m,rfl,rfl,rfl,hn,hn4,hij,hjr,hm5,rc,g,hkl⟩:=hC;have hB:big=67108864:=rfl;have rl:=g.rl;have b5:=DB hm5;have np:nP (rest.length+2) i j<=4:=by unfold nP;lia
 have acz:∀ k,k<=nP ?qL i j->PZ ?Z m (t.kp.length+k*6 ^ (rest.length+1)) ?Dk:=fun k hk=>by
  unfold Zi;exact bT g.kz rc hij ?A g.kp k hk
 have acs:∀ k,Wd (?Dk).1/\∀ p∈(Zi t x y rest i j k).2,Wd p.2:=fun k=>mB g.sb g.sp k;have hp6:6 ^ (rest.length+1)<=6 ^ 3:=YD ?B ?A;have l4:(x::y::rest).length*BB m<=4*200000:=qa (by simp only[yi];lia) b5;refine YM (i:=4) (d:=pvD (0,[])) Y2.nd rfl (.inl rfl) (jS (qM (yb (qo yZ rfl) (yb (qM yq) yq))) rfl) ?_;refine jo PassesOwn.never rfl (kZ (n:=?Bx) (lo:=i+1) z.range rfl (J0 (pq 2 rfl) yx) (J0 (dL (pq 3 rfl) (jb z.len rfl (pq 1 rfl))) yx) ?_ ?_ ?_) (fun k Γ Ω=>∃ x5 x6 x7 x8,Γ=[some (.raw (.ref t.a)),some (y9 ?Z),some (.int (i:Int)),some (.int (j:Int)),some (pvD (?Dk).1),x5,x6,x7,x8]/\Ω=omB P w K C_Bests {t with kp:=(?Dk).2}) ?_ ?_ ?_
 .push_cast;lia
 .rw[yf];unfold nP;simp only[yi];lia
 .rw[yf];simp only[yi];lia
 .exact⟨_,_,_,_,rfl,rfl⟩
 .rintro k d Γ Ω hd ⟨x5,x6,x7,x8,rfl,rfl⟩;obtain⟨hk,rfl⟩:=zu hd;have a:=acz k ?A;have so:=acs k;have hc:i+1+k+(y::rest).length<=j:=by unfold nP at hk;rw[yi];lia
  have es:Zi t x y rest i j (k+1)=if (Zi t x y rest i j k).1.1<(qb t.hs t.row t.kb x i (i+1+k)).1*(bPm t.hs t.row t.kb (y::rest) (i+1+k) j (Zi t x y rest i j k).2).1.1 then (((?kU).1*(?kD).1.1,(?kU).2::(?kD).1.2),(?kD).2) else ((?Dk).1,(?kD).2):=by
   unfold Zi;rw[YC,yY];rfl
  have hkm:k*6 ^ (rest.length+1)<=4*6 ^ 3:=qa ?A hp6;have kl:=a.kl;have fz:=aV (row:=t.row) g.kz (x:=x) (hs:=t.hs) (i:=i) (j:=i+1+k) ?A fun hx=>cI rc hc hx;generalize Zi t x y rest i j k=acc at *;have rt:=df rc hc;have bz:=Dm (row:=t.row) ?K m (i+1+k) j acc.2 g.kz (by simp) ?vH ?A rt a.kp;have bs:=xU (row:=t.row) (hs:=t.hs) g.sb ?K (i+1+k) j acc.2 so.2;have l4':(y::rest).length*BB m<=4*200000:=qa (by simp only[yi];lia) b5;refine⟨_,(Yn (i:=5) Y2.nd rfl (.inl rfl)),?_⟩;refine QB (i:=6) Y2.nd rfl (.inl rfl) (Wi (L:=?AE) (d:=bvD ?kU) (Γ':=[some (bO C_Bests (y9 t.row) (.lst (yL t.rs)) (.lst ?FN) (kbD t.kb) (.raw (.ref t.c))),some (y9 ?Z),some (.int (i:Int)),some (.int (j:Int)),some (pvD acc.1),some (.int ((i+1+k:Nat):Int)),x6,x7,x8]) (Vz Jp Yd.c ?Aq (pq 0 rfl) Z7 (yb (y7 (d:=.str x) (pq 1 rfl) yx (Jo (j:=0) rfl)) (yb (pq 2 rfl) (yb (pq 5 rfl) yq))) ⟨.lst (yL t.rs),.raw (.ref t.c),t.row,t.hs,t.kb,x,i,i+1+k,rfl,rfl,?A,?vH⟩) (Vi (i:=0) (j:=3) (a:=t.a) (b:=t.b) (Ka Q0) rfl yo rfl ?Cm) iE (Bq (k9 g.sb)) ?_);refine QB (i:=7) Y2.nd rfl (.inl rfl) (Zg (t:={t with kp:=acc.2}) (t':={t with kp:=(bPm t.hs t.row t.kb ?K (i+1+k) j acc.2).2}) (d:=pvD (bPm t.hs t.row t.kb ?K (i+1+k) j acc.2).1) (Ω4:=[]) ih Yd.c ?Aq (pq 0 rfl) yo zP (yb (jS (d:=y9 ?K) (uT (pq 1 rfl) (vH yx) Kg ?_) ?_) (yb (pq 5 rfl) (yb (pq 3 rfl) yq))) rfl (by rw[Yq]) ?_ ?_)
  .rintro⟨h1,_⟩;simp[HT.sIx] at h1
  .exact congrArg D.tup HM
  .exact⟨?K,i+1+k,j,m,rfl,rfl,rfl,by simp,by simp only[yi];lia,?A,?vH,hjr,hm5,fun _=>rt,⟨g.rl,g.kz,a.kp,g.sb,so.2⟩,by show acc.2.length+n*2000<=16000000;lia⟩
  rw[Yq];generalize bPm t.hs t.row t.kb ?K (i+1+k) j acc.2=bp at *;generalize qb t.hs t.row t.kb x i (i+1+k)=fp at *;refine YM (i:=8) Y2.nd rfl (.inl rfl) (Yk (d:=sh (fp.1*bp.1.1)) zH ?Aq rfl (yb (y7 (d:=sh fp.1) (pq 6 rfl) yx rfl) (yb (y7 (d:=sh bp.1.1) (pq 7 rfl) yx rfl) yq)) ⟨fp.1,bp.1.1,_,_,rfl,rfl,fz.1,bz.nn,fz.2,bz.sz,?A,?A,?Bi⟩) ?_;refine QT (jn (Yk (d:=.bl (decide (acc.1.1<fp.1*bp.1.1))) JQ ?Aq rfl (yb (y7 (d:=sh acc.1.1) (pq 4 rfl) yx rfl) (yb (pq 8 rfl) yq)) ⟨acc.1.1,fp.1*bp.1.1,_,_,rfl,rfl,a.sz,ZF fz.2 bz.sz,?A,?A⟩)) ?_ ?_
  .intro hq;have hq:=of_decide_eq_true hq;refine YM (i:=4) (d:=pvD (fp.1*bp.1.1,fp.2::bp.1.2)) Y2.nd rfl (.inl rfl) (jS (qM (yb (pq 8 rfl) (yb (tR (qM (yb (y7 (d:=fp.2) (pq 6 rfl) yx rfl) yq)) (y7 (d:=.tup bp.1.2) (pq 7 rfl) yx rfl) ?_) yq))) rfl) ?_
   .have:=bz.len;rw[sizeLine_eq];simp only[yi,Yz] at this ⊢;lia
   .refine y8 (y8 ⟨some (.int ((i+1+k:Nat):Int)),some (bvD fp),some (pvD bp.1),some (sh (fp.1*bp.1.1)),?_,?_⟩)
    .rw[es,yc hq];rfl
    .rw[es,yc hq]
  .intro hq;have hq:=of_decide_eq_false hq;refine y8 (y8 ⟨some (.int ((i+1+k:Nat):Int)),some (bvD fp),some (pvD bp.1),some (sh (fp.1*bp.1.1)),?_,?_⟩)
   .rw[es,yd hq];rfl
   .rw[es,yd hq]
 .rintro Γ Ω ⟨x5,x6,x7,x8,rfl,rfl⟩;rw[jF];exact YK (pq 4 rfl) ⟨rfl,fun p hp=>hp⟩
end
section
theorem kF (z:?AK)(Yd:?Cd)(yZ:?X)(d:Y5 K C_Bests "best_parting" "Bests.best_parting" qY ["self", "body", "i", "j"])(d':?uG)(Jp:?K9)(zH:?Dx)(JQ:?FF):∀ n,OkM P w K mg base CX0 (3*n+34) C_Bests "best_parting" ["self", "body", "i", "j"] (spS K 4 ?FD (C6 n)):=by
 intro n
 induction n with
 |zero=>
  refine Ja (k:=33) d Ji rfl Fg fun f cdv A outer s H E hr t ds t' r hC B=>?_;obtain⟨body,i,j,m,rfl,rfl,rfl,h1,h2,_⟩:=hC;lia
 |succ n ih=>
  have op:=vo z Yd yZ d' Jp zH JQ ih;refine Ja (k:=3*n+36) d Ji rfl Fg fun f cdv A outer s H E hr t ds t' r hC B=>?_;obtain⟨body,i,j,m,rfl,rfl,rfl,h1,h2,hn4,hij,hjr,hm5,rc,g,hkl⟩:=hC;obtain⟨a,b',c,row,rs,hs,kb,kp⟩:=t;dsimp only at hjr hkl rc ⊢
  match body,h1,h2,rc with
  |[x],_,_,_=>
   refine ?H0
   .intro _;rw[bPm];have so:=k9 (hs:=hs) (row:=row) (x:=x) (i:=i) (j:=j) g.sb;dsimp only at so;generalize hb:qb hs row kb x i j=fp at *;refine QB (i:=4) Ji.nd rfl ?A2 (Wi (L:=?AE) (d:=bvD (fp)) (Γ':=[some (bO C_Bests ?Ah ?CH ?BC (kbD kb) ?BO),some (y9 [x]),some ?yU,some ?qR,none]) (Vz Jp Yd.c ?Aq ?A8 Z7 ?Ma ⟨?CH,?BO,row,hs,kb,x,i,j,rfl,congrArg bvD hb.symm,hij,hjr⟩) ?MK iE (Bq so) ?_);exact YK (qM (yb (y7 (d:=sh (fp).1) ?AX yx rfl) (yb (qM (yb (y7 (d:=(fp).2) ?AX yx rfl) yq)) yq))) ⟨rfl,fun p hp=>hp⟩
   .intro hk;have hk:decide ((1:Int)=1)=false:=hk;exact absurd hk ?B
  |x::y::rest,_,h2,rc=>
   have rc:=rc (by simp);have e0:decide (((List.map D.str (x::y::rest)).length:Int)=1)=false:=yu (by rw[yf];simp only[yi];lia);refine ?H0
   .intro hk;rw[e0] at hk;cases hk
   .intro _;refine ?AR;cases q:VF kp ?zJ with
    |none=>
     refine wL (KF hr.units (YI ?GR ⟨_,rfl,J9 (d:=?BO) (a:=a) ?A8 yo Yd.c Yd.n_known_partings rfl ⟨c,kpV kp,rfl,?EE,fun _=>?_,fun hk=>?_⟩⟩))
     .have a0:=bT (t:=?Gd) g.kz rc hij (by have:row.length<=5:=g.rl;lia) g.kp _ ?AC;have hp6:6 ^ (rest.length+1)<=6 ^ 3:=YD ?B (by simp only[yi] at h2;lia);have np:nP (rest.length+2) i j<=4:=by have:row.length<=5:=g.rl;unfold nP;lia
      have hkm:nP (rest.length+2) i j*6 ^ (rest.length+1)<=4*6 ^ 3:=qa np hp6;change PZ _ _ _ ?KB at a0;have e1:bPm hs row kb (x::y::rest) i j kp=((Zi ⟨a,b',c,row,rs,hs,kb,kp⟩ x y rest i j (nP (rest.length+2) i j)).1,XC (?KB).2 ?zJ (?KB).1):=by rw[bPm,q];rfl
      rw[e1];obtain⟨acc,hacc⟩:∃ acc,Zi ?Gd x y rest i j ?Bx=acc:=?Bt
      rw[hacc] at a0 ⊢;have kl:=a0.kl;dsimp only at kl hkl ⊢;refine lD hr.units (Zg (t:=?Gd) (t':=⟨a,b',c,row,rs,hs,kb,acc.2⟩) (d:=pvD acc.1) (Ω4:=[]) op Yd.c ?Aq ?A8 yo vv ?FP rfl ?Ad ⟨x,y,rest,i,j,m,rfl,by rw[hacc],by rw[hacc],h2,hn4,hij,hjr,hm5,rc,g,hkl⟩
       (J9 (d:=?BO) (a:=a) ?A8 yo Yd.c Yd.n_known_partings rfl ⟨c,rfl,YI ?GR ⟨_,_,_,rfl,AG,?_,?_⟩⟩))
      .show(kpV acc.2).length<sizeLine;unfold kpV;rw[yf,sizeLine_eq];lia
      .show W3 _ B _ _ ((c,ky P w K c (xr (kpV acc.2) (kB ?zJ) (pvD acc.1)))::_) _;rw[DN];refine ?AR;refine ZG (oC hr.units (J9 (d:=?BO) (a:=a) ?A8 ?Cm Yd.c Yd.n_known_partings rfl ⟨c,rfl,YI ?GR ⟨_,_,_,rfl,yo,by rw[UB,A1];rfl,rfl,fun p hp=>?_⟩⟩));simp only[omB,yB,Yv,or_false] at hp ⊢;rcases hp with z|z|z
       .exact .inr ?Ap
       .exact .inr ?BR
       .exact ?Ap
     .rw[UB,q] at hk;cases hk
    |some v=>
     refine wL (KF hr.units (YI ?GR ⟨_,rfl,J9 (d:=?BO) (a:=a) ?A8 yo Yd.c Yd.n_known_partings rfl ⟨c,kpV kp,rfl,?EE,fun hk=>?_,fun _=>?_⟩⟩))
     .rw[UB,q] at hk;cases hk
     .refine ?AR;rw[bPm,q];exact ZG (oC hr.units (J9 (d:=?BO) (a:=a) ?A8 yo Yd.c Yd.n_known_partings rfl ⟨c,rfl,YI ?GR ⟨_,_,_,rfl,?EE,by rw[UB,q];rfl,rfl,fun p hp=>hp⟩⟩))
end
section
variable (P w K mg base C_Bests) in
abbrev As:Prop:=OkM P w K mg base CX0 47 C_Bests "try_rule" ["self", "number", "i", "j"] (spS K 4 ?FD IH)
theorem Uh (Yd:?Cd)(d:Y5 K C_Bests "try_rule" "Bests.try_rule" QY ["self", "number", "i", "j"])(LP:OkM P w K mg base CX0 46 C_Bests "best_parting" ["self", "body", "i", "j"] (spS K 4 ?FD (C6 4)))(jZ:?Fa)(zH:?Dx)(JQ:?FF):?MV:=by
 refine Ja d Jk rfl Ip fun f cdv A outer s H E hr t ds t' r hC B=>?_;obtain⟨n,i,j,c,k,l,rl,T,rfl,rfl,rfl,hrn,ru,g⟩:=hC;obtain⟨a,b',c',row,rs,hs,kb,kp⟩:=t;dsimp only at hrn g ru ⊢;have hB:big=67108864:=rfl;have c1:=g.c1;have k1:=g.k1;have l1:=g.l1;have h5:=g.h5;have hij:=g.hij;have hj:=g.hj;have kl:kp.length<=k:=g.sb.kl;have bl:kb.1.length<=l:=g.sb.bl;obtain⟨e1,e2,e3,e4,e5,e6,e7⟩:=sH g.hT g.sb ru hij hj h5 g.c0;have cz:=g.sb.cur rl.1;have sob:=xU (hs:=hs) (row:=row) g.so.b rl.2.1 i j kp g.so.p;have tr:vq hs row i j (kb,kp) n rl=if (qu kb rl.1 i j).1<rl.2.2*(bPm hs row kb rl.2.1 i j kp).1.1 then ((U9 kb rl.1 i j (rl.2.2*(?wH).1.1,.tup [.int (n:Int),.tup (?wH).1.2]),(?wH).2),true) else ((kb,(?wH).2),?AE):=rfl
 rw[tr]
 clear tr
 refine QB (i:=4) Jk.nd rfl ?A2 (lX (J9 (d:=?CH) (a:=a) ?A8 yo Yd.c Yd.n_known_rules rfl ⟨_,rfl,YI ?AO ⟨_,zo rl,rfl,Jo (by unfold yL;rw[yC,hrn];rfl),?_⟩⟩));refine QB (i:=5) Jk.nd rfl ?A2 (Zg (t:=⟨a,b',c',row,rs,hs,kb,kp⟩) (t':=⟨a,b',c',row,rs,hs,kb,(?wH).2⟩) (d:=pvD (?wH).1) (Ω4:=[]) LP Yd.c ?A3 ?A8 yo zP (yb (y7 ?AX yx rfl) ?FW) rfl ?Ad ?_ ?_)
 .exact⟨rl.2.1,i,j,?zP,rfl,rfl,rfl,ru.b1,ru.b4,?B,hij,hj,?A,fun h2=>⟨fun x e=>by rw[e] at h2;simp at h2,fun _=>?A⟩,⟨h5,g.sb.kz,g.sb.kp,g.so.b,g.so.p⟩,by show kp.length+4*2000<=16000000;lia⟩
 rw[Yq];dsimp only at e3 e4 e5 sob;generalize bPm hs row kb rl.2.1 i j kp=bp at *;have pz:=ZF ru.sz e4;refine YM (i:=6) Jk.nd rfl ?A2 (Yk (d:=sh (rl.2.2*bp.1.1)) zH ?A3 rfl (yb (y7 (d:=sh rl.2.2) ?AX yx rfl) (yb (y7 (d:=sh bp.1.1) ?Bv yx rfl) yq)) ⟨rl.2.2,bp.1.1,_,_,rfl,rfl,ru.pos,e3,ru.sz,e4,?B,?A,?Bi⟩) ?_;have gs:=g.so.b rl.1 i j;refine wL (Bt (Γ':=[some (bO C_Bests ?Ah ?CH ?BC (kbD kb) (.raw (.ref c'))),some (.int (n:Int)),some ?yU,some ?qR,some (zo rl),some (pvD bp.1),some (sh (rl.2.2*bp.1.1))]) (vD (jn (Yk (d:=.bl (decide ((qu kb rl.1 i j).1<rl.2.2*bp.1.1))) JQ ?A3 rfl (yb (y7 (d:=sh (qu kb rl.1 i j).1) (Vz (d:=bvD (qu kb rl.1 i j)) jZ Yd.c ?A3 ?A8 Zh (yb (y7 (d:=.str rl.1) ?AX yx rfl) ?FW) ⟨_,_,_,_,kb,rl.1,i,j,rfl,rfl⟩) yx rfl) (yb ?BE yq)) ⟨(qu kb rl.1 i j).1,rl.2.2*bp.1.1,_,_,rfl,rfl,cz.2,pz,?A,?A⟩))) ?MK ?xH)
 .have hk:¬ (qu kb rl.1 i j).1<rl.2.2*bp.1.1:=by simpa using hk
  rw[yd hk];exact YK uo ⟨rfl,fun p hp=>hp⟩
 .have hk:(qu kb rl.1 i j).1<rl.2.2*bp.1.1:=by simpa using hk
  rw[yc hk];refine ?AR;refine c9 (l:=b') (k:=kS (rl.1,i,j)) (kt:=kbK kb) (ds:=kbV kb) (d:=bvD ?kV) hr.units (J9 (d:=.raw (.ref b')) (a:=a) ?A8 yo Yd.c Yd.n_known_bests rfl ?CV) (yb (y7 (d:=.str rl.1) ?AX yx rfl) ?FW) (jS (qM (yb ?BE (yb (qM (yb ?AO (yb (y7 (d:=.tup bp.1.2) ?Bv yx rfl) yq))) yq))) rfl) ?zV ?_ ?_
  .unfold kbK;rw[yf,sizeLine_eq];lia
  .refine YK uo ⟨rfl,fun p hp=>?_⟩;have e1':kbK (U9 kb rl.1 i j ?kV)=pK (kbK kb) (kS (rl.1,i,j)):=(xy vJ).symm;have e2':kbV (U9 kb rl.1 i j ?kV)=pA (kbK kb) (kbV kb) (kS (rl.1,i,j)) (bvD ?kV):=(W6 vJ).symm;unfold omB at hp;dsimp only at hp;rw[e1',e2'] at hp;simp only[yB,Yv,or_false] at hp ⊢;rcases hp with z|z|z
   .exact .inr ?Ap
   .exact ?Ap
   .exact .inr ?BR
variable (P w K mg base C_Bests) in
abbrev Cz:Prop:=OkM P w K mg base CX0 48 C_Bests "try_rules" ["self", "i", "j"] (spS K 3 ?FD IR)
theorem uh (z:?AK)(Yd:?Cd)(d:Y5 K C_Bests "try_rules" "Bests.try_rules" QF ["self", "i", "j"])(Hv:?MV):?MT:=by
 refine Ja d Q4 rfl IK fun f cdv A outer s H E hr t ds t' r hC B=>?_;obtain⟨i,j,c,k,l,T,rfl,rfl,rfl,ru,hh,rl,hl,g,h0,c3,k3,l3⟩:=hC;obtain⟨a,b',c',row,rs,hs,kb,kp⟩:=t;dsimp only at ru hh rl hl g h0 ⊢;have en:=dl g.hT g.sb ru hh g.hij g.hj g.h5 g.c0 h0;have tb:∀ n,n<=4->TrB hs row T i j (c+60*n) (k+15552*n) (l+12*n) (stR hs row rs i j (kb,kp) n):=fun n hn=>aW g ru h0 rl n ?A ?A ?A ?A;generalize hs0:(kb,kp)=s0 at *;have ek:kb=s0.1:=by rw[←hs0]
 have ep:kp=s0.2:=by rw[←hs0]
 refine ?Lz;refine BP PassesOwn.never (fun m Γ Ω=>∃ (n:Nat) (gr:Bool) (x4:Option D),n+m=hs.length+1/\(gr=true->∀ q,q<n->(?Kk).2=true)/\(gr=false->∃ n',n=n'+1/\(∀ q,q<n'->(?Kk).2=true)/\(rnd hs row rs i j (stR hs row rs i j s0 n')).2=false)/\Γ=[some ?Bg,some ?yU,some ?qR,some (.bl gr),x4]/\Ω=omB P w K C_Bests ⟨a,b',c',row,rs,hs,(stR hs row rs i j s0 n).1,(stR hs row rs i j s0 n).2⟩) (n:=?yS) ⟨0,true,_,?A,(fun _ q hq=>?A),(fun z=>by cases z),rfl,by rw[ek,ep];rfl⟩ ?_;rintro m Γ Ω ⟨n,gr,x4,hnm,ht,hf,rfl,rfl⟩;refine DA (jn ?AZ) ?xH
 .subst hk;have ht:=ht rfl;have hn:n<=hs.length:=by
   by_cases q:n<=hs.length
   .exact q
   .have:=ht hs.length ?A;rw[en] at this;cases this
  have tn:=tb n ?A;have es:stR hs row rs i j s0 (n+1)=(rnd hs row rs i j (stR hs row rs i j s0 n)).1:=rfl;have rn:∀ q,q<=rs.length->_:=fun q hq=>nK tn.hT tn.sb ru tn.hij tn.hj tn.h5 tn.c0 q hq;have rso:∀ q,q<=rs.length->_:=fun q hq=>xH tn ru q hq;have er:rnd hs row rs i j (stR hs row rs i j s0 n)=(List.range rs.length).foldl (VS hs row rs i j) (stR hs row rs i j s0 n,?AE):=rfl;rw[er] at es;have fl:(rnd hs row rs i j (stR hs row rs i j s0 n)).2=((List.range rs.length).foldl (VS hs row rs i j) (stR hs row rs i j s0 n,?AE)).2:=by rw[er]
  generalize hsn:stR hs row rs i j s0 n=sn at *;refine ?Lz;refine xP PassesOwn.never rfl (KN z.range rfl (U4 (L:=?AE) (d:=.int (rs.length:Int)) (Γ':=[some (.obj C_Bests bF [y9 row,.lst ?AP,.lst ?Az,.raw (.ref b'),.raw (.ref c')]),some ?yU,some ?qR,some ?EL,x4]) (jS (zS z.len rfl (Zn ?A8 Yd.c Yd.n_known_rules rfl)) (by rw[YW])) (ZB (i:=0) Q0 rfl yo Vj) iE rfl ⟨_,rfl,?A,?A,fun q Γ Ω=>∃ x4,Γ=[some (.raw (.ref a)),some ?yU,some ?qR,some (.bl ((?Hi).foldl ?CT (sn,?AE)).2),x4]/\Ω=omB P w K C_Bests ⟨a,b',c',row,rs,hs,((List.range q).foldl (VS hs row rs i j) (sn,?AE)).1.1,((List.range q).foldl (VS hs row rs i j) (sn,?AE)).1.2⟩,⟨_,rfl,rfl⟩,?_,?_⟩))
  .rintro q d Γ Ω hd ⟨x4,rfl,rfl⟩;obtain⟨hq,rfl⟩:=bi hd;rw[qG] at hq;have b:=rn q ?A;have so:=rso q ?A;obtain⟨rr,hrr⟩:∃ rr,rs[q]?=some rr:=⟨_,yj hq⟩
   have eq1:(List.range (q+1)).foldl (VS hs row rs i j) (sn,?AE)=((vq hs row i j ((List.range q).foldl (VS hs row rs i j) (sn,?AE)).1 q rr).1,(vq hs row i j ((?Hi).foldl ?CT (sn,?AE)).1 q rr).2||((?Hi).foldl ?CT (sn,?AE)).2):=by
    rw[YC,yY,Yi,qH];have gd:rs.getD q ("", [],0)=rr:=by rw[yv,hrr];rfl
    unfold VS;rw[gd]
   generalize (?Hi).foldl ?CT (sn,?AE)=st at *;have c1:=tn.c1;have k1:=tn.k1;have l1:=tn.l1;have tq:TrB hs row T i j (c+60*n+5*q) (k+15552*n+1296*q) (l+12*n+q) (st.1.1,st.1.2):=⟨b.sb,so,tn.hT,tn.hij,tn.hj,tn.h5,by have:=tn.c0;lia,?A,?A,?A⟩
   refine⟨_,(Yn (i:=4) Q4.nd rfl ?A2),?_⟩;have eq1:(List.range (q+1)).foldl (VS hs row rs i j) (sn,?AE)=((vq hs row i j (st.1.1,st.1.2) q rr).1,(vq hs row i j (st.1.1,st.1.2) q rr).2||st.2):=eq1;obtain⟨tt,htt⟩:∃ tt,vq hs row i j (st.1.1,st.1.2) q rr=tt:=?Bt
   rw[htt] at eq1;refine QB (i:=3) Q4.nd rfl ?A2 (IM (Zg (t:=⟨a,b',c',row,rs,hs,st.1.1,st.1.2⟩) (t':=⟨a,b',c',row,rs,hs,tt.1.1,tt.1.2⟩) (d:=.bl tt.2) (Ω4:=[]) Hv Yd.c ?A3 ?A8 yo uE (yb ?AX (yb ?AO ?Dh)) rfl ?Ad ⟨q,i,j,_,_,_,rr,T,rfl,by rw[htt],by rw[htt],hrr,ru rr (yr hrr),tq⟩ ?Hx));rw[Yq];cases h2:tt.2 with
   |true=>
    rw[yc rfl];refine y8 ⟨some (.int (q:Int)),?_,?_⟩
    .rw[eq1,h2];rfl
    .rw[eq1]
   |false=>
    rw[yd yN];refine YI ?AZ (y8 ⟨some (.int (q:Int)),?_,?_⟩)
    .rw[eq1,h2];rfl
    .rw[eq1]
  .rintro Γ Ω ⟨x4,rfl,rfl⟩;rw[Wt,qG];refine y8 ⟨m - 1,?A,n+1,_,_,?A,fun q2 q hq=>?_,fun q2=>⟨n,rfl,ht,?_⟩,rfl,?_⟩
   .rcases Ql q n with y|y
    .exact ht q y
    .have:q=n:=by lia
     subst this;rw[hsn,fl];exact q2
   .rw[hsn,fl];exact q2
   .rw[es]
 .subst hk;obtain⟨n',rfl,h1,h2⟩:=hf rfl;have:=nF (hs:=hs) (row:=row) (rs:=rs) (i:=i) (j:=j) (s:=s0) (n':=n') (m:=hs.length) (n:=0) (fun q hq=>by rw[qK];exact h1 q hq) (by rw[qK];exact h2) ?A
  have e:V5 hs row rs i j (hs.length+1) s0=stR hs row rs i j s0 (n'+1):=by
   rw[qK] at this;exact this
  exact y8 ⟨rfl,fun p hp=>by rw[e] at hp;exact hp⟩
variable (P w K mg base C_Grammar C_Bests) in
abbrev lA:Prop:=OkI P w K mg base CX0 49 "Bests" C_Bests ["self", "grammar", "row"] (io K 3 C_Bests (Cj C_Grammar) (mG C_Grammar))
theorem tU (z:?AK)(Yd:?Cd)(yS:?Ba)(d:vz K mg "Bests" C_Bests "Bests.__init__" QZ ["self", "grammar", "row"])(ZM:?Jz)(QM:?G2)(ZC:?Hw)(Hv:?MT):?Jh:=by
 refine eE d zv rfl fun f cdv A outer s H E hr a ds hC B hB=>?_;obtain⟨st,rs,row,rfl,g⟩:=hC;have l15:=uF g.wl;have wl:=g.wl;refine JV (a:=a) ?A8 Yd.c Yd.n_row (YI ?AT ⟨[],[],[],?Ad,by simp,by decide,?_⟩);refine JV (a:=a) ?A8 Yd.c Yd.n_known_rules (YI (PF3.p (Zw (ds:=?AP) ZM yS.c ?A3 ?AO vX ?_)) ?vN)
 .exact ?E5
 refine JV (a:=a) ?A8 Yd.c Yd.n_known_heads (YI (PF3.p (Zw (ds:=?DC) QM yS.c ?A3 ?AO JM ?_)) ?vN)
 .exact ?E5
 refine JV (a:=a) ?A8 Yd.c Yd.n_known_bests (de fun b'=>⟨_,_,[(b',oDt K [] [])],?zV,?B,?B,?_⟩);refine JV (a:=a) ?A8 Yd.c Yd.n_known_partings (ic fun c=>⟨_,_,[(b',oDt K [] []),(c,ky P w K c [])],(?zV).trans (List.Perm.cons _ ?zV),?B,?B,?_⟩);refine jo PassesOwn.never rfl (Qy (Yk (d:=.lst ((?AS).map wQ)) ZC ?A3 rfl ?Dh ?_)) (fun k Γ Ω=>∃ x3 x4,Γ=[some ?Bg,some ?CY,some ?Ah,x3,x4]/\Ω=omB P w K C_Bests ⟨a,b',c,row,rs,?A5,(?AW).1,(?AW).2⟩) ?KA ?_ ?_
 .exact⟨row,rfl,rfl,?A⟩
 .rintro k d Γ Ω hd ⟨x3,x4,rfl,rfl⟩;obtain⟨p,hp,rfl⟩:=VQ hd;have hk:k<(YT row.length).length:=(?EM).1;have hpi:=ZT (yr hp);have ab:=(uC g k ?A).sb g hp;have so:=fS g k ?A;have b5:=DB (n:=?wR) ?A;refine⟨_,(kL rfl (qR (Yn (i:=3) zv.nd rfl ?A2) (qR (Yn (i:=4) zv.nd rfl ?A2) vb))),?_⟩;refine Wn (Zg (t:=⟨a,b',c,row,rs,?A5,(?AW).1,(?AW).2⟩) (t':=⟨a,b',c,row,rs,?A5,(Jh rs row (k+1)).1,(Jh rs row (k+1)).2⟩) (d:=.non) (Ω4:=[]) Hv Yd.c ?A3 ?A8 yo ul (yb ?AZ (yb ?AX yq)) rfl ?Ad ?_ ?_)
  .refine⟨p.1,p.2,4*BB ?wR+1,62208*k,48*k,?BQ,rfl,?_,rfl,g.ru,g.hh,g.rl,g.hl,⟨ab.1,so,ax,hpi.1,hpi.2,wl,yg _,?A,?A,?A⟩,ab.2,?A,?A,?A⟩;rw[Z3 hp]
  .exact y8 ⟨_,_,rfl,by rw[Yq]⟩
 .rintro Γ Ω ⟨x3,x4,rfl,rfl⟩;rw[yf];refine Ca (j:=3) rfl (Af (Ω':=[(a,JW K C_Bests bF ?GO)]) (fun q hq=>?_) (by simp) (y8 ⟨_,An (c:=c),rfl⟩));rw[yE.mp hq];exact yo
end
section
theorem pM (z:?AK)(Yd:?Cd)(yS:?Ba)(d:Yo K mg "bounds" Vv ["grammar", "row"])(dH:?Jh)(QM:?G2)(ZC:?Hw)(jZ:?Fa):?MW:=by
 refine YJ (k:=50) d Z2 rfl fun f cdv A outer s H E hr ds r hC B hB=>?_;obtain⟨st,rs,row,rfl,rfl,g,nd⟩:=hC;have wl:=g.wl;have hl:=g.hl;have l15:=uF wl;refine QB (i:=2) Z2.nd rfl (.inl rfl) (a8 dH ?A3 rfl (yb (pq 0 rfl) (yb (pq 1 rfl) yq)) ⟨st,rs,row,rfl,g⟩ fun r hC=>?_);obtain⟨c,rfl⟩:=hC st rs row rfl;have wc:∀ k:K3,AL C_Bests [.obj C_Bests bF ?GO,.str k.1,.int (k.2.1:Int),.int (k.2.2:Int)] (bvD (qu ?BZ k.1 k.2.1 k.2.2)):=fun k=>⟨_,_,_,_,?BZ,k.1,k.2.1,k.2.2,rfl,rfl⟩
 have bt:∀ k:K3,(qu ?BZ k.1 k.2.1 k.2.2).1=btf rs row k:=fun k=>rfl;show W3 _ _ _ [some ?CY,some ?Ah,some (.obj C_Bests bF ?GO),none,none,none,none] _ _;generalize bGs rs row c=gs at *;refine QB (i:=3) Z2.nd rfl (.inl rfl) (de fun l=>?_);generalize hfs:yt rs=hs at *;refine jo PassesOwn.never rfl (Qy (PF3.p (Zw (ds:=?Az) QM yS.c ?A3 (pq 0 rfl) JM ?_))) (fun i Γ Ω=>∃ (x4 x5 x6:Option D),Γ=[some ?CY,some ?Ah,some (.obj C_Bests bF gs),some (.raw (.ref l)),x4,x5,x6]/\Ω=[(l,oDt K ((kA row.length ?DZ).map kS) (((kA row.length ?DZ).map ?Dw).map sh))]) ⟨_,_,_,rfl,rfl⟩ ?_ ?_
 .exact⟨st,rs,rfl,by rw[hfs]⟩
 .rintro i d Γ Ω hd ⟨x4,x5,x6,rfl,rfl⟩;obtain⟨h,hh,rfl⟩:=jH hd;have hi:i<hs.length:=(yk.mp hh).1;have nh:h∉hs.take i:=fun y=>by
   have n2:=nd.sublist (qF (i+1) _);rw[Yl hh,Yr] at n2;exact n2.2.2 h y h (by simp) rfl
  refine⟨_,(Yn (i:=4) Z2.nd rfl (.inl rfl)),?_⟩;refine jo PassesOwn.never rfl (Qy (Yk (d:=.lst ((?AS).map wQ)) ZC ?A3 rfl (yb (pq 1 rfl) yq) ?_)) (fun t Γ Ω=>∃ (x5 x6:Option D),Γ=[some ?CY,some ?Ah,some (.obj C_Bests bF gs),some (.raw (.ref l)),some (.str h),x5,x6]/\Ω=[(l,oDt K ((?GS).map kS) (((?GS).map ?Dw).map sh))]) ⟨_,_,rfl,by rw[Ls]⟩ ?_ ?_
  .exact⟨row,rfl,rfl,?A⟩
  .rintro t d Γ Ω hd ⟨x5,x6,rfl,rfl⟩;obtain⟨p,hp,rfl⟩:=VQ hd;have bp:=FO (f:=?Dw) (Go wl nh hp);have kl:=FZ wl (hs:=?DZ) (h:=h) (t:=t);rw[Yh] at kl;refine⟨_,(kL rfl (qR (Yn (i:=5) Z2.nd rfl (.inl rfl)) (qR (Yn (i:=6) Z2.nd rfl (.inl rfl)) vb))),?_⟩;refine c9 (l:=l) (k:=kS ?zH) (kt:=(?GS).map kS) (ds:=((?GS).map ?Dw).map sh) (Ω4:=[]) hr.units (YI (pq 3 rfl) ⟨rfl,rfl⟩) (yb (pq 4 rfl) (yb (pq 5 rfl) (yb (pq 6 rfl) yq))) (jS (d:=sh (btf rs row ?zH)) (y7 (d:=sh (qu ?BZ h p.1 p.2).1) (Vz (d:=bvD (qu ?BZ h p.1 p.2)) jZ Yd.c ?A3 (pq 2 rfl) Zh (yb (pq 4 rfl) (yb (pq 5 rfl) (yb (pq 6 rfl) yq))) (wc ?zH)) yx rfl) (congrArg sh (bt ?zH))) ?Ad ?_ ?_
   .rw[yf,sizeLine_eq];lia
   .rw[bp.1,bp.2,←C4 hp];exact y8 ⟨_,_,rfl,rfl⟩
  .rintro Γ Ω ⟨x5,x6,rfl,rfl⟩;rw[yf,FY,←Yl hh];exact y8 ⟨_,_,_,rfl,rfl⟩
 .rintro Γ Ω ⟨x4,x5,x6,rfl,rfl⟩;rw[YL,yM];refine tS (i:=3) rfl ?_;refine YK (pq 3 rfl) ?_;unfold bdD;rw[hfs]
theorem cM (z:?AK)(Yd:?Cd)(yS:?Ba)(d:Yo K mg "best_tree" zd ["grammar", "row"])(yZ:?X)(dH:?Jh)(ZL:?IG)(jZ:?Fa):?MS:=by
 refine YJ (k:=50) d Uc rfl fun f cdv A outer s H E hr ds r hC B hB=>?_;obtain⟨st,rs,row,rfl,rfl,g,hp⟩:=hC;refine QB (i:=2) Uc.nd rfl ?A2 (Eg jZ Yd.c ?A3 (yb (ng (d:=.str st) ZL yS.c ?A3 ?A8 Vu ?E5) (yb (jS (d:=.int ((0:Nat):Int)) yx rfl) (yb (jS (d:=.int (row.length:Int)) (jb z.len rfl ?AO) (by rw[yf])) yq))) (a8 dH ?A3 rfl ?J4 ⟨st,rs,row,rfl,g⟩ fun r hC=>?_));obtain⟨c,rfl⟩:=hC st rs row rfl;refine⟨_,_,bvD ?IT,rfl,Zh,⟨_,_,_,_,?BZ,st,0,?Cj,rfl,rfl⟩,?_⟩;have hp:0<(qu (kbF rs row) st 0 row.length).1:=hp;show W3 _ _ _ [some ?CY,some ?Ah,some (bvD ?IT)] _ _;generalize qu ?BZ st 0 row.length=v at *;refine QT (ql (XH hr.units (y7 (d:=sh v.1) ?AT yx rfl) (qo yZ rfl) zD zA)) (fun hk=>?_) (fun _=>?AR)
 .rw[JB] at hk;have:v.1=0:=of_decide_eq_true hk;rw[this] at hp;exact absurd hp ?B
 .exact YK ?Fr rfl
end
section
theorem bN (z:?AK)(d:Yo K mg "_law_words" Zp ["_law_tree_here"]):∀ n,OkF P w K mg base CX0 (n+1) "_law_words" ["_law_tree_here"] (spP K 1 (oh n)):=by
 intro n
 induction n with
 |zero=>
  refine YJ d zm rfl fun f cdv A outer s H E hr ds r hC B hB=>?_;obtain⟨t,rfl,rfl,hd,hz⟩:=hC;cases t with
  |nd r ps=>rw[dpt] at hd;lia
  |lf w'=>
   rw[trD,wds];refine QT (jn (J8 (k:=true) z.isinstance rfl (pq 0 rfl) (J7 rfl z.str VX (v:=.ty "str") rfl) rfl (by rfl) ?M)) ?_ ?_
   .intro _;refine YK (qM (yb (pq 0 rfl) yq)) ?_;rfl
   .intro h;cases h
 |succ n ih=>
  refine YJ d zm rfl fun f cdv A outer s H E hr ds r hC B hB=>?_;obtain⟨t,rfl,rfl,hd,hz⟩:=hC;cases t with
  |lf w'=>
   rw[trD,wds];refine QT (jn (J8 (k:=true) z.isinstance rfl (pq 0 rfl) (J7 rfl z.str VX (v:=.ty "str") rfl) rfl (by rfl) ?M)) ?_ ?_
   .intro _;refine YK (qM (yb (pq 0 rfl) yq)) ?_;rfl
   .intro h;cases h
  |nd r ps=>
   rw[trD,wds];rw[dpt] at hd;rw[wds,Vs] at hz;refine QT (jn (J8 (k:=?AE) z.isinstance rfl (pq 0 rfl) (J7 rfl z.str VX (v:=.ty "str") rfl) rfl (by rfl) ?M)) ?_ ?_
   .intro h;cases h
   .intro _;refine ?AR;refine YM (i:=1) zm.nd rfl (.inl rfl) (qM yq) ?_;refine jo PassesOwn.never rfl (oP (y7 (pq 0 rfl) yx rfl)) (fun i Γ _=>∃ a,Γ=[some (.tup [.int r,.tup (KY ps)]),some (y9 ((?EC).flatMap wds)),a]) ⟨none,rfl⟩ ?_ ?_
    .rintro i d Γ Ω hd' ⟨a,rfl⟩;obtain⟨t,ht,rfl⟩:=lZ hd';have tm:=yr ht;have td:=WJ tm;have e2:(ps.take (i+1)).flatMap wds=(ps.take i).flatMap wds++wds t:=by rw[X1 ht,Qf];simp
     have l2:=oz (ts:=ps) (i:=i+1);rw[e2,yI] at l2;refine⟨_,(Yn (i:=2) zm.nd rfl (.inl rfl)),?_⟩;refine YM (i:=1) zm.nd rfl (.inl rfl) (tR (pq 1 rfl) (Yk (d:=y9 ?CJ) ih ?Aq rfl (yb (pq 2 rfl) yq) ?_) ?_) ?_
     .exact⟨t,rfl,rfl,?A,?A⟩
     .rw[yf,yf,sizeLine_eq];lia
     refine ?Lm;rw[e2];unfold y9;rw[yH];rfl
    .rintro Γ Ω ⟨a,rfl⟩;refine YK (pq 1 rfl) ?_;rw[eN,yM,Vs]
theorem wV (z:?AK)(d:Yo K mg "_law_share_of" Jx ["_law_rules_here", "_law_tree_here"])(ZD:?H2):∀ n,OkF P w K mg base CX0 (n+36) "_law_share_of" ["_law_rules_here", "_law_tree_here"] (spP K 2 (E5 n)):=by
 intro n
 induction n with
 |zero=>
  refine YJ d j4 rfl fun f cdv A outer s H E hr ds r hC B hB=>?_;obtain⟨rs,t,rfl,rfl,hd,hi,hs,hn,hz⟩:=hC;cases t with
  |nd r ps=>rw[dpt] at hd;lia
  |lf w'=>
   rw[trD,shT];refine QT (jn (J8 (k:=true) z.isinstance rfl (pq 1 rfl) (J7 rfl z.str VX (v:=.ty "str") rfl) rfl (by rfl) ?M)) ?_ ?_
   .intro _;refine YK (jS (d:=sh 1) (qM ?DH) rfl) ?_;rfl
   .intro h;cases h
 |succ n ih=>
  refine YJ d j4 rfl fun f cdv A outer s H E hr ds r hC B hB=>?_;obtain⟨rs,t,rfl,rfl,hd,hi,hs,hn,hz⟩:=hC;cases t with
  |lf w'=>
   rw[trD,shT];refine QT (jn (J8 (k:=true) z.isinstance rfl (pq 1 rfl) (J7 rfl z.str VX (v:=.ty "str") rfl) rfl (by rfl) ?M)) ?_ ?_
   .intro _;refine YK (jS (d:=sh 1) (qM ?DH) rfl) ?_;rfl
   .intro h;cases h
  |nd r ps=>
   rw[trD,shT];rw[dpt] at hd;rw[inR] at hi;rw[nds] at hn;rw[wds] at hz;obtain⟨q,hq⟩:∃ q,rs[r]?=some q:=⟨_,yj hi.1⟩
   have hq':=hs q (yr hq);have al:=WA.mp hi.2;rw[hq];refine QT (jn (J8 (k:=?AE) z.isinstance rfl (pq 1 rfl) (J7 rfl z.str VX (v:=.ty "str") rfl) rfl (by rfl) ?M)) ?_ ?_
   .intro h;cases h
   .intro _;refine ?AR;refine YM (i:=2) j4.nd rfl (.inl rfl) (y7 (Zo (d:=zo q) (pq 0 rfl) (y7 (pq 1 rfl) yx rfl) ?_) yx rfl) ?_
    .refine Jo ?_;unfold yL;rw[yC,hq];rfl
    have tk:∀ i,0<=zV rs ?EC/\Sz 7001 (zV rs ?EC):=fun i=>by
     have h1:=cN hs (ts:=?EC) (WA.mpr fun t ht=>al t (jT ht));refine⟨h1.1,h1.2.mono ?_⟩;have h2:=aP (ts:=ps) (i:=i);have h3:=oz (ts:=ps) (i:=i);rw[←Vs,←Vs] at h3;lia
    refine jo PassesOwn.never rfl (oP (y7 (pq 1 rfl) yx rfl)) (fun i Γ _=>∃ a,Γ=[some (.lst ?AP),some (.tup [.int r,.tup (KY ps)]),some (sh (q.2.2*zV rs ?EC)),a]) ⟨none,?_⟩ ?_ ?_
    .rw[List.take_zero,zV,Rat.mul_one];rfl
    .rintro i d Γ Ω hd' ⟨a,rfl⟩;obtain⟨t,ht,rfl⟩:=lZ hd';have tm:=yr ht;have td:=WJ tm;have tn:=fK tm;have tw:=D5 tm;have ti:=sZ hs (al t tm);have e2:q.2.2*zV rs (ps.take (i+1))=q.2.2*zV rs (ps.take i)*shT rs t:=by
      rw[X1 ht,UQ,UQ,yH,yD,Q6,Xc,Rat.mul_assoc]
     refine⟨_,(Yn (i:=3) j4.nd rfl (.inl rfl)),?_⟩;refine YM (i:=2) j4.nd rfl (.inl rfl) (Yk (d:=sh (q.2.2*zV rs ?EC*shT rs t)) ZD ?Aq rfl (yb (pq 2 rfl) (yb (Yk (d:=sh (shT rs t)) ih ?Aq rfl (yb (pq 0 rfl) (yb (pq 3 rfl) yq)) ?_) yq)) ?_) ?_
     .exact⟨rs,t,rfl,rfl,?A,al t tm,hs,?A,?A⟩
     .refine⟨_,_,5+7001,6*nds t+(?CJ).length,rfl,rfl,Qo hq'.1 (tk i).1,ti.1,ZF hq'.2 (tk i).2,ti.2,?B,?_,?Bi⟩;have:big=67108864:=rfl;lia
     refine ?Lm;rw[e2];rfl
    .rintro Γ Ω ⟨a,rfl⟩;refine YK (pq 2 rfl) ?_;rw[eN,yM];rfl
theorem W0 (z:?AK)(d:Yo K mg "_law_is_tree" Jf ["_law_rules_here", "_law_symbol", "_law_thing"])(gB:E9 P w K mg base):∀ n,OkF P w K mg base CX0 (n+3) "_law_is_tree" ["_law_rules_here", "_law_symbol", "_law_thing"] (spP K 3 (eL n)):=by
 intro n
 induction n using Nat.strongRecOn with
 |ind n ih=>
 refine YJ d zp rfl fun f cdv A outer s H E hr ds r hC B hB=>?_;obtain⟨rs,y,t,rfl,rfl,hd,hl⟩:=hC;refine QT (ql (Ue hr.units (pq 1 rfl) (PF3.p (jX (SX:=yp Jf) (XN:=["_law_rules_here", "_law_symbol", "_law_thing", "_law_body", "_law_one", "_law_part"]) (N:=["_law_rule"]) (nt:=1) (caps:=[]) (pre:=(fun i=>yO ((?E2).map ?C))) ⟨rfl,?D,?D,?D,rfl,?D⟩ (Qy (pq 0 rfl)) ?_ ?_ ?_)) (.inl rfl) ?_)) ?_ ?_
 .intro i _;rw[YL,yf,sizeLine_eq];have:=List.length_take_le' i rs;lia
 .rfl
 .intro c i d hd';unfold yL at hd';rw[yC] at hd';obtain⟨q,hq,rfl⟩:=Yt.mp hd';refine⟨_,(Yn (i:=0) (show List.Nodup (α:=Str) ["_law_rule"] by decide +kernel) rfl (.inl rfl)),(Sub.set rfl),.inl ⟨.str q.1,zB,(y7 (pq 0 rfl) yx rfl),?_⟩⟩;show yO ((rs.take (i+1)).map ?C)=yO ((?E2).map ?C)++[D.str q.1]
  rw[Yl hq,yH];unfold yO;rw[yH];rfl
 .rw[YW,yM];exact Zm
 .intro hk;rw[YW,yM,J6,Bool.not_eq_true'] at hk;have hy:y∉rs.map ?C:=of_decide_eq_false hk;cases t with
  |lf w'=>
   rw[thD];refine YK (uY (J8 (k:=true) z.isinstance rfl (pq 2 rfl) (J7 rfl z.str VX (v:=.ty "str") rfl) rfl (by rfl) ?M) fun _=>wO (vZ (X4 (pq 2 rfl) (pq 1 rfl)))) ?_;show D.bl _=D.bl _;rw[zZ,hk];rfl
  |one r'=>
   rw[thD];refine YK (uY (k':=?AE) (J8 (k:=?AE) z.isinstance rfl (pq 2 rfl) (J7 rfl z.str VX (v:=.ty "str") rfl) rfl (by rfl) ?M) fun h=>nomatch h) ?_;show D.bl _=D.bl _;rw[zZ];rfl
  |nd r' ps=>
   rw[thD];refine YK (uY (k':=?AE) (J8 (k:=?AE) z.isinstance rfl (pq 2 rfl) (J7 rfl z.str VX (v:=.ty "str") rfl) rfl (by rfl) ?M) fun h=>nomatch h) ?_;show D.bl _=D.bl _;congr 1;cases q:ZE rs r' with
   |none=>exact(md q).symm
   |some q2=>
    have:q2.1≠y:=fun h=>by
     obtain⟨k,_,hk,_⟩:=vF q;exact hy (yA.mpr ⟨q2,yr hk,h⟩)
    rw[m6 q,yu this,Bool.false_and];rfl
 .intro hk;rw[YW,yM,J6,Bool.not_eq_false'] at hk;have hy:y∈rs.map ?C:=of_decide_eq_true hk;refine ?AR;cases t with
  |lf w'=>
   have e3:zZ rs (.lf w') y=false:=by rw[zZ,hk];rfl
   rw[thD,e3];refine QT (PW3.t (ko (k':=true) (vD (jn (J8 (k:=?AE) z.isinstance rfl (pq 2 rfl) (J7 rfl z.tuple kG (v:=.ty "tuple") rfl) rfl (by rfl) ?M))) (fun h=>absurd h ?B))) (fun _=>?_) (fun h=>absurd h ?B);refine ?EB;rfl
  |one r'=>
   have e3:zZ rs (.one r') y=false:=by rw[zZ]
   rw[thD,e3];refine QT (PW3.t (ko (vD (jn (J8 (k:=true) z.isinstance rfl (pq 2 rfl) (J7 rfl z.tuple kG (v:=.ty "tuple") rfl) rfl (by rfl) ?M))) (fun _=>ko (k':=true) (ql (BL (jb z.len rfl (pq 2 rfl)) yx)) (fun h=>absurd (show(!decide ((1:Int)=2))=false from h) ?B)))) (fun _=>?_) (fun h=>absurd (show(!true||(!decide ((1:Int)=2)||true))=false from h) ?B);refine ?EB;rfl
  |nd r' ps=>
   rw[thD];refine QT (PW3.t (ko (vD (jn (J8 (k:=true) z.isinstance rfl (pq 2 rfl) (J7 rfl z.tuple kG (v:=.ty "tuple") rfl) rfl (by rfl) ?M))) (fun _=>ko (ql (BL (jb z.len rfl (pq 2 rfl)) yx)) (fun _=>ko (vD (jn (Yk (d:=.bl true) gB ?Aq rfl (yb (y7 (pq 2 rfl) yx rfl) yq) ⟨r',rfl,rfl⟩))) (fun _=>wj (vD (jn (J8 (k:=true) z.isinstance rfl (y7 (pq 2 rfl) yx rfl) (J7 rfl z.tuple kG (v:=.ty "tuple") rfl) rfl (by rfl) ?M))))))))
    (fun h=>absurd (show(!true||(!decide ((2:Int)=2)||(!true||!true)))=true from h) ?B) (fun _=>?AR)
   cases q:ZE rs r' with
   |none=>
    have hn:=eA q;rw[md q];refine QT (PW3.t (ko (k':=true) (vD (fG yx (y7 (pq 2 rfl) yx rfl) (zS z.len rfl (pq 0 rfl)))) ?yT)) (fun _=>?_) ?yT
    .rw[YW] at h;simp at h;lia
    .refine ?EB;rfl
    .rw[Bool.or_true] at h;cases h
   |some q2=>
    obtain⟨k,hk1,hk2,hk3⟩:=vF q;rw[m6 q];refine QT (PW3.t (ko (vD (fG yx (y7 (pq 2 rfl) yx rfl) (zS z.len rfl (pq 0 rfl)))) (fun _=>wj (ql (Hz (y7 (Zo (d:=zo q2) (pq 0 rfl) (y7 (pq 2 rfl) yx rfl) (mN q)) yx rfl) (pq 1 rfl)))))) ?yT ?yT
    .have e4:decide (q2.1=y)=false:=by
      rw[YW] at h;have e5:(decide ((0:Int)<=r')&&decide (r'<(rs.length:Int)))=true:=by rw[hk1];simp;lia
      rw[e5] at h;simpa using h
     rw[e4];refine ?EB;rfl
    .have e4:decide (q2.1=y)=true:=by
      rw[YW] at h;have e5:(decide ((0:Int)<=r')&&decide (r'<(rs.length:Int)))=true:=by rw[hk1];simp;lia
      rw[e5] at h;simpa using h
     rw[e4,Bool.true_and];refine ?AR;refine YM (i:=3) zp.nd rfl (.inl rfl) (y7 (Zo (d:=zo q2) (pq 0 rfl) (y7 (pq 2 rfl) yx rfl) ?_) yx rfl) ?_
     .exact mN q
     refine QT (ql (BL (jb (ds:=q2.2.1.map D.str) z.len rfl (pq 3 rfl)) (jb z.len rfl (y7 (pq 2 rfl) yx rfl)))) ?yT ?yT
     .rw[yf,eQ] at h;have e6:decide (ps.length=q2.2.1.length)=false:=by simp at h ⊢;lia
      rw[e6];refine ?EB;rfl
     .rw[yf,eQ] at h;have e6:ps.length=q2.2.1.length:=by simp at h;lia
      rw[yK e6,Bool.true_and];refine ?AR;rw[dpH] at hd;refine jo PassesOwn.never rfl (FR z.zip rfl (ds:=q2.2.1.map D.str) (pq 3 rfl) (y7 (pq 2 rfl) yx rfl)) (fun i Γ _=>∃ a b,Γ=[some (.lst ?AP),some (.str y),some (.tup [.int r',.tup (xK ps)]),some (y9 q2.2.1),a,b]/\Xs rs ((q2.2.1.zip ps).take i)=true) ⟨none,none,rfl,rfl⟩ ?_ ?_
      .rintro i dd Γ Ω hdd ⟨a,b,rfl,ha⟩;rw[mU,yC] at hdd;obtain⟨⟨x,u⟩,hxu,rfl⟩:=Yt.mp hdd;have hu:u∈ps:=(Qu (yr hxu)).2;have hdu:=eG hu;obtain⟨m,rfl⟩:∃ m,n=m+1:=⟨n - 1,?A⟩
       have ih':=ih m (Nat.lt_succ_self m);refine⟨_,(kL rfl (qR (Yn (i:=4) zp.nd rfl (.inl rfl)) (qR (Yn (i:=5) zp.nd rfl (.inl rfl)) vb))),?_⟩;refine QT (vD (jn (Yk (d:=.bl (zZ rs u x)) ih' ?Aq rfl (yb (pq 0 rfl) (yb (pq 4 rfl) (yb (pq 5 rfl) yq))) ⟨rs,x,u,rfl,rfl,?A,hl⟩))) ?yT ?yT
       .rw[Bool.not_eq_true'] at h;have e7:Xs rs (q2.2.1.zip ps)=false:=by
         unfold Xs;rw[List.all_eq_false];exact⟨(x,u),yr hxu,by rw[h];simp⟩
        rw[e7];refine ?EB;rfl
       .rw[Bool.not_eq_false'] at h;refine y8 (y8 ⟨_,_,rfl,?_⟩);rw[Yl hxu,tu,ha,tL,h];rfl
      .rintro Γ Ω ⟨a,b,rfl,ha⟩;rw[mU,yf,yM] at ha;rw[ha];refine ?EB;rfl
end
section
theorem fI (z:?AK)(d:Yo K mg "_law_most" z9 ["_law_box", "_law_body", "_law_i", "_law_j"])(ZD:?H2):∀ n,OkF P w K mg base CX0 (36+n) "_law_most" ["_law_box", "_law_body", "_law_i", "_law_j"] (spP K 4 (Cu n)):=by
 intro n
 induction n with
 |zero=>
  refine YJ (k:=35) d zb rfl fun f cdv A outer s H E hr ds r hC B hB=>?_;obtain⟨rs,row,b,i,j,rfl,rfl,hn,hij,hj,g,h4⟩:=hC;have b0':b=[]:=qr.mp ?A;subst b0';refine QT (ql (XH hr.units (pq 1 rfl) (qM yq) ?_ ?_)) ?_ ?_
  .exact Kf (b:=[])
  .exact yz k7 ?B
  .intro _;refine YK (Zo (d:=.lst ?xT) (km (yb (km yq) (yb (km (yb (jS (d:=sh 1) (qM ?DH) rfl) yq)) yq))) (dr z.int rfl (vZ (v8 (pq 2 rfl) (pq 3 rfl)))) EO) ?_;exact Ao
  .intro hk;rw[xR] at hk;simp at hk
 |succ n ih=>
  refine YJ (k:=36+n) d zb rfl fun f cdv A outer s H E hr ds r hC B hB=>?_;obtain⟨rs,row,b,i,j,rfl,rfl,hn,hij,hj,g,h4⟩:=hC;have wl:=g.wl;refine QT (ql (XH hr.units (pq 1 rfl) (qM yq) ?_ ?_)) ?_ ?_
  .exact Kf (b:=[])
  .exact yz k7 ?B
  .intro hk;rw[xR] at hk;have b0':b=[]:=of_decide_eq_true hk;subst b0';refine YK (Zo (d:=.lst ?xT) (km (yb (km yq) (yb (km (yb (jS (d:=sh 1) (qM ?DH) rfl) yq)) yq))) (dr z.int rfl (vZ (v8 (pq 2 rfl) (pq 3 rfl)))) EO) ?_;exact Ao
  .intro hk;rw[xR] at hk;have b1:b≠[]:=of_decide_eq_false hk;obtain⟨x,xs,rfl⟩:=List.exists_cons_of_ne_nil b1;rw[yi] at hn;refine ?AR;refine YM (i:=4) zb.nd rfl (.inl rfl) (km yq) ?_;refine jo PassesOwn.never rfl (kZ (n:=nP (xs.length+1) i j) (lo:=i+1) z.range rfl (J0 (pq 2 rfl) yx) (J0 (dL (pq 3 rfl) (jb z.len rfl (pq 1 rfl))) yx) ?_ ?_ ?_) (fun c Γ Ω=>∃ (x5 x6:Option D),Γ=[some ?F6,some (y9 (x::xs)),some (.int (i:Int)),some (.int (j:Int)),some (.lst ((mLt rs row x xs i j c).map sh)),x5,x6]/\Ω=[]) ⟨_,_,rfl,rfl⟩ ?_ ?_
   .push_cast;lia
   .rw[yf];unfold nP;simp only[yi];lia
   .rw[yf];simp only[yi];lia
   .rintro c d Γ Ω hd ⟨x5,x6,rfl,rfl⟩;obtain⟨hc,rfl⟩:=zu hd;have hcj:i+1+c+xs.length<=j:=by unfold nP at hc;lia
    have wz:=my g (x:=x) (i:=i) (j:=i+1+c) ?A ?A;obtain⟨y,hy⟩:∃ y,row[i]?=some y:=⟨_,yj ?A⟩
    have ay:atI (row.map D.str) (i:Int)=some (.str y):=Jo (by rw[yC,hy];rfl)
    have bg:=FL (rs:=rs) (row:=row) (x:=x) (i:=i) (j:=i+1+c) ?A ?A;have ms:=fH (rs:=rs) (row:=row) (x:=x) (xs:=xs) (i:=i) (j:=j) (n:=c);have ml:=nJ (rs:=rs) (row:=row) (x:=x) (xs:=xs) (i:=i) (j:=j) ?A (n:=c) (by unfold nP at hc;lia);have me:=mW g (b:=xs) (i:=i+1+c) (j:=j) ?A hj;have mn:=lx (w:=?E0) (b:=xs) (i:=i+1+c) (j:=j) ?A;have m0:mlD rs row xs (i+1+c) j=.lst ((mL (wB rs row) xs (i+1+c) j).map sh):=rfl;have p4:5 ^ xs.length<=5 ^ 3:=YD ?B ?A;generalize wB rs row x i (i+1+c)=q at *;generalize mL ?E0 xs (i+1+c) j=L at *;generalize mLt rs row x xs i j c=O at *;refine⟨_,(Yn (i:=5) zb.nd rfl (.inl rfl)),?_⟩;refine YM (i:=6) (d:=sh q) zb.nd rfl (.inr rfl) (jS (aX (k:=kS (x,i,i+1+c)) hr.units (dZ (k:=jz "found") (d:=?E8) hr.units (pq 0 rfl) K4 rfl) (yb (y7 (d:=.str x) (pq 1 rfl) yx (Jo (j:=0) rfl)) (yb (pq 2 rfl) (yb (pq 5 rfl) yq))) (jS (d:=sh (if i+1+c=i+1/\row[i]?=some x then 1 else 0)) (qM (yb (dr z.int rfl (uY (vZ (v8 (pq 5 rfl) (J0 (pq 2 rfl) yx))) fun _=>wO (vZ (X4 (y7 (d:=.str y) (dZ (k:=jz "row") (d:=?Ah) hr.units (pq 0 rfl) K4 rfl) (pq 2 rfl) ay) (y7 (d:=.str x) (pq 1 rfl) yx (Jo (j:=0) rfl)))))) (yb yx yq))) ?_)) bg) ?_
    .rw[hy];by_cases e1:c=0
     .by_cases e2:y=x
      .simp[e1,e2];rfl
      .simp[e1,e2];rfl
     .have:¬ (((i+1+c:Nat):Int)=(i:Int)+1):=by lia
      rw[yu this,Bool.false_and,yd (fun z:i+1+c=i+1/\_=>e1 ?A),yd ?B];rfl
    refine QT (ql (o6 (y7 (d:=.int q.num) (pqc 6 rfl) yx rfl) yx)) (fun hk=>?_) (fun hk=>?_)
    .have hk:decide (0<q.num)=true:=hk;rw[Cw wz.1] at hk;rw[yc (of_decide_eq_true hk)] at ms;have lt:∀ k,(L.take k).length<=125:=fun k=>yz (List.length_take_le' k L) (yz mn p4)
     refine YM (i:=4) zb.nd rfl (.inl rfl) (aK (pq 4 rfl) (PF3.p (jX (SX:=yp z9) (XN:=["_law_box", "_law_body", "_law_i", "_law_j", "_law_out", "_law_cut", "_law_first"]) (N:=["_law_rest", "_law_first"]) (nt:=1) (caps:=[6]) (pre:=(fun i=>(L.take i).map fun a=>sh (q*a))) ⟨rfl,?D,?D,?D,rfl,?D⟩ (Qy (Yk (d:=.lst (L.map sh)) ih ?Aq rfl (yb (pq 0 rfl) (yb (uT (pq 1 rfl) (vH yx) Kg ?_) (yb (pq 5 rfl) (yb (pq 3 rfl) yq)))) ?_)) ?_ ?_ ?_)) ?_) ?_
     .rintro⟨h1,_⟩;simp[HT.sIx] at h1
     .have e:=uD (ds:=(x::xs).map D.str) (k:=1) (by simp);refine⟨rs,row,xs,i+1+c,j,?_,m0.symm,?A,?A,hj,g,?A⟩;rw[show(some (1:Int))=some ((1:Nat):Int) from rfl,e];rfl
     .intro k _;rw[yf,sizeLine_eq];have:=lt k;lia
     .rfl
     .intro c2 k d hd';obtain⟨a,ha,rfl⟩:=VQ hd';have az:=me a (yr ha);refine⟨_,(Yn (i:=0) (show List.Nodup (α:=Str) ["_law_rest", "_law_first"] by decide +kernel) rfl (.inl rfl)),(Sub.set rfl),.inl ⟨sh (q*a),zB,(Yk ZD ?Aq rfl (yb (pqc 1 rfl) (yb (pq 0 rfl) yq)) ?_),?_⟩⟩
      .refine⟨_,_,200000,200000*xs.length+1,rfl,rfl,wz.1,az.1,wz.2,az.2.2,?B,?_,?Bi⟩;have:big=67108864:=rfl;lia
      show(L.take (k+1)).map (fun a=>sh (q*a))=(L.take k).map (fun a=>sh (q*a))++[sh (q*a)]
      rw[Yl ha,yH];rfl
     .rw[yf,yf,yf,sizeLine_eq];have:=lt L.length;have c5:c<=5:=by unfold nP at hc;lia
      have:=qa c5 p4;lia
     refine y8 (y8 ⟨some (.int ((i+1+c:Nat):Int)),some (sh q),?_,rfl⟩);rw[ms,yf,yM,yH,qd];rfl
    .have hk:decide (0<q.num)=false:=hk;rw[Cw wz.1] at hk;rw[yd (of_decide_eq_false hk),Yq] at ms;refine y8 (y8 ⟨some (.int ((i+1+c:Nat):Int)),some (sh q),?_,rfl⟩);rw[ms];rfl
   .rintro Γ Ω ⟨x5,x6,rfl,rfl⟩;rw[jF];refine YK (pq 4 rfl) ?_;unfold mlD;rw[mL];rfl
end
section
theorem DO (ht:?jC)(z:?AK)(yZ:?X)(zQ:?wL)(zL:qV K mg "MOST_RULES" (.int 30))(JG:qV K mg "MOST_SYMBOLS" (.int 4))(Q9:qV K mg "MOST_LETTERS" (.int 8))(yS:?Ba)(wy:vz K mg "Grammar" C_Grammar "Grammar.__init__" Qr ["self", "start", "rules"])(ZN:Y5 K C_Grammar "start" "Grammar.start" jg ["self"])(ZI:Y5 K C_Grammar "rules" "Grammar.rules" jd ["self"])(ZJ:Y5 K C_Grammar "heads" "Grammar.heads" jf ["self"])(vj:Y5 K C_Grammar "live" "Grammar.live" jK ["self"])(Yp:?Ce)(lO:vz K mg "Sums" C_Sums "Sums.__init__" Qm ["self", "grammar", "row"])(vQ:Y5 K C_Sums "within" "Sums.within" j9 ["self", "head", "i", "j"])(kh:Y5 K C_Sums "whole" "Sums.whole" JK ["self"])(vP:Y5 K C_Sums "settle" "Sums.settle" ju ["self", "i", "j"])(vh:Y5 K C_Sums "ends_at" "Sums.ends_at" jJ ["self", "i", "j"])(kd:Y5 K C_Sums "worth" "Sums.worth" JO ["self", "symbol", "i", "j"])(JF:Y5 K C_Sums "worth_of_body" "Sums.worth_of_body" qX ["self", "body", "i", "j"])(j3:?xS)(Yd:?Cd)(dy:vz K mg "Bests" C_Bests "Bests.__init__" QZ ["self", "grammar", "row"])(kg:Y5 K C_Bests "best" "Bests.best" JI ["self", "head", "i", "j"])(zG:Y5 K C_Bests "try_rules" "Bests.try_rules" QF ["self", "i", "j"])(Ze:Y5 K C_Bests "try_rule" "Bests.try_rule" QY ["self", "number", "i", "j"])(JH:Y5 K C_Bests "best_parting" "Bests.best_parting" qY ["self", "body", "i", "j"])(jy:?uG)(zK:Y5 K C_Bests "best_part" "Bests.best_part" QE ["self", "symbol", "i", "j"])(Zf:Yo K mg "common_divisor" Q1 ["one", "other"])(dC:Yo K mg "share" VY ["top", "bottom"])(dw:Yo K mg "added" VA ["one", "other"])(wD:Yo K mg "is_less" ZZ ["one", "other"])(uy:Yo K mg "lessened" Zc ["one", "other"])(dA:Yo K mg "timed" KH ["one", "other"])(Xk:Yo K mg "parted" vY ["one", "other"])(zJ:Yo K mg "sum_of_products" Qd ["pairs"])(wr:Yo K mg "cleared" ZY ["row", "k"])(Zd:Yo K mg "without_itself" Qq ["row", "k"])(Xj:Yo K mg "put_in" vd ["row", "k", "found"])(vT:Yo K mg "solved_rows" Qv ["ways", "ends"])(vV:Yo K mg "check_rules" Jb ["rules"])(V8:Yo K mg "check_rule" JN ["rule"])(vk:Yo K mg "check_symbol" jL ["text"])(Kr:Yo K mg "is_symbol" Jw ["text"])(Kz:Yo K mg "is_letter" za ["sign"])(vO:Yo K mg "check_start" Jd ["start", "heads"])(V9:Yo K mg "check_sums" JL ["heads", "rules"])(uu:Yo K mg "heads_of" Za ["rules"])(wA:Yo K mg "live_of" zU ["heads", "rules"])(ZH:Yo K mg "has_live_body" QJ ["head", "rules", "heads", "live"])(vi:Yo K mg "is_live_body" Q8 ["body", "heads", "live"])(Ku:Yo K mg "stretches" JC ["row"])(ka:Yo K mg "live_rules" JP ["grammar"])(wC:Yo K mg "is_step" Vb ["rule", "heads"])(Km:Yo K mg "chains_of" JD ["heads", "steps"])(Xl:Yo K mg "bounds" Vv ["grammar", "row"])(Kq:Yo K mg "best_tree" zd ["grammar", "row"])(vU:Yo K mg "_law_cell_at" JZ ["_law_script", "_law_k"])(ux:Yo K mg "_law_dice" vg ["_law_cell"])(uw:Yo K mg "_law_roll" Z5 ["_law_dice_here", "_law_most_here"])(KB:Yo K mg "_law_whole" Zz ["_law_found"])(vS:Yo K mg "_law_symbols" j8 ["_law_cell", "_law_many"])(Ks:Yo K mg "_law_share" ze ["_law_top", "_law_bottom"])(Kl:Yo K mg "_law_timed" ZA ["_law_one", "_law_other"])(kf:Yo K mg "_law_bodies" zl ["_law_dice_here", "_law_heads", "_law_words_here", "_law_first"])(Ky:Yo K mg "_law_rules" zk ["_law_dice_here", "_law_heads", "_law_words_here"])(uA:Yo K mg "_law_made" vc ["_law_cell", "_law_other", "_law_most_here"])(ww:Yo K mg "_law_row" Z1 ["_law_cell", "_law_words_here", "_law_most_here"])(Ko:Yo K mg "_law_words" Zp ["_law_tree_here"])(vm:Yo K mg "_law_share_of" Jx ["_law_rules_here", "_law_tree_here"])(vR:Yo K mg "_law_is_tree" Jf ["_law_rules_here", "_law_symbol", "_law_thing"])(uv:Yo K mg "_law_most" z9 ["_law_box", "_law_body", "_law_i", "_law_j"])(zF:Yo K mg "_law_none_better" jq ["_law_rules_here", "_law_found", "_law_row_here"])(Kt:Yo K mg "_law_given" Zj ["_law_script"])(F:Fun K "law" "law" eM f fd):FnOk P w K mg base CX0 53 f fd ["_law_script"] (UH K):=by
 have q1:=Ud (P:=P) (w:=w) (base:=base) Zf;have q1s:=CB ht dC q1;have q2:=Bu ht dw q1;have s4:=gH (P:=P) (w:=w) (base:=base) wD;have s5:=dW uy q1s s4;have s6:=sq dA q1s;have s7:=pV yZ Xk s6;have s8:=lj (P:=P) (w:=w) (base:=base) yZ wr;have s9:=Uj z yZ zQ Zd s4 s5 s7 s8;have s10:=pb z yZ Xj q2 s6 s8;have s11:=WD z vT s9 s10;have q3:=cF (P:=P) (w:=w) (base:=base) Kz;have q3b:=bD z Q9 Kr q3;have q4:=We z Q9 vk q3b;have q5:=Xo z yZ JG V8 q4;have q6:=xa z zL vV q5;have q7:=xq (P:=P) (w:=w) (base:=base) vO;have q8:=XA yZ zQ V9 q2;have q9:=eU (P:=P) (w:=w) (base:=base) uu;have q10:=Wg (P:=P) (w:=w) (base:=base) z vi;have q11:=UC z ZH q10;have q12:=iP z wA q11;have q13:=iV z yS wy q6 q9 q7 q8 q12;have q14:=UX (mg:=mg) (P:=P) (w:=w) (base:=base) yS ZN;have q15:=Uy (P:=P) (w:=w) (base:=base) z yS ZI;have q16:=U7 (P:=P) (w:=w) (base:=base) z yS ZJ;have q17:=Wc (P:=P) (w:=w) (base:=base) z yS vj;have u1:=ur ht yZ zJ q1 q1s;have u2:=bP (P:=P) (w:=w) (base:=base) z Ku;have u3:=Xq yS ka q16 q17 q15 q10;have u4:=iB (P:=P) (w:=w) (base:=base) z wC;have u5:=c8 z yZ zQ Km s11;have u6:=Xe (P:=P) (w:=w) (base:=base) Yp yZ vQ;have u7:=Xv z Yp yS kh u6 q14;have u8:=XD Yp yZ zQ kd u6;have u9:=VC z Yp yZ JF j3 u8 u1 4;have u10:=wm Yp yZ vh u9 q2 s6;have u11:=wZ Yp yZ vP u10 u1;have u12:=Aj z Yp yS lO q17 u3 q16 u4 u5 u2 u11;have t1:=Xn (P:=P) (w:=w) (base:=base) Yd yZ kg;have t2:=ui Yd yZ zQ zK t1;have t3:=kF z Yd yZ JH jy t2 s6 s4 4;have t4:=Uh Yd Ze t3 t1 s6 s4;have t5:=uh z Yd zG t4;have t6:=tU z Yd yS dy q15 q16 u2 t5;have t7:=pM z Yd yS Xl t6 q16 u2 t1;have t8:=cM z Yd yS Kq yZ t6 q14 t1;have r1:=xu (P:=P) (w:=w) (base:=base) z vU
 have r2:=cZ (P:=P) (w:=w) (base:=base) z KB;have r3:=du (w:=w) (base:=base) ht Ks;have r5:=bh Kl r3;have r7:=fm (P:=P) (w:=w) (base:=base) ux;have r8:=eP (P:=P) (w:=w) (base:=base) uw;have r9:=xI (w:=w) (base:=base) ht z vS;have r10:=Xr z kf r8;have r11:=bB z Ky r8 r10 r3;have r12:=eC z uA r9 r7 r8 r11;have r14:=i8 z ww r7 r8;have v1:=bN (P:=P) (w:=w) (base:=base) z Ko 15;have v2:=wV z vm r5 15;have v3:=W0 z vR r2 15;have v4:=fI z uv r5 4;have v5:=uc z zF v4 r5;have v6:=cW z Kt r1 r12 r14;exact Gn z yS Yp F r1 v6 q13 u12 u7 t7 t8 v3 v1 v2 v5
end
end Law
namespace L3
open PySem
theorem VU {us:?AY}(e:us.length=1):∃ a,us=[a]:=QA.mp e
theorem ZR {us:?AY}(e:us.length=2):∃ a b,us=[a,b]:=by
 cases us with
 |nil=>cases e
 |cons a r=>obtain⟨b,h⟩:=VU ?Jb;exact⟨a,b,by rw[h]⟩
theorem Uk {us:?AY}(e:us.length=3):∃ a b c,us=[a,b,c]:=by
 cases us with
 |nil=>cases e
 |cons a r=>obtain⟨b,c,h⟩:=ZR ?Jb;exact⟨a,b,c,by rw[h]⟩
theorem wU {us:?AY}(e:us.length=4):∃ a b c d,us=[a,b,c,d]:=by
 cases us with
 |nil=>cases e
 |cons a r=>obtain⟨b,c,d,h⟩:=Uk ?Jb;exact⟨a,b,c,d,by rw[h]⟩
end L3
namespace Law
open PySem L2 L3
theorem walk {l:W.OpenLaw}{q:?AA}{loose:?A1}{XP:?J->Heap->Prop}{YP:World->Heap->Prop}{d:DefRec}{K:Params->W.Frag}(hn:l.most=some 63)(hi:PyProof.Rows.importsNone q=true)(hdf:d.params.defaults=[])
  (hY:∀ (w:World) (h:Heap),YP w h->(?C7).In h)
  (F:∀ (w:World) (mg:Str->Option Value) (fa:Addr) (h:Heap),(?C7).In h->h.Ns mainGlobals mg->mg d.name=some ?EI->
   ∃ fd:FuncData,(∀ (s:Shared) (u:Value),BindsTo s fd ⟨[u],[]⟩ [("_law_script", u)])/\∀ base:Heap,(?C7).In base->base.Ns mainGlobals mg->FnOk l.prog w ?C7 mg base CX0 53 fa fd ["_law_script"] (UH ?C7)) :
  W.WalkO q loose XP YP l.row.toRowW d [] (fun f vs=>?JP):=
 L2.DI (n:=63) (k:=53) (x:="_law_script") (CX:=fun _=>CX0) (sp:=fun w=>UH ?C7) hn ?B hi hdf ⟨rfl,?B,?B⟩ hY F (fun _ _ a ns hl _ hS=>Dz hl hS) fun _ _ _ _ _ z=>z
end Law
open PySem PySem.W PyProof.Rows
set_option maxRecDepth 100000 in
set_option maxHeartbeats 0 in
theorem PySem.Challenge.cw_scoreflow_k16_whole_best_tree_holds : PySem.Challenge.rw_scoreflow_k16_whole_best_tree.Holds := by
 w_on;refine PySem.W.holds_law Law.Ij fun said=>?_
 refine PySem.W.holds_open (q:=Law.iM) (loose:=[]) (Xt:=fun s=>PySem.W.xlAt Law.iM [] s&&PySem.W.recOk [] s) (XP:=PySem.W.XL Law.iM [])
  (Yf:=(?FT).obs) (Ya:=(?FT).val) (YP:=(?FT).says) (N:=?jW) Law.hl (?FT).of (?FT).keeps
  (fun s e=>PySem.W.xl_of s (?Le).1) PySem.W.XL.keeps (by rfl) (by rfl) (by rfl) (fun s e=>PySem.W.recFacts_of (?Le).2) ?d4 ?d5 ?d6 ⟨rfl,rfl,rfl,rfl,rfl,?D⟩ ?hw ?hc
 case d4=>rfl
 case d5=>first|assumption|decide +kernel
 case d6=>decide +kernel
 case hw=>w_witness2
 k_fill
 refine Law.walk (l:=PySem.Challenge.rw_scoreflow_k16_whole_best_tree) rfl ?hi rfl (fun w h Y=>PySem.W.kIn_of Y) ?F
 case hi=>decide +kernel
 case F=>
  intro w mg fa h KX G hmg;have Zf:L2.Yo (L2.KOf KX) mg "common_divisor" Law.Q1 ["one", "other"]:=?P
  have dC:L2.Yo (L2.KOf KX) mg "share" Law.VY ["top", "bottom"]:=?P
  have dw:L2.Yo (L2.KOf KX) mg "added" Law.VA ["one", "other"]:=?P
  have wD:L2.Yo (L2.KOf KX) mg "is_less" Law.ZZ ["one", "other"]:=?P
  have uy:L2.Yo (L2.KOf KX) mg "lessened" Law.Zc ["one", "other"]:=?P
  have dA:L2.Yo (L2.KOf KX) mg "timed" Law.KH ["one", "other"]:=?P
  have Xk:L2.Yo (L2.KOf KX) mg "parted" Law.vY ["one", "other"]:=?P
  have zJ:L2.Yo (L2.KOf KX) mg "sum_of_products" Law.Qd ["pairs"]:=?zR
  have wr:L2.Yo (L2.KOf KX) mg "cleared" Law.ZY ["row", "k"]:=?P
  have Zd:L2.Yo (L2.KOf KX) mg "without_itself" Law.Qq ["row", "k"]:=?P
  have Xj:L2.Yo (L2.KOf KX) mg "put_in" Law.vd ["row", "k", "found"]:=?qS
  have vT:L2.Yo (L2.KOf KX) mg "solved_rows" Law.Qv ["ways", "ends"]:=?P
  have vV:L2.Yo (L2.KOf KX) mg "check_rules" Law.Jb ["rules"]:=?zR
  have V8:L2.Yo (L2.KOf KX) mg "check_rule" Law.JN ["rule"]:=?zR
  have vk:L2.Yo (L2.KOf KX) mg "check_symbol" Law.jL ["text"]:=?zR
  have Kr:L2.Yo (L2.KOf KX) mg "is_symbol" Law.Jw ["text"]:=?zR
  have Kz:L2.Yo (L2.KOf KX) mg "is_letter" Law.za ["sign"]:=?zR
  have vO:L2.Yo (L2.KOf KX) mg "check_start" Law.Jd ["start", "heads"]:=?P
  have V9:L2.Yo (L2.KOf KX) mg "check_sums" Law.JL ["heads", "rules"]:=?P
  have uu:L2.Yo (L2.KOf KX) mg "heads_of" Law.Za ["rules"]:=?zR
  have wA:L2.Yo (L2.KOf KX) mg "live_of" Law.zU ["heads", "rules"]:=?P
  have ZH:L2.Yo (L2.KOf KX) mg "has_live_body" Law.QJ ["head", "rules", "heads", "live"]:=?xI
  have vi:L2.Yo (L2.KOf KX) mg "is_live_body" Law.Q8 ["body", "heads", "live"]:=?qS
  have Ku:L2.Yo (L2.KOf KX) mg "stretches" Law.JC ["row"]:=?zR
  have ka:L2.Yo (L2.KOf KX) mg "live_rules" Law.JP ["grammar"]:=?zR
  have wC:L2.Yo (L2.KOf KX) mg "is_step" Law.Vb ["rule", "heads"]:=?P
  have Km:L2.Yo (L2.KOf KX) mg "chains_of" Law.JD ["heads", "steps"]:=?P
  have Xl:L2.Yo (L2.KOf KX) mg "bounds" Law.Vv ["grammar", "row"]:=?P
  have Kq:L2.Yo (L2.KOf KX) mg "best_tree" Law.zd ["grammar", "row"]:=?P
  have vU:L2.Yo (L2.KOf KX) mg "_law_cell_at" Law.JZ ["_law_script", "_law_k"]:=?P
  have ux:L2.Yo (L2.KOf KX) mg "_law_dice" Law.vg ["_law_cell"]:=?zR
  have uw:L2.Yo (L2.KOf KX) mg "_law_roll" Law.Z5 ["_law_dice_here", "_law_most_here"]:=?P
  have KB:L2.Yo (L2.KOf KX) mg "_law_whole" Law.Zz ["_law_found"]:=?zR
  have vS:L2.Yo (L2.KOf KX) mg "_law_symbols" Law.j8 ["_law_cell", "_law_many"]:=?P
  have Ks:L2.Yo (L2.KOf KX) mg "_law_share" Law.ze ["_law_top", "_law_bottom"]:=?P
  have Kl:L2.Yo (L2.KOf KX) mg "_law_timed" Law.ZA ["_law_one", "_law_other"]:=?P
  have kf:L2.Yo (L2.KOf KX) mg "_law_bodies" Law.zl ["_law_dice_here", "_law_heads", "_law_words_here", "_law_first"]:=?xI
  have Ky:L2.Yo (L2.KOf KX) mg "_law_rules" Law.zk ["_law_dice_here", "_law_heads", "_law_words_here"]:=?qS
  have uA:L2.Yo (L2.KOf KX) mg "_law_made" Law.vc ["_law_cell", "_law_other", "_law_most_here"]:=?qS
  have ww:L2.Yo (L2.KOf KX) mg "_law_row" Law.Z1 ["_law_cell", "_law_words_here", "_law_most_here"]:=?qS
  have Ko:L2.Yo (L2.KOf KX) mg "_law_words" Law.Zp ["_law_tree_here"]:=?zR
  have vm:L2.Yo (L2.KOf KX) mg "_law_share_of" Law.Jx ["_law_rules_here", "_law_tree_here"]:=?P
  have vR:L2.Yo (L2.KOf KX) mg "_law_is_tree" Law.Jf ["_law_rules_here", "_law_symbol", "_law_thing"]:=?qS
  have uv:L2.Yo (L2.KOf KX) mg "_law_most" Law.z9 ["_law_box", "_law_body", "_law_i", "_law_j"]:=?xI
  have zF:L2.Yo (L2.KOf KX) mg "_law_none_better" Law.jq ["_law_rules_here", "_law_found", "_law_row_here"]:=?qS
  have Kt:L2.Yo (L2.KOf KX) mg "_law_given" Law.Zj ["_law_script"]:=?zR
  have Le:mg "len" = none:=by refine' ?B6;k_is
  have EC:mg "range" = none:=by refine' ?B6;k_is
  have Hu:mg "list" = none:=by refine' ?B6;k_is
  have EB:mg "tuple" = none:=by refine' ?B6;k_is
  have La:mg "int" = none:=by refine' ?B6;k_is
  have Ht:mg "bool" = none:=by refine' ?B6;k_is
  have Lc:mg "str" = none:=by refine' ?B6;k_is
  have Hs:mg "dict" = none:=by refine' ?B6;k_is
  have dD:mg "isinstance" = none:=by refine' ?B6;k_is
  have Lb:mg "sum" = none:=by refine' ?B6;k_is
  have gy:mg "enumerate" = none:=by refine' ?B6;k_is
  have I0:mg "zip" = none:=by refine' ?B6;k_is
  have dF:mg "ValueError" = none:=by refine' ?B6;k_is
  have IZ:mg "all" = none:=by refine' ?B6;k_is
  have Ld:mg "any" = none:=by refine' ?B6;k_is
  have lN:mg "reversed" = none:=by refine' ?B6;k_is
  have z:L3.Zs mg:=⟨Le,EC,Hu,EB,La,Ht,Lc,Hs,dD,Lb,gy,I0,dF,IZ,Ld,lN⟩
  have yZ:L3.qV (L2.KOf KX) mg "NOUGHT" (L3.sh 0):=by
   dsimp only[L2.KOf];refine' L3.d9 KX G ?a ?l
   case a|l=>k_is
  have zQ:L3.qV (L2.KOf KX) mg "ONE" (L3.sh 1):=by
   dsimp only[L2.KOf];refine' L3.d9 KX G ?a ?l
   case a|l=>k_is
  have zL:L3.qV (L2.KOf KX) mg "MOST_RULES" (.int 30):=by
   dsimp only[L2.KOf];refine' ?Jn
   case a=>k_is
  have JG:L3.qV (L2.KOf KX) mg "MOST_SYMBOLS" (.int 4):=by
   dsimp only[L2.KOf];refine' ?Jn
   case a=>k_is
  have Q9:L3.qV (L2.KOf KX) mg "MOST_LETTERS" (.int 8):=by
   dsimp only[L2.KOf];refine' ?Jn
   case a=>k_is
  have cc_Grammar:∃ C,L3.ClsG ?Ac C/\L2.vz ?Ac mg "Grammar" C "Grammar.__init__" Law.Qr ["self", "start", "rules"]/\L2.Y5 ?Ac C "start" "Grammar.start" Law.jg ["self"]/\L2.Y5 ?Ac C "rules" "Grammar.rules" Law.jd ["self"]/\L2.Y5 ?Ac C "heads" "Grammar.heads" Law.jf ["self"]/\L2.Y5 ?Ac C "live" "Grammar.live" Law.jK ["self"]:=by
   dsimp only[L2.KOf];refine' ⟨_,L3.D6 ?pg ?hd ?po ?sa ?n0 ?n1 ?n2 ?n3,L2.cy KX G ["self", "start", "rules"] ?g ?a ?mk ?i ?kc ?l ?c ?k ?b,L2.jp ["self"] ?a0 ?i0 ?l0 ?c0 ?k0 ?b0,L2.jp ["self"] ?a1 ?i1 ?l1 ?c1 ?k1 ?b1,L2.jp ["self"] ?a2 ?i2 ?l2 ?c2 ?k2 ?b2,L2.jp ["self"] ?a3 ?i3 ?l3 ?c3 ?k3 ?b3⟩
   case g|a|mk|i|kc|l|c|k=>k_is
   (case b=>intro _ _ _ _ _ _ us hl;obtain⟨_,_,_,rfl⟩:=L3.Uk hl;rfl)
   case pg|hd|po|sa|n0|n1|n2|n3|a0|i0|l0|c0|k0=>k_is
   (case b0=>intro _ _ _ _ _ _ us hl;obtain⟨_,rfl⟩:=L3.VU hl;rfl)
   case a1|i1|l1|c1|k1=>k_is
   (case b1=>intro _ _ _ _ _ _ us hl;obtain⟨_,rfl⟩:=L3.VU hl;rfl)
   case a2|i2|l2|c2|k2=>k_is
   (case b2=>intro _ _ _ _ _ _ us hl;obtain⟨_,rfl⟩:=L3.VU hl;rfl)
   case a3|i3|l3|c3|k3=>k_is
   (case b3=>intro _ _ _ _ _ _ us hl;obtain⟨_,rfl⟩:=L3.VU hl;rfl)
  obtain⟨C_Grammar,yS,wy,ZN,ZI,ZJ,vj⟩:=cc_Grammar;have cc_Sums:∃ C,L3.ClsS ?Ac C/\L2.vz ?Ac mg "Sums" C "Sums.__init__" Law.Qm ["self", "grammar", "row"]/\L2.Y5 ?Ac C "within" "Sums.within" Law.j9 ["self", "head", "i", "j"]/\L2.Y5 ?Ac C "whole" "Sums.whole" Law.JK ["self"]/\L2.Y5 ?Ac C "settle" "Sums.settle" Law.ju ["self", "i", "j"]/\L2.Y5 ?Ac C "ends_at" "Sums.ends_at" Law.jJ ["self", "i", "j"]/\L2.Y5 ?Ac C "worth" "Sums.worth" Law.JO ["self", "symbol", "i", "j"]/\L2.Y5 ?Ac C "worth_of_body" "Sums.worth_of_body" Law.qX ["self", "body", "i", "j"]/\L2.Y5 ?Ac C "sum_of_partings" "Sums.sum_of_partings" Law.qg ["self", "body", "i", "j"]:=by
   dsimp only[L2.KOf];refine' ⟨_,L3.El ?pg ?hd ?po ?sa ?n0 ?n1 ?n2 ?n3 ?n4 ?n5 ?n6,L2.cy KX G ["self", "grammar", "row"] ?g ?a ?mk ?i ?kc ?l ?c ?k ?b,L2.jp ["self", "head", "i", "j"] ?a0 ?i0 ?l0 ?c0 ?k0 ?b0,L2.jp ["self"] ?a1 ?i1 ?l1 ?c1 ?k1 ?b1,L2.jp ["self", "i", "j"] ?a2 ?i2 ?l2 ?c2 ?k2 ?b2,L2.jp ["self", "i", "j"] ?a3 ?i3 ?l3 ?c3 ?k3 ?b3,L2.jp ["self", "symbol", "i", "j"] ?a4 ?i4 ?l4 ?c4 ?k4 ?b4,L2.jp ["self", "body", "i", "j"] ?a5 ?i5 ?l5 ?c5 ?k5 ?b5,L2.jp ["self", "body", "i", "j"] ?a6 ?i6 ?l6 ?c6 ?k6 ?b6⟩
   case g|a|mk|i|kc|l|c|k=>k_is
   (case b=>intro _ _ _ _ _ _ us hl;obtain⟨_,_,_,rfl⟩:=L3.Uk hl;rfl)
   case pg|hd|po|sa|n0|n1|n2|n3|n4|n5|n6|a0|i0|l0|c0|k0=>k_is
   (case b0=>intro _ _ _ _ _ _ us hl;obtain⟨_,_,_,_,rfl⟩:=L3.wU hl;rfl)
   case a1|i1|l1|c1|k1=>k_is
   (case b1=>intro _ _ _ _ _ _ us hl;obtain⟨_,rfl⟩:=L3.VU hl;rfl)
   case a2|i2|l2|c2|k2=>k_is
   (case b2=>intro _ _ _ _ _ _ us hl;obtain⟨_,_,_,rfl⟩:=L3.Uk hl;rfl)
   case a3|i3|l3|c3|k3=>k_is
   (case b3=>intro _ _ _ _ _ _ us hl;obtain⟨_,_,_,rfl⟩:=L3.Uk hl;rfl)
   case a4|i4|l4|c4|k4=>k_is
   (case b4=>intro _ _ _ _ _ _ us hl;obtain⟨_,_,_,_,rfl⟩:=L3.wU hl;rfl)
   case a5|i5|l5|c5|k5=>k_is
   (case b5=>intro _ _ _ _ _ _ us hl;obtain⟨_,_,_,_,rfl⟩:=L3.wU hl;rfl)
   case a6|i6|l6|c6|k6=>k_is
   (case b6=>intro _ _ _ _ _ _ us hl;obtain⟨_,_,_,_,rfl⟩:=L3.wU hl;rfl)
  obtain⟨C_Sums,Yp,lO,vQ,kh,vP,vh,kd,JF,j3⟩:=cc_Sums;have cc_Bests:∃ C,L3.ClsB ?Ac C/\L2.vz ?Ac mg "Bests" C "Bests.__init__" Law.QZ ["self", "grammar", "row"]/\L2.Y5 ?Ac C "best" "Bests.best" Law.JI ["self", "head", "i", "j"]/\L2.Y5 ?Ac C "try_rules" "Bests.try_rules" Law.QF ["self", "i", "j"]/\L2.Y5 ?Ac C "try_rule" "Bests.try_rule" Law.QY ["self", "number", "i", "j"]/\L2.Y5 ?Ac C "best_parting" "Bests.best_parting" Law.qY ["self", "body", "i", "j"]/\L2.Y5 ?Ac C "best_of_partings" "Bests.best_of_partings" Law.Y8 ["self", "body", "i", "j"]/\L2.Y5 ?Ac C "best_part" "Bests.best_part" Law.QE ["self", "symbol", "i", "j"]:=by
   dsimp only[L2.KOf];refine' ⟨_,L3.Ek ?pg ?hd ?po ?sa ?n0 ?n1 ?n2 ?n3 ?n4,L2.cy KX G ["self", "grammar", "row"] ?g ?a ?mk ?i ?kc ?l ?c ?k ?b,L2.jp ["self", "head", "i", "j"] ?a0 ?i0 ?l0 ?c0 ?k0 ?b0,L2.jp ["self", "i", "j"] ?a1 ?i1 ?l1 ?c1 ?k1 ?b1,L2.jp ["self", "number", "i", "j"] ?a2 ?i2 ?l2 ?c2 ?k2 ?b2,L2.jp ["self", "body", "i", "j"] ?a3 ?i3 ?l3 ?c3 ?k3 ?b3,L2.jp ["self", "body", "i", "j"] ?a4 ?i4 ?l4 ?c4 ?k4 ?b4,L2.jp ["self", "symbol", "i", "j"] ?a5 ?i5 ?l5 ?c5 ?k5 ?b5⟩
   case g|a|mk|i|kc|l|c|k=>k_is
   (case b=>intro _ _ _ _ _ _ us hl;obtain⟨_,_,_,rfl⟩:=L3.Uk hl;rfl)
   case pg|hd|po|sa|n0|n1|n2|n3|n4|a0|i0|l0|c0|k0=>k_is
   (case b0=>intro _ _ _ _ _ _ us hl;obtain⟨_,_,_,_,rfl⟩:=L3.wU hl;rfl)
   case a1|i1|l1|c1|k1=>k_is
   (case b1=>intro _ _ _ _ _ _ us hl;obtain⟨_,_,_,rfl⟩:=L3.Uk hl;rfl)
   case a2|i2|l2|c2|k2=>k_is
   (case b2=>intro _ _ _ _ _ _ us hl;obtain⟨_,_,_,_,rfl⟩:=L3.wU hl;rfl)
   case a3|i3|l3|c3|k3=>k_is
   (case b3=>intro _ _ _ _ _ _ us hl;obtain⟨_,_,_,_,rfl⟩:=L3.wU hl;rfl)
   case a4|i4|l4|c4|k4=>k_is
   (case b4=>intro _ _ _ _ _ _ us hl;obtain⟨_,_,_,_,rfl⟩:=L3.wU hl;rfl)
   case a5|i5|l5|c5|k5=>k_is
   (case b5=>intro _ _ _ _ _ _ us hl;obtain⟨_,_,_,_,rfl⟩:=L3.wU hl;rfl)
  obtain⟨C_Bests,Yd,dy,kg,zG,Ze,JH,jy,zK⟩:=cc_Bests;refine' L2.Hn (st:=Law.eM) KX G hmg ?a ?l ?c ?k ?b ?ok
  (case a=>k_is);(case l=>k_is);(case c=>k_is);(case k=>k_is)
  (case b=>exact fun _=>rfl)
  (case ok=>
   intro fd base kb nb F;exact Law.DO rfl z yZ zQ zL JG Q9 yS wy ZN ZI ZJ vj Yp lO vQ kh vP vh kd JF j3 Yd dy kg zG Ze JH jy zK Zf dC dw wD uy dA Xk zJ wr Zd Xj vT vV V8 vk Kr Kz vO V9 uu wA ZH vi Ku ka wC Km Xl Kq vU ux uw KB vS Ks Kl kf Ky uA ww Ko vm vR uv zF Kt F)


import PyProof.Rows.All
import Wide.All
import OpenK.AllK
import Wide.FinOn
import PyProof.ReprRoads
import HandS.ForMost
import HandS.ForExc
import PyProof.CallFns
import PyProof.ReprLen
import PyProof.InstNe
import HandS.ExcField
import KE.KExcIs
import HandS.IsInst
import KE.KExcSuper
import HandS.MakeKwOnly
import HandS.Codes
import HandS.Head0
import HandS.Head1
import HandS.Head2
import HandS.HeadEnd
import HandS.HeadHook1
import HandS.HeadHook2
import HandS.More
import HandS.Strs
import HandS.Comp
import HandS.Nested
import HandS.Wide
import HandS.Text
import HandS.Dict
import HandS.TupMul
import PyProof.EqKinds
import PyProof.FactsAll.dict
import KE.DataEq
import HandS.Deep
import HandS.TupAny
import HandS.Iter
import HandS.TryOnly
import HandS.WordsDict
import HandS.WordsExc
import HandS.ExcOwn
import HandS.Zip
import HandS.Small
import KE.KDictZip
import PyProof.ListNew
import PyProof.CollectWalk
import HandS.List
import HandS.Words
import HandS.GenList
import HandS.FStr
import PyProof.StrOps2
import HandS.Style
import HandS.CallLocal
import HandS.DictComp
import HandS.ListItems
import PyProof.DictUpdate
import PyProof.DictDisplay
import HandS.NoneIn
import HandS.Finally
import KE.DataFind
import KE.GoesEnum
import HandS.HeadHook3
import KE.GoesMore
import HandS.EndTab
import HandS.HeadHook4
import KE.KDictDisplayH
import KE.KDictWalk
import HandS.Conv
import HandS.RevTup
import HandS.StrMore
import HandS.Defaults
import HandS.Flow
import HandS.HeadNt
import PyProof.StrBlock2
import PySem.Challenge.RW_wearybeams_k04_what_is_no_world
set_option Elab.async false
set_option linter.all false
set_option maxRecDepth 100000
set_option maxHeartbeats 4000000
namespace L2.Wb
open PySem PySem.Spec PyProof.Rows
/-- as FnOk, called where no repr is under way -/
structure WG (P : Program) (w : World) (K : PySem.W.Frag) (mg : Str → Option Value) (base : Heap) (CX : CXT) (k : Nat) (f : Addr) (fd : FuncData) (ps : List Str) (sp : Sp) : Prop where
  wlen : ∀ vs H Q E, sp vs H Q E → vs.length = ps.length
  wrun : ∀ (A : Around) (out : List Env) (s : Shared) (H : Hp) (ar : Args) (us : List Value) (vs : List V) (Q : VK) (E : XK), A.guards = some [] → Room k A → Env0 P w K mg base A out s H → BindsTo s fd ar (ps.zip us) → Vals vs us → sp vs H Q E →
    codeAny (model P w) A (.call (.ref f) ar) (CR CX out P w H s Q E) s
section
variable {P : Program} {w : World} {K : PySem.W.Frag} {mg : Str → Option Value} {base : Heap} {CX : CXT}
theorem wg_of {k : Nat} {f : Addr} {nm qn : Str} {prm : Arguments} {bd : List Stmt} {sc : Scope} {dV kV doc pm cdv ct oc : Value} {an od : Option Addr} {osl : Array (Option Value)} {N ps : List Str} {sp : Sp}
    (lk : K.lookup f = some ⟨oc, od, .func (PySem.W.fnOf nm qn prm bd sc dV kV doc pm an cdv ct), osl⟩) (hcd : PySem.W.codeIn K cdv qn = true) (S : FnScope N ps sc) (len : ∀ vs H Q E, sp vs H Q E → vs.length = ps.length)
    (hb : ∀ (A : Around) (out : List Env) (s : Shared) (H : Hp) (vs : List V) (Q : VK) (E : XK), A.guards = some [] → Room k (A.deeper (envOfC qn sc s.heap.objs.size f cdv)) → sp vs H Q E →
      ∃ t, PSs (cxOf CX P w K mg base N qn sc f cdv A out s H E) bd t ∧ t { nx := fun _ H' => Q .non H', rt := Q } (start N vs) H) :
    WG P w K mg base CX (k + 1) f (PySem.W.fnOf nm qn prm bd sc dV kV doc pm an cdv ct) ps sp := by
  refine ⟨len, fun A out s H ar us vs Q E hgu hr e0 hbd r hsp => ?_⟩
  have old : ∀ b o, base.get? b = some o → s.heap.get? b = some o := fun b o e => (e0.bs b o e).1
  have KX := e0.mod.kin.keeps old
  have lim := e0.mod.nolimit.keeps old
  refine codeAny_call_function hr.depth (KX _ _ lk) rfl S.co S.gen rfl (PySem.W.codeRec_of KX hcd) (hbd _ _ _ _ ?_)
  refine wpAny_newFunctionEnv_cells S.kind (fun y hy => (S.par y.1 (List.of_mem_zip hy).1).imp id fun q => ⟨q, PySem.W.cellsFrom_some _ _ _ (.inl q)⟩) fun env he s1 x => ?_
  subst he
  refine ⟨lim.keeps x.toInCall.keep, codeAny_func ?_⟩
  obtain ⟨t, ht, hq⟩ := hb A out s H vs Q E hgu (hr.deeper _) hsp
  refine wpAny_mono (ht.run [] s1 (start N vs) H _ (inv_start S hr.hd e0 (len _ _ _ _ hsp) r x) hq) (fun fl s' hs => ?_) fun _ _ z => z
  match fl, hs with
  | .ret u, ⟨v, σ', H', J, rv, q⟩ => exact ⟨v, H', J.os, J.bare, J.base, J.hok, rv, q⟩
  | .next, ⟨σ', H', J, q⟩ => exact ⟨V.non, H', J.os, J.bare, J.base, J.hok, rfl, q⟩
  | .brk, ⟨_, _, _, q⟩ => exact q.elim
  | .cont, ⟨_, _, _, q⟩ => exact q.elim
theorem fun_wgC {x qn : Str} {st : Stmt} {f : Addr} {fd : FuncData} {N ps : List Str} {k : Nat} {sp : Sp} (F : Fun K x qn st f fd) (S : FnScope N ps (defScope st)) (len : ∀ vs H Q E, sp vs H Q E → vs.length = ps.length)
    (hb : ∀ (cdv : Value), fd.code = cdv → ∀ (A : Around) (out : List Env) (s : Shared) (H : Hp) (vs : List V) (Q : VK) (E : XK), A.guards = some [] → Room k (A.deeper (envOfC qn (defScope st) s.heap.objs.size f cdv)) → sp vs H Q E →
      ∃ t, PSs (cxOf CX P w K mg base N qn (defScope st) f cdv A out s H E) (defBody st) t ∧ t { nx := fun _ H' => Q .non H', rt := Q } (start N vs) H) : WG P w K mg base CX (k + 1) f fd ps sp := by
  obtain ⟨oc, od, kV, doc, pm, an, cdv, ct, osl, rfl, lk, hcd⟩ := F.ex
  exact wg_of lk hcd S len fun A out s H vs Q E hgu hr hsp => hb cdv rfl A out s H vs Q E hgu hr hsp
end
end L2.Wb
set_option Elab.async false
set_option linter.all false
set_option maxRecDepth 100000
set_option maxHeartbeats 4000000
namespace L2.Wb
open PySem PySem.Spec PyProof.Rows
/-- the script's own list in an abstract heap -/
def scrH (a : Addr) (vs : List Value) (ns : List Int) (t : Bool) : Hp := fun b => if t = true ∧ b = a then some (.frz { cls := .type "list", data := .seq vs.toArray } (.lst (ns.map V.int))) else none
end L2.Wb
set_option Elab.async false
set_option linter.all false
set_option maxRecDepth 100000
set_option maxHeartbeats 4000000
namespace L2.Wb
open PySem PySem.Spec PyProof.Rows
mutual
/-- the data that stands at a value: lists, tuples and dicts that are tracked -/
inductive Dx (H : Hp) : V → PyData → Prop
  | non : Dx H .non .none
  | bl (b : Bool) : Dx H (.bl b) (.bool b)
  | int (i : Int) : Dx H (.int i) (.int i)
  | str (x : Str) : Dx H (.str x) (.str x)
  | lst {a : Addr} {xs : List V} {ds : List PyData} : H a = some (.lst xs) → DxAll H xs ds → Dx H (.ref a) (.list ds)
  | tup {a : Addr} {xs : List V} {ds : List PyData} : H a = some (.tup xs) → DxAll H xs ds → Dx H (.ref a) (.tuple ds)
  | dct {a : Addr} {kvs : List (Key × V)} {ps : List (PyData × PyData)} : H a = some (.dK kvs) → DxKv H kvs ps → Dx H (.ref a) (.dict ps)
inductive DxAll (H : Hp) : List V → List PyData → Prop
  | nil : DxAll H [] []
  | cons {v : V} {vs : List V} {d : PyData} {ds : List PyData} : Dx H v d → DxAll H vs ds → DxAll H (v :: vs) (d :: ds)
inductive DxKv (H : Hp) : List (Key × V) → List (PyData × PyData) → Prop
  | nil : DxKv H [] []
  | int {i : Int} {v : V} {r : List (Key × V)} {d : PyData} {ps : List (PyData × PyData)} : Dx H v d → DxKv H r ps → DxKv H ((Sum.inl i, v) :: r) ((.int i, d) :: ps)
  | str {x : Str} {v : V} {r : List (Key × V)} {d : PyData} {ps : List (PyData × PyData)} : Dx H v d → DxKv H r ps → DxKv H ((Sum.inr x, v) :: r) ((.str x, d) :: ps)
end
section
variable {X : Cx} {pins : List (Addr × Obj)} {σ : St} {H : Hp} {s : Shared}
theorem not_sys (I : Inv X pins σ H s) (hs : (X.K.lookup sysModules).isSome = true) {a : Addr} {o : HO} (h : H a = some o) : a ≠ sysModules := by
  rintro rfl
  obtain ⟨ob, e⟩ := Option.isSome_iff_exists.mp hs
  have z := (I.bs _ _ (I.mod.kin _ _ e)).2
  rw [h] at z; cases z
theorem nin_app {as bs : List Addr} {a : Addr} (h1 : a ∉ as) (h2 : a ∉ bs) : a ∉ as ++ bs := fun h => (List.mem_append.mp h).elim h1 h2
mutual
theorem Dx.reads (I : Inv X pins σ H s) (hs : (X.K.lookup sysModules).isSome = true) : ∀ (d : PyData) (v : V) (u : Value), Dx H v d → RelV v u → ∃ as, Reads s.heap u d as ∧ sysModules ∉ as
  | .none, _, _, .non, r => by cases r; exact ⟨_, Reads.none, List.not_mem_nil⟩
  | .bool b, _, _, .bl _, r => by cases r; exact ⟨_, Reads.bool b, List.not_mem_nil⟩
  | .int i, _, _, .int _, r => by obtain ⟨t, rfl⟩ := r; exact ⟨_, Reads.int i t, List.not_mem_nil⟩
  | .str x, _, _, .str _, r => by obtain ⟨t, rfl⟩ := r; exact ⟨_, Reads.str x t, List.not_mem_nil⟩
  | .list ds, _, _, .lst h ha, r => by
    cases r
    obtain ⟨_, its, n, rv, ho⟩ := I.hok _ _ h
    obtain ⟨as, hr, hn⟩ := DxAll.reads I hs ds _ its ha rv
    exact ⟨_, Reads.list ho rfl rfl hr, fun hm => (List.mem_cons.mp hm).elim (fun e => not_sys I hs h e.symm) hn⟩
  | .tuple ds, _, _, .tup h ha, r => by
    cases r
    obtain ⟨_, its, rv, o, ho, hc, n, hd⟩ := I.hok _ _ h
    obtain ⟨as, hr, hn⟩ := DxAll.reads I hs ds _ its ha rv
    exact ⟨_, Reads.tuple ho hc hd hr, hn⟩
  | .dict ps, _, _, .dct h ha, r => by
    cases r
    obtain ⟨_, _, vs, kv, o, es, ep, ho, hx, hd, _, pr, _⟩ := I.hok _ _ h
    obtain ⟨as, bs, h1, h2, n1, n2⟩ := DxKv.reads I hs ps _ vs es.toList ha kv pr
    exact ⟨_, Reads.dict ho hx.1 hd h1 h2, nin_app (fun hm => (List.mem_cons.mp hm).elim (fun e => not_sys I hs h e.symm) n1) n2⟩
theorem DxAll.reads (I : Inv X pins σ H s) (hs : (X.K.lookup sysModules).isSome = true) : ∀ (ds : List PyData) (vs : List V) (us : List Value), DxAll H vs ds → Vals vs us → ∃ as, ReadsAll s.heap us ds as ∧ sysModules ∉ as
  | [], _, _, .nil, r => by cases r; exact ⟨_, ReadsAll.nil, List.not_mem_nil⟩
  | d :: ds, _, _, .cons h1 h2, r => by
    cases r with
    | cons r1 r2 =>
      obtain ⟨as, q1, n1⟩ := Dx.reads I hs d _ _ h1 r1
      obtain ⟨bs, q2, n2⟩ := DxAll.reads I hs ds _ _ h2 r2
      exact ⟨_, ReadsAll.cons q1 q2, nin_app n1 n2⟩
theorem DxKv.reads (I : Inv X pins σ H s) (hs : (X.K.lookup sysModules).isSome = true) : ∀ (ps : List (PyData × PyData)) (kvs : List (Key × V)) (vs : List (Key × Value)) (es : List DictEntry), DxKv H kvs ps → KV kvs vs → Pairs (mixKind X.prog X.w) es vs →
    ∃ as bs, ReadsAll s.heap (es.map (·.key)) (ps.map (·.1)) as ∧ ReadsAll s.heap (es.map (·.val)) (ps.map (·.2)) bs ∧ sysModules ∉ as ∧ sysModules ∉ bs
  | [], _, _, _, .nil, r, p => by cases r; cases p; exact ⟨_, _, ReadsAll.nil, ReadsAll.nil, List.not_mem_nil, List.not_mem_nil⟩
  | (.int i, d) :: ps, _, _, _, .int h1 h2, r, p => by
    cases r with
    | cons r1 r2 =>
      cases p with
      | cons k1 k2 p2 =>
        obtain ⟨as, bs, q1, q2, n1, n2⟩ := DxKv.reads I hs ps _ _ _ h2 r2 p2
        rw [← r1.1, mixKind_is] at k1
        obtain ⟨t, ek⟩ := Value.isInt_shape (show Value.isInt i _ = true from k1)
        obtain ⟨cs, q3, n3⟩ := Dx.reads I hs d _ _ h1 r1.2
        refine ⟨_, _, ReadsAll.cons (by dsimp only; rw [ek]; exact Reads.int i t) q1, ReadsAll.cons (by dsimp only; rw [k2]; exact q3) q2, nin_app List.not_mem_nil n1, nin_app n3 n2⟩
  | (.str x, d) :: ps, _, _, _, .str h1 h2, r, p => by
    cases r with
    | cons r1 r2 =>
      cases p with
      | cons k1 k2 p2 =>
        obtain ⟨as, bs, q1, q2, n1, n2⟩ := DxKv.reads I hs ps _ _ _ h2 r2 p2
        rw [← r1.1, mixKind_is] at k1
        obtain ⟨t, ek⟩ := Value.isStrOf_shape (show Value.isStrOf x _ = true from k1)
        obtain ⟨cs, q3, n3⟩ := Dx.reads I hs d _ _ h1 r1.2
        refine ⟨_, _, ReadsAll.cons (by dsimp only; rw [ek]; exact Reads.str x t) q1, ReadsAll.cons (by dsimp only; rw [k2]; exact q3) q2, nin_app List.not_mem_nil n1, nin_app n3 n2⟩
end
end
/-- what repr shows without a bound being met -/
structure Shw (d : PyData) : Prop where
  sh : d.showable = true
  le : d.leavesShort 60 = true
  wt : d.weight ≤ 200000
  dp : d.depth ≤ 40
theorem Shw.size {d : PyData} (h : Shw d) : d.shown.length ≤ sizeLine := by
  have h1 := PyData.shown_le 60 (by decide) d h.le
  have h2 : (60 + 2) * d.weight ≤ 62 * 200000 := Nat.mul_le_mul (by omega) h.wt
  rw [sizeLine_eq]
  omega
mutual
theorem Dx.same {H H' : Hp} (e : Same H H') : ∀ {v : V} {d : PyData}, Dx H v d → Dx H' v d
  | _, _, .non => .non
  | _, _, .bl b => .bl b
  | _, _, .int i => .int i
  | _, _, .str x => .str x
  | _, _, .lst h a => .lst (e _ _ h) (DxAll.same e a)
  | _, _, .tup h a => .tup (e _ _ h) (DxAll.same e a)
  | _, _, .dct h a => .dct (e _ _ h) (DxKv.same e a)
theorem DxAll.same {H H' : Hp} (e : Same H H') : ∀ {v : List V} {d : List PyData}, DxAll H v d → DxAll H' v d
  | _, _, .nil => .nil
  | _, _, .cons a b => .cons (Dx.same e a) (DxAll.same e b)
theorem DxKv.same {H H' : Hp} (e : Same H H') : ∀ {v : List (Key × V)} {d : List (PyData × PyData)}, DxKv H v d → DxKv H' v d
  | _, _, .nil => .nil
  | _, _, .int a b => .int (Dx.same e a) (DxKv.same e b)
  | _, _, .str a b => .str (Dx.same e a) (DxKv.same e b)
end
end L2.Wb
set_option Elab.async false
set_option linter.all false
set_option maxRecDepth 100000
set_option maxHeartbeats 4000000
namespace PySem.WbE
open PySem PySem.W PySem.Calls
end PySem.WbE
namespace L2.Wb
open PySem PySem.Spec PyProof.Rows
end L2.Wb
set_option Elab.async false
set_option linter.all false
set_option maxRecDepth 100000
set_option maxHeartbeats 4000000
namespace L2.Wb
open PySem PySem.Spec PyProof.Rows
/-- an exception that was caught: its class, its dict -/
def exh (cls : Value) (d : Option Addr) (a : Addr) : HO := .ext fun h => ∃ (oe : Obj) (vs : Array Value), h.get? a = some oe ∧ Zc cls d oe ∧ oe.data = .fields vs
theorem exh_ok {P : Program} {w : World} {H : Hp} {h : Heap} {a : Addr} {cls : Value} {d : Option Addr} {oe : Obj} {vs : Array Value} (e : h.get? a = some oe) (z : Zc cls d oe) (f : oe.data = .fields vs) : ObjOk P w H h a (exh cls d a) :=
  ⟨⟨oe, vs, e, z, f⟩, ⟨oe, e⟩, fun _ _ ⟨o, v, e1, z1, f1⟩ k => ⟨o, v, k _ e1, z1, f1⟩⟩
section
variable {X : Cx} {pins : List (Addr × Obj)} {σ : St} {H : Hp} {s : Shared}
theorem Inv.held {a : Addr} {o : HO} {oe : Obj} {vs : Array Value} (I : Inv X pins σ H s) (e : s.heap.get? a = some oe) (hd : oe.data = .fields vs) (na : H a = none) (h0 : X.s_0.heap.get? a = none) (nL : a ≠ X.env.locals) (np : ∀ p ∈ X.pn ++ pins, p.1 ≠ a)
    (new : ObjOk X.prog X.w (upd H a o) s.heap a o) : Inv X pins σ (upd H a o) s := by
  have ne0 : ∀ b u, X.s_0.heap.get? b = some u → b ≠ a := fun b u q z => by rw [z, h0] at q; cases q
  have neH : ∀ b u, H b = some u → b ≠ a := fun b u q z => by rw [z, na] at q; cases q
  refine ⟨I.ok, I.os, I.bare, ⟨I.base.keep, I.base.slot, fun b u q n hx => by rw [upd_ne (ne0 b u q)]; exact I.base.free b u q n hx, I.base.there, fun b xs q => ?_, fun b u xs q => ?_, fun b ps q => ?_⟩, I.loc, I.cell, by rw [upd_ne nL.symm]; exact I.free, fun x c q => ?_, fun p hp => ?_, fun b u q => ?_, I.len⟩
  · have z := I.base.tups b xs q
    rw [upd_ne (neH b _ z)]; exact z
  · have z := I.base.frzs b u xs q
    rw [upd_ne (neH b _ z)]; exact z
  · obtain ⟨m, z⟩ := I.base.tbls b ps q
    exact ⟨m, by rw [upd_ne (neH b _ z)]; exact z⟩
  · obtain ⟨v, oc, e1, e2⟩ := I.cell x c q
    rw [upd_ne fun z => by rw [z, e] at e1; cases e1; rw [hd] at e2; cases e2]
    exact I.freeC x c q
  · obtain ⟨p1, p2, p3⟩ := I.pin p hp
    exact ⟨p1, by rw [upd_ne (np p hp)]; exact p2, p3⟩
  · by_cases hb : b = a
    · subst hb
      rw [upd_same] at q; cases q
      exact new
    · rw [upd_ne hb] at q
      exact (I.hok b u q).stay (fun _ _ _ r => r) (fun c r => by rw [upd_ne (neH c _ r)]; exact r) fun c xs r => by rw [upd_ne (neH c _ r)]; exact r
end
/-- the wish of an exception: as wAs, the exception tracked behind the suite -/
def wHeld (K : PySem.W.Frag) (c : Value) (i : Nat) (ts : Addr → Value → Option Addr → TS) (Wout : WX) (D : Ends) : WX := fun cls d σ H =>
  ∃ b, PySem.W.exmOne K cls c = some b ∧ (b = true → ∀ a, H a = none → ts a cls d { nx := fun σ' H' => H' a = none → D.nx (σ'.set i none) (upd H' a (exh cls d a)), rt := D.rt, bk := fun _ _ => False, ct := fun _ _ => False } (σ.set i (some (.ref a))) H) ∧ (b = false → Wout cls d σ H)
section
variable {X : Cx} {x n : Str} {c : Value} {i : Nat} {body suite : List Stmt} {b₀ : Stmt} {np pos pos' : Pos} {tb : WX → TS} {ts : Addr → Value → Option Addr → TS} {Wout : WX}
theorem ps_try_held (hs : X.stack = X.env :: X.outer) (hf : X.env.frame = some X.env.locals) (hex : X.ex = []) (hN : X.N.Nodup) (hi : X.N[i]? = some n) (hln : X.env.kindOf n = some .local) (hc : Names X x c) (tk : Takes X Wout)
    (hb : ∀ (W : WX) (pn : List (Addr × Obj)) (xe : Value → Shared → Prop), Takes (X.tr pn xe) W → PassesOwn (model X.prog X.w) X.A X.env xe → PSs (X.tr pn xe) body (tb W))
    (hsu : ∀ (a : Addr) (oe : Obj) (cls : Value) (d : Option Addr) (pn : List (Addr × Obj)), Zc cls d oe → (∃ vs, oe.data = .fields vs) → PSs (X.suite a ((a, oe) :: pn)) (b₀ :: suite) (ts a cls d)) :
    PS X (.Try body [.ExceptHandler (some (.Name x np)) (some n) (b₀ :: suite) pos'] [] [] pos) (fun D σ H => tb (wHeld X.K c i ts Wout D) D σ H) := by
  refine ⟨fun pins s σ H D I h => wpAny_Try_except ?_⟩
  have ok := I.ok
  have hfr : X.A.frames = some (X.env :: X.outer) := by rw [ok.frames, hs]
  refine wpAny_mono ((hb (wHeld X.K c i ts Wout D) (X.pn ++ pins) (fun e z => wpAny (model X.prog X.w) X.A (noteFrame e X.env) (fun _ z2 => wpAny (model X.prog X.w) X.A (setFlight e none) (fun _ z3 =>
    wpAny (model X.prog X.w) X.A (handleBy e X.env [.ExceptHandler (some (.Name x np)) (some n) (b₀ :: suite) pos']) (SP X pins D) X.xe z3) X.xe z2) X.xe z) (fun u z xx => ?_) PassesOwn.looking).run [] s σ H D (I.toTry _) h) (fun f z hz => ?_) (fun _ _ q => q)
  · obtain ⟨a, B, sI, pins', σ', H', cls, d, eu, J', nb, up, sky, na, os, ag, b, hb1, hyes, hno⟩ := xx
    subst eu
    have J : Inv X pins σ' H' sI := J'.ofTry ok
    rw [hs] at sky
    show wpAny (model X.prog X.w) X.A (noteFrame (.ref a) X.env) _ _ _
    refine Sky.land Zc.steady hfr hf sky fun h3 fl3 up3 => ?_
    have J3 : Inv X pins σ' H' { z with heap := h3 } := J.landed nb fl3.1 (up.trans up3) os ag
    obtain ⟨oe3, vs3, he3, hz3, hd3⟩ := fl3.there
    have nfr : a ∉ frs (X.env :: X.outer) := fun hm => by
      obtain ⟨_, o', e', hnf⟩ := fl3.2.2.1.mem hm
      rw [he3] at e'; cases e'
      exact hnf _ hd3
    have nL : a ≠ X.env.locals := fun q => nfr (List.mem_filterMap.mpr ⟨X.env, List.mem_cons_self, by rw [hf, q]⟩)
    have nF : a ∉ X.fs := fun hm => by
      obtain ⟨e, he, q⟩ := List.mem_filterMap.mp hm
      exact nfr (List.mem_filterMap.mpr ⟨e, List.mem_cons_of_mem _ he, q⟩)
    have nI : sI.heap.get? a = none := by
      cases q : sI.heap.get? a with
      | none => rfl
      | some o =>
        have z2 := nb a o q (by rw [hs]; exact nfr)
        rw [fl3.2.1] at z2; cases z2
    have n0 : X.s_0.heap.get? a = none := by
      cases q : X.s_0.heap.get? a with
      | none => rfl
      | some o =>
        obtain ⟨o', e⟩ := J.base.there a o q (by rw [hex]; exact List.not_mem_nil)
        rw [nI] at e; cases e
    have npin : ∀ p ∈ X.pn ++ pins, p.1 ≠ a := fun p hp q => by
      have e := (J.pin p hp).1
      rw [q, nI] at e; cases e
    have S3 := J3.suite he3 hd3 na nL nF
    refine wpAny_handleBy_cons (codeAny_handlers_test ?_) (by intro q; cases q)
    have LT : PySem.W.Looks (model X.prog X.w) h3 (typeOf (.ref a)) cls := fun A Q E s k q => wpAny_typeOf_ref (k _ _ he3) (by rw [hz3.1]; exact q)
    have LM := PySem.W.exm_one (M := model X.prog X.w) (J3.kIn) LT hb1
    have test : ∀ {Q : Value → Shared → Prop} {E : Value → Shared → Prop}, Q c { z with heap := h3 } → wpAny (model X.prog X.w) (X.A.mark (some (.ref a))) (eval (.Name x np) X.env) Q E { z with heap := h3 } := fun {Q E} q => by
      obtain ⟨hg, hdb, hm⟩ := hc
      exact hm.elim (fun hm => ld_glob (X := X.suite a ((a, oe3) :: (X.pn ++ pins))) S3 hg hm q hdb) fun ⟨hm, hv, hnn⟩ => ld_blt (X := X.suite a ((a, oe3) :: (X.pn ++ pins))) S3 hg hm hv q hnn hdb
    refine test (LM.here ?_)
    cases b with
    | true =>
      refine codeAny_handlers_suite_as (HandSPX.lands_againZ fl3 fun h4 fl4 up4 => ?_)
      have J4 : Inv X pins σ' H' { z with heap := h4 } := J.landed nb fl4.1 ((up.trans up3).trans up4) os ag
      obtain ⟨oe4, vs4, he4, hz4, hd4⟩ := fl4.there
      refine store_ok (X := X.suite a ((a, oe4) :: (X.pn ++ pins))) (v := .ref a) (J4.suite he4 hd4 na nL nF) hN hi (.inl hln) rfl (fun s5 S5 => ?_) (.inr hln)
      refine wpAny_mono ((hsu a oe4 cls d (X.pn ++ pins) hz4 ⟨_, hd4⟩).run [] s5 _ H' _ S5 (hyes rfl a na)) (fun f s6 hsp => ?_) (fun _ _ q => q.elim)
      match f, hsp with
      | .brk, ⟨_, _, _, q6⟩ => exact q6.elim
      | .cont, ⟨_, _, _, q6⟩ => exact q6.elim
      | .next, ⟨σ6, H6, S6, q6⟩ =>
        obtain ⟨p1, p2, _⟩ := S6.pin (a, oe4) (List.mem_append_left _ List.mem_cons_self)
        have J6 := Inv.held (o := exh cls d a) (S6.unsuite ok) p1 hd4 p2 n0 nL npin (exh_ok p1 hz4 hd4)
        exact gone_ok J6 hN hi hln fun s7 J7 => ⟨_, _, J7, q6 p2⟩
      | .ret u, ⟨v6, σ6, H6, S6, r6, q6⟩ => exact gone_ok (S6.unsuite ok) hN hi hln fun s7 J7 => ⟨_, _, _, J7, r6, q6⟩
    | false =>
      show wpAny _ X.A (handleBy (.ref a) X.env []) _ _ _
      refine wpAny_handleBy_nil ?_
      obtain ⟨_, _, _, oe, vs, T, oT, ts', he, _, hd, h1, _⟩ := id fl3
      unfold PySem.passOn
      refine wpAny_bind (wpAny_field he hd h1 ?_)
      rw [if_neg (show ¬ ((Value.ref T == Value.none) = true) from by simp)]
      have fin : wpAny (model X.prog X.w) X.A (setFlight (.ref a) X.env.frame) (fun _ s4 => wpAny (model X.prog X.w) X.A (throw (.ref a) : Sem Flow) (SP X pins D) X.xe s4) X.xe { z with heap := h3 } := by
        rw [hf]
        exact HandSPX.setFlight_upZ fl3 fun h4 hh4 up4 => wpAny_throw (tk _ _ ⟨a, B, sI, pins, σ', H', cls, d, rfl, J, nb, (up.trans up3).trans up4, .inr (.inr (by rw [hs]; exact hh4)), na, os, ag, hno rfl⟩)
      first
        | exact wpAny_bind (wpAny_pure (wpAny_bind fin))
        | exact wpAny_bind fin
  · match f, hz with
    | .next, ⟨σ', H', J', q⟩ => exact wpAny_execs_nil ⟨σ', H', J'.ofTry ok, q⟩
    | .brk, ⟨σ', H', J', q⟩ => exact ⟨σ', H', J'.ofTry ok, q⟩
    | .cont, ⟨σ', H', J', q⟩ => exact ⟨σ', H', J'.ofTry ok, q⟩
    | .ret u, ⟨v, σ', H', J', r, q⟩ => exact ⟨v, σ', H', J'.ofTry ok, r, q⟩
end
end L2.Wb
set_option Elab.async false
set_option linter.all false
set_option maxRecDepth 100000
set_option maxHeartbeats 4000000
namespace L2.Wb
open PySem PySem.Spec PyProof.Rows
/-- what the class at D of exceptions says -/
structure ExD (K : PySem.W.Frag) (D : Addr) : Prop where
  cl : (PySem.W.clsIn K D).isSome = true
  ga : PySem.W.findIn K (.ref D) "__getattribute__" = some (some (.builtin "BaseException.__getattribute__"))
  gg : PySem.W.findIn K (.ref D) "__getattr__" = some none
  su : PySem.W.subIn K (.ref D) (.type "BaseException") = some true
  hd : PySem.W.hasDictIn K D = true
  ca : PySem.W.findIn K (.ref D) "__class__" = some (some (.builtin "object.__class__"))
  sp : PySem.W.specialIn K (.builtin "object.__class__") "__get__" = some (some (.builtin "getset_descriptor.__get__"))
  tk : PySem.W.takesIn K (.builtin "object.__class__") = some true
  mo : PySem.W.mroIn K D (.type "object") = some true
section
variable {X : Cx} {pins : List (Addr × Obj)} {σ : St} {H : Hp} {s : Shared}
/-- the held exception with its dict as an instance -/
theorem held_inst {a D : Addr} {d : Option Addr} (I : Inv X pins σ H s) (h : H a = some (exh (.ref D) d a)) (hd : ∀ dd, d = some dd → ∃ fs, H dd = some (.xd fs)) : ∃ (oe : Obj) (od : Option Obj), PySem.W.InstAt s.heap a oe D od ∧
    ∀ dd fs, d = some dd → H dd = some (.xd fs) → ∃ (o2 : Obj) (mA : Str → Option Value), od = some o2 ∧ (∀ n, PySem.W.lookIn n o2 = some (mA n)) ∧ ∀ f, RelO (fs.lookup f) (mA f) := by
  obtain ⟨⟨oe, vs, e, z, f⟩, _⟩ := I.hok a _ h
  have nc : PySem.W.notCls oe = true := by unfold PySem.W.notCls; rw [f] <;> rfl
  cases d with
  | none => exact ⟨oe, none, ⟨e, z.1, nc, by rw [z.2]; trivial⟩, fun _ _ q => nomatch q⟩
  | some dd =>
    obtain ⟨fs, hx⟩ := hd dd rfl
    obtain ⟨mA, hns, hr⟩ := I.hok dd _ hx
    obtain ⟨od, ho, hl⟩ := lookIn_ns hns
    refine ⟨oe, some od, ⟨e, z.1, nc, by rw [z.2]; exact ho⟩, fun dd' fs' q h' => ?_⟩
    cases q
    rw [hx] at h'; cases h'
    exact ⟨od, mA, rfl, hl, hr⟩
/-- isinstance(e, C), e a held exception -/
def rIsH (K : PySem.W.Frag) : List V → Hp → VK → Prop := fun xs H Q => ∃ (a D : Addr) (d : Option Addr) (c : V) (cv : Value) (b : Bool), xs = [.ref a, c] ∧ H a = some (exh (.ref D) d a) ∧ (∀ dd, d = some dd → ∃ fs, H dd = some (.xd fs)) ∧ ExD K D ∧ ClsV c cv ∧ PySem.W.kitOne K (.ref D) cv = some b ∧ Q (.bl b) H
theorem call_isH : CallR X (.builtin "isinstance") (rIsH X.K) := by
  intro pins s σ H xs us Q I r ⟨a, D, d, c, cv, b, ex, h, hd, C, hc, e, q⟩
  subst ex
  obtain ⟨u, v, eu, ru, rv⟩ := vals2 r
  subst eu
  cases (show u = Value.ref a from ru)
  cases hc.eq rv
  obtain ⟨oe, od, J, _⟩ := held_inst I h hd
  exact PySem.W.kia_one (PySem.W.kitx_exc C.cl C.ga C.gg C.su C.ca C.sp C.tk C.mo) I.kIn J e (fun z => nomatch z) fun tk => ⟨.bl b, H, I.kept (t' := tk) fun _ _ z => z, rfl, q⟩
/-- e.f -/
def tHeldF (K : PySem.W.Frag) (f : Str) (te : TE) : TE := fun σ H Q => te σ H fun x H1 => ∃ (a D dd : Addr) (fs : List (Str × V)) (v : V), x = .ref a ∧ H1 a = some (exh (.ref D) (some dd) a) ∧ H1 dd = some (.xd fs) ∧ ExD K D ∧ PySem.W.findIn K (.ref D) f = some none ∧ fs.lookup f = some v ∧ Q v H1
theorem pe_heldF {e : Expr} {te : TE} {pos : Pos} {f : Str} (he : PE X e te) (hb : attributeBase e f X.env (eval e X.env) = eval e X.env := by rfl) : PE X (.Attribute e f pos) (tHeldF X.K f te) := by
  refine ⟨fun pins s σ H Q I h => attr_of hb (thn (he.run pins s σ H _ I h) fun u z hh => ?_)⟩
  obtain ⟨x, H1, J, rx, a, D, dd, fs, v, ex, h1, h2, C, hno, hl, q⟩ := hh
  subst ex
  cases (show u = Value.ref a from rx)
  obtain ⟨oe, od, K1, rest⟩ := held_inst J h1 fun dd' e => by cases e; exact ⟨fs, h2⟩
  obtain ⟨o2, mA, rfl, hlk, hr⟩ := rest dd fs rfl h2
  obtain ⟨u, hu, ru⟩ := RelO.some_of (v := v) (o := mA f) (by rw [← hl]; exact hr f)
  exact HandSPX.exc_get J.kIn K1 C.ga C.gg C.su (PySem.W.findObj_own C.hd hno rfl (by rw [hlk, hu])) (handed_of ru) ⟨v, H1, J.tok _, ru, q⟩
end
end L2.Wb
set_option Elab.async false
set_option linter.all false
set_option maxRecDepth 100000
set_option maxHeartbeats 4000000
namespace PySem.WbX
open PySem PySem.W PySem.Calls PyProof.Rows PySem.HandSPX L2
/-- super().__init__(arg); self.f = f -/
def supB (arg : Expr) (f : Str) (p0 p1 p2 p3 p4 p5 p6 p7 p8 : Pos) : List Stmt :=
  [.Expr (.Call (.Attribute (.Call (.Name "super" p0) [] [] p1) "__init__" p2) [arg] [] p3) p4, .Assign [.Attribute (.Name "self" p5) f p6] (.Name f p7) p8]
/-- what the written part says of the class at C, of its __init__ at fI, the cell of its name at cc, the code record at cda -/
structure Sup (prog : Program) (K : Frag) (mg : Str → Option Value) (C fI cc cda : Addr) (qual f : Str) (arg : Expr) (args : Arguments) (sc : Scope) : Prop where
  cls : ∃ nm q N bs bm sn sub ab col dd k0 k1 k2 k3 k5, K.lookup C = some (excClassObj nm q C N bs bm true sn sub ab col dd k0 k1 k2 k3 k5 "ValueError.__new__") ∧ refsVE bm = true
  sa : findIn K (.ref C) "__setattr__" = some (some (.builtin "object.__setattr__"))
  noN : findIn K (.ref C) f = some none
  iC : findIn K (.ref C) "__init__" = some (some (.ref fI))
  tC : typeIn K (.ref fI) = some (.type "function")
  kC : keepIn K (.ref C) = true
  exC : subIn K (.ref C) (.type "BaseException") = some true
  vaC : subIn K (.ref C) (.type "ValueError") = some true
  ssC : mroIn K C (.ref C) = some true
  tyC : typeIn K (.ref C) = some (.type "type")
  sup : ks_superIn K C C "__init__" = some (some (.builtin "ValueError.__init__"))
  opq : nsIn K cStatics "thirdparty.any" = some none
  noS : mg "super" = none
  cell : ∃ (cl : Value) (cld : Option Addr) (csl : Array (Option Value)), K.lookup cc = some ⟨cl, cld, .cell (some (.ref C)), csl⟩
  code : ∃ (ccl : Value) (cdd : Option Addr) (vs : Array Value) (ccs : Array (Option Value)) (file : Str) (tf : Tok), K.lookup cda = some ⟨ccl, cdd, .fields vs, ccs⟩ ∧ vs[2]? = some (.str file tf) ∧ ((prog.main.file : Str) == file) = true
  fn : ∃ (oc : Value) (od : Option Addr) (kV doc pm : Value) (an : Option Addr) (ct : Value) (osl : Array (Option Value)) (p0 p1 p2 p3 p4 p5 p6 p7 p8 : Pos),
    K.lookup fI = some ⟨oc, od, .func (ksFn "__init__" qual args (supB arg f p0 p1 p2 p3 p4 p5 p6 p7 p8) sc .none kV doc pm an (.ref cda) ct cc), osl⟩ ∧ codeIn K (.ref cda) qual = true ∧ (p2.endLine == p3.line) = true ∧
    ∀ u v : Value, bindArgs (ksFn "__init__" qual args (supB arg f p0 p1 p2 p3 p4 p5 p6 p7 p8) sc .none kV doc pm an (.ref cda) ct cc) ⟨[u, v], []⟩ = pure [(("self" : Str), u), (f, v)]
  hd : (args.posonlyargs ++ args.args).head?.map (·.arg) = some ("self" : Str)
  top : (prog.main.scope.names.lookup ("super" : Str)).isSome = false
  sc1 : sc.names.lookup ("super" : Str) = some .globalImplicit
  sc2 : sc.names.lookup ("__class__" : Str) = some .free
  sc3 : sc.names.lookup ("self" : Str) = some .local
  sc4 : sc.names.lookup f = some .local
  sck : sc.kind = .function
  scc : sc.isCoroutine = false
  scg : sc.isGenerator = false
  nocell : ∀ x ∈ sc.names, x.2 ≠ .cell
  fs : (f == ("self" : Str)) = false
  fd : (f == ("__debug__" : Str)) = false
/-- the text's reading in __init__'s frame: it makes what it makes and keeps what is there -/
def ArgOk (prog : Program) (w : World) (f : Str) (arg : Expr) (v : Value) : Prop := ∀ (A : Around) (env : Env) (s : Shared) (m : Str → Option Value) (Q : Value → Shared → Prop) (E : Value → Shared → Prop), s.heap.Ns env.locals m → m f = some v → env.kindOf f = some .local → env.scope.kind = .function →
  (f == ("__debug__" : Str)) = false → (∀ u h' tk, (∀ b o, s.heap.get? b = some o → h'.get? b = some o) → Q u { s with heap := h', toks := tk }) → wpAny (model prog w) A (eval arg env) Q E s
/-- the call of super().__init__ with it, as it is read -/
def ArgForm (arg : Expr) : Prop := (∀ env : Env, starEach [arg] env = (false, eval arg env) :: starEach [] env) ∧ ∀ (p0 p1 p2 p3 : Pos) (env : Env), (p2.endLine == p3.line) = true → ∃ pl : Sem Bool, eval (.Call (.Attribute (.Call (.Name "super" p0) [] [] p1) "__init__" p2) [arg] [] p3) env = (do
  let ov ← attributeBase (.Call (.Name "super" p0) [] [] p1) "__init__" env (eval (.Call (.Name "super" p0) [] [] p1) env)
  standAt p2.atName
  let (f, first) ← holding [ov] (getMethod ov "__init__" pl)
  callWith p3 f first (backTo p3 (starEach [arg] env)) [])
theorem form_of {arg : Expr} (h : ∀ env : Env, starEach [arg] env = (false, eval arg env) :: starEach [] env) : ArgForm arg := by
  refine ⟨h, fun p0 p1 p2 p3 env hl => ⟨(do return (← importBound (.Call (.Name "super" p0) [] [] p1) env).getD true), ?_⟩⟩
  have hf : ∀ (args : List (Bool × Sem Value)), args = backTo p3 (starEach [arg] env) → methodCallForm ([arg].length + ([] : List Keyword).length) args (backToKw p3 (keywordEach [] env)) = true := fun args e => by rw [e, h]; rfl
  rw [arm_eval_Call]
  unfold methodCall
  rw [hf _ rfl]
  have e1 : ∀ ov : Value, calleeOf true (.Call (.Name "super" p0) [] [] p1) env ov "__init__" = getMethod ov "__init__" (do return (← importBound (.Call (.Name "super" p0) [] [] p1) env).getD true) := fun _ => rfl
  have e2 : methodCallPos true (.Call (.Name "super" p0) [] [] p1) env p2 p3 = pure p3 := by
    unfold methodCallPos
    rw [if_pos (by rw [hl]; rfl)]
  simp only [e1, e2, pure_bind]
  rfl
theorem one_len (v : Value) : [v].length ≤ sizeLine := by rw [sizeLine_eq]; exact (by decide : 1 ≤ 16777216)
/-- what __init__ leaves of a fresh exception at x -/
structure Done (h h' : Heap) (x C dx t1 : Addr) (f : Str) (v : Value) : Prop where
  keep : ∀ b o, b ≠ x → h.get? b = some o → h'.get? b = some o
  obj : h'.get? x = some (excObj C t1 (some dx) .none)
  dbig : h.objs.size ≤ dx
  dne : dx ≠ x
  ns : h'.Ns1 dx (fun y => if y = f then some v else none)
section
variable {prog : Program} {w : World} {A : Around} {E : Value → Shared → Prop} {h : Heap} {g : Array GenState} {d : Drawn} {t : Nat} {os : OsState}
variable {nm q : Str} {C N : Addr} {bs bm : List Value} {hdct : Bool} {sn : List Str} {sub : List Value} {ab : Bool} {col : Option Bool} {dd : Option Addr} {k0 k1 k2 k3 k5 : Option Value}
/-- the bound ValueError.__init__, called -/
theorem mw_call {u x t0 : Addr} {rest : List Value} {Q : Value → Shared → Prop} (hC : h.get? C = some (excClassObj nm q C N bs bm hdct sn sub ab col dd k0 k1 k2 k3 k5 "ValueError.__new__")) (hx : h.get? x = some (excO C t0)) (hu : h.get? u = some (kxs_mw "ValueError.__init__" x)) (hz : rest.length ≤ sizeLine)
    (fin : ∀ h' t1, (∀ b o, b ≠ x → h.get? b = some o → h'.get? b = some o) → h'.get? x = some (excO C t1) → Q .none ⟨h', g, d, t, os⟩) : wpAny (model prog w) A (call (.ref u) rest) Q E ⟨h, g, d, t, os⟩ := by
  have FB := PySem.F.excBase_ValueError
  refine wpAny_call (codeAny_of_tree (show wpAny _ A.in1 (callAny (.ref u) ⟨rest, []⟩) _ _ _ from ?_))
  simp only [callAny]
  refine wpAny_bind (wpAny_load hu ?_)
  simp only [kxs_mw, show (Value.type "method-wrapper" == Value.type "method" || Value.type "method-wrapper" == Value.type "builtin_function_or_method" || Value.type "method-wrapper" == Value.type "method-wrapper") = true by decide, if_true]
  refine KFB.if_so (by decide) (wpAny_bind (check_bound_init FB.toExcCallFacts hC hx rfl (wpAny_bind (wpAny_pure (wpAny_pure ⟨plainId_quiet FB.init.plain _, codeAny_builtin FB.initEntry ?_⟩)))))
  exact exc_init_tree (cls := .ref C) (t0 := t0) (dv := none) (c2 := .none) (c3 := .none) (b4 := .bool false) hx hz fun h' k e _ => fin h' _ k e
end
section
variable {prog : Program} {w : World} {A : Around} {E : Value → Shared → Prop} {R : Result → Shared → Prop} {s : Shared} {K : Frag} {mg mb : Str → Option Value} {C fI cc cda x t0 : Addr} {qual f : Str} {arg : Expr} {args : Arguments} {sc : Scope} {v : Value}
theorem sup_init (T : Sup prog K mg C fI cc cda qual f arg args sc) (ha : ArgOk prog w f arg v) (hform : ArgForm arg) (X : K.In s.heap) (hg : s.heap.Ns mainGlobals mg) (hbl : s.heap.Ns builtinsNs mb) (hbb : ∀ x : Str, x ≠ "__name__" → mb x = bootBuiltins x) (hlim : s.heap.NoLimit) (hx : s.heap.get? x = some (excO C t0)) (hnx : K.lookup x = none) (hroom : A.depth < recursionLimit)
    (hq : ∀ h' tk dx t1, Done s.heap h' x C dx t1 f v → R (.ok (.ret .none)) { s with heap := h', toks := tk }) : codeAny (model prog w) A (.call (.ref fI) ⟨[.ref x, v], []⟩) R s := by
  obtain ⟨oc, od, kV, doc, pm, an, ct, osl, p0, p1, p2, p3, p4, p5, p6, p7, p8, ho, hcd, hline, hbind⟩ := T.fn
  obtain ⟨nm, q, N, bs, bm, sn, sub, ab, col, dd, k0, k1, k2, k3, k5, hC, hbm⟩ := T.cls
  obtain ⟨cl, cld, csl, hcell⟩ := T.cell
  obtain ⟨ccl, cdd, vs, ccs, file, tf, hcode, hvs, hfile⟩ := T.code
  have hcl : clsIn K C = some { name := nm, bases := bs, mro := .ref C :: bm, ns := N, qualname := q, hasDict := true, slotNames := sn, subclasses := sub, abstract := ab, collection := col, hasDel := false } := by unfold clsIn; rw [hC] <;> rfl
  refine ks_codeAny_call_defAt (binds := [(("self" : Str), .ref x), (f, v)]) hroom (X _ _ ho) rfl hlim (codeRec_of X hcd) rfl (BindsTo.of_eq (hbind _ _)) T.nocell (fun y hy => ?_) (fun h₁ hns k1 => ?_) T.scc T.scg T.sck
  · rcases List.mem_cons.mp hy with e | e
    · rw [e]; exact T.sc3
    · rw [List.mem_singleton.mp e]; exact T.sc4
  have X1 : K.In h₁ := X.keeps k1
  have hx1 := k1 _ _ hx
  have mself : (fun y => ([(("self" : Str), Value.ref x), (f, v)] : List (Str × Value)).reverse.lookup y) ("self" : Str) = some (.ref x) := by
    have e : ((("self" : Str)) == f) = false := by rw [beq_eq_false_iff_ne]; intro q; have z := T.fs; rw [← q] at z; simp at z
    simp [List.lookup, e]
  have mf : (fun y => ([(("self" : Str), Value.ref x), (f, v)] : List (Str × Value)).reverse.lookup y) f = some v := by simp [List.lookup]
  show _root_.PySem.wpAt _ _ _ (execs (supB arg f p0 p1 p2 p3 p4 p5 p6 p7 p8) _) _ _ _
  obtain ⟨pl, hev⟩ := hform.2 p0 p1 p2 p3 (callEnv (ksFn "__init__" qual args (supB arg f p0 p1 p2 p3 p4 p5 p6 p7 p8) sc .none kV doc pm an (.ref cda) ct cc) s.heap.objs.size fI) hline
  refine ks_wpAt_execs_cons (ks_wpAt_Expr_any (ks_wpAt_MethodCall (pl := pl) ?_ hev) (show (sc.kind == .module && _) = false by rw [T.sck]; rfl) rfl)
  obtain ⟨ar, har, earg⟩ : ∃ ar, (args.posonlyargs ++ args.args).head? = some ar ∧ ar.arg = "self" := by
    have z := T.hd
    cases q : (args.posonlyargs ++ args.args).head? with
    | none => rw [q] at z; cases z
    | some ar => rw [q] at z; exact ⟨ar, rfl, Option.some.inj z⟩
  have I1 : InstAt h₁ x (excO C t0) C none := ⟨hx1, rfl, rfl, trivial⟩
  refine ks_wpAt_super_base (body := supB arg f p0 p1 p2 p3 p4 p5 p6 p7 p8) T.sc1 T.sc2 (by decide) rfl (X1 _ _ ho) rfl har rfl (X1 _ _ hcode) rfl hvs hfile T.top ?_
  refine ks_loadName_global T.sck T.sc1 (loadGlobal_builtin (hg.keeps k1) T.noS (hbl.keeps k1) ((hbb _ (by decide +kernel)).trans (by decide +kernel)) ⟨rfl, ?_⟩)
  refine wpAny_loadName_free T.sck T.sc2 rfl ⟨_, X1 _ _ hcell, rfl⟩ ?_
  rw [earg]
  refine wpAny_loadName_local T.sck T.sc3 hns mself ?_
  refine ks_wpAny_isType_cls (X1 _ _ hC) rfl ⟨rfl, ?_⟩
  refine ks_wpAny_call_super (X1 _ _ hC) rfl I1.at_ I1.cls (fun c e => nomatch e) (looks_mroIn X1 T.ssC) (fun h₂ e2 k2 => ?_)
  have X2 : K.In h₂ := X1.keeps k2
  have hx2 := k2 _ _ hx1
  have hm := T.sup
  unfold ks_superIn at hm
  rw [hcl] at hm
  refine kxs_getMethod kxs_ValueError e2 (looks_opaque X2 T.opq) (l₀ := .ref C :: bm) (fun A Q E s k q => wpAny_bind ((looks_clsIn X2 hcl) A _ E s k (wpAny_pure q))) rfl X2 hm
    ((InstAt.type (od := none) (ox := excO C t0) ⟨hx2, rfl, rfl, trivial⟩).andThen (looks_subIn X2 T.vaC)) (ks_ne X2 (odx := none) ⟨hx2, rfl, rfl, trivial⟩ hcl) (by decide) ?_
  have X3 : K.In (h₂.push (kxs_mw "ValueError.__init__" x)) := X2.keeps fun b o e => Heap.get?_push_of_some _ e
  have hu3 : (h₂.push (kxs_mw "ValueError.__init__" x)).get? h₂.objs.size = some (kxs_mw "ValueError.__init__" x) := Heap.get?_push_at rfl rfl
  have k3 : ∀ b o, h₁.get? b = some o → (h₂.push (kxs_mw "ValueError.__init__" x)).get? b = some o := fun b o e => Heap.get?_push_of_some _ (k2 b o e)
  rw [hform.1]
  refine kxs_callWith (i := "ValueError.__init__") (x := x) rfl (evalArgs_plain ?_)
  refine spliced_cons (ha _ _ _ _ _ _ (hns.keeps k3) mf T.sc4 T.sck T.fd fun u h₄ tk4 k4 => args_nil ⟨k4 _ _ hu3, ?_⟩)
  have k14 : ∀ b o, h₁.get? b = some o → h₄.get? b = some o := fun b o e => k4 b o (k3 b o e)
  refine mw_call (X3.keeps k4 _ _ hC) (k14 _ _ hx1) (k4 _ _ hu3) (one_len u) fun h₅ t1 k5 hx5 => ?_
  have hxL : s.heap.objs.size ≠ x := Nat.ne_of_gt (Heap.lt_size hx)
  have k15 : ∀ b o, b ≠ x → h₁.get? b = some o → h₅.get? b = some o := fun b o hb e => k5 b o hb (k14 b o e)
  have X5 : K.In h₅ := fun a o e => k15 a o (fun z => by rw [z, hnx] at e; cases e) (X1 a o e)
  have hns5 : h₅.Ns s.heap.objs.size (fun y => ([(("self" : Str), Value.ref x), (f, v)] : List (Str × Value)).reverse.lookup y) := by
    obtain ⟨oL, es, ep, hL, r⟩ := hns
    exact ⟨oL, es, ep, k15 _ _ hxL hL, r⟩
  refine wpAt_of_wpAny (wpAny_execs_cons (plainObj_wpAny_Assign_Attribute ?_))
  refine wpAny_Name (wpAny_loadName_local T.sck T.sc4 hns5 mf (wpAny_Name (wpAny_loadName_local T.sck T.sc3 hns5 mself ?_) (by decide))) T.fd
  refine set_plain X5 (ox := excO C t1) (od := none) ⟨hx5, rfl, rfl, trivial⟩ T.sa (exc_osa X5 hx5 hcl (show refsVE (.ref C :: bm) = true from hbm) rfl T.noN fun h₆ tk6 dx k6 dn dne hx6 hn6 => ?_)
  have z : s.heap.objs.size < h₅.objs.size := hns5.lt
  exact wpAny_execs_nil (hq h₆ tk6 dx t1 ⟨fun b o hb e => k6 b o hb (k15 b o hb (k1 b o e)), hx6, Nat.le_of_lt (Nat.lt_of_lt_of_le z dn), dne, hn6⟩)
/-- a made exception -/
structure Made (h h' : Heap) (e C d : Addr) (f : Str) (v : Value) : Prop where
  keep : ∀ b o, h.get? b = some o → h'.get? b = some o
  new : h.objs.size ≤ e
  obj : ∃ oe vs, h'.get? e = some oe ∧ oe.cls = .ref C ∧ oe.dict = some d ∧ oe.data = .fields vs ∧ vs[1]? = some .none
  dbig : h.objs.size ≤ d
  dne : d ≠ e
  ns : h'.Ns1 d (fun y => if y = f then some v else none)
theorem sup_made (T : Sup prog K mg C fI cc cda qual f arg args sc) (ha : ArgOk prog w f arg v) (hform : ArgForm arg) (X : K.In s.heap) (hg : s.heap.Ns mainGlobals mg) (hbl : s.heap.Ns builtinsNs mb) (hbb : ∀ x : Str, x ≠ "__name__" → mb x = bootBuiltins x) (hlim : s.heap.NoLimit) (hroom : A.depth + 1 < recursionLimit)
    (hq : ∀ h' tk e d, Made s.heap h' e C d f v → R (.ok (.ret (.ref e))) { s with heap := h', toks := tk }) : codeAny (model prog w) A (.call (.ref C) ⟨[v], []⟩) R s := by
  obtain ⟨nm, q, N, bs, bm, sn, sub, ab, col, dd, k0, k1, k2, k3, k5, hC, hbm⟩ := T.cls
  obtain ⟨hp, g, dr, tk, os⟩ := s
  have k : ∀ b o, hp.get? b = some o → ((hp.push (kdv_tup [v])).push (excO C hp.objs.size)).get? b = some o := fun b o e => Heap.get?_push_of_some _ (Heap.get?_push_of_some _ e)
  have hget : ((hp.push (kdv_tup [v])).push (excO C hp.objs.size)).get? (hp.objs.size + 1) = some (excO C hp.objs.size) := by heap_get
  have hnx : K.lookup (hp.objs.size + 1) = none := by
    cases e : K.lookup (hp.objs.size + 1) with
    | none => rfl
    | some o => exact absurd (Nat.lt_of_succ_lt (Heap.lt_size (show hp.get? _ = some o from X _ _ e))) (Nat.lt_irrefl _)
  refine call_own PySem.F.excBase_ValueError (fun X => refsVE_contains X bm hbm) (X _ _ hC) (looks_findIn X T.iC) (fun self => bind_fn X self T.tC) (one_len v) ?_
  refine sup_init (s := ⟨(hp.push (kdv_tup [v])).push (excO C hp.objs.size), g, dr, tk, os⟩) T ha hform (X.keeps k) (hg.keeps k) (hbl.keeps k) hbb (hlim.keeps k) hget hnx (show A.depth + 1 < recursionLimit from hroom) fun h' tk' dx t1 D => ?_
  have old : ∀ b o, hp.get? b = some o → h'.get? b = some o := fun b o e => D.keep b o (Nat.ne_of_lt (Nat.lt_succ_of_lt (Heap.lt_size e))) (k b o e)
  have zz : hp.objs.size + 1 + 1 ≤ dx := by
    have q := D.dbig
    first
      | (simpa only [Heap.size_push] using q)
      | exact q
  exact ⟨rfl, hq h' tk' (hp.objs.size + 1) dx ⟨old, Nat.le_succ _, ⟨_, _, D.obj, rfl, rfl, rfl, rfl⟩, Nat.le_trans (Nat.le_trans (Nat.le_succ _) (Nat.le_succ _)) zz, D.dne, D.ns⟩⟩
end
end PySem.WbX
namespace L2.Wb
open PySem PySem.Spec PyProof.Rows
theorem relO_one {v : V} {u : Value} (r : RelV v u) (g f : Str) : RelO (List.lookup f [(g, v)]) (if f = g then some u else none) := by
  by_cases hw : f = g
  · subst hw
    rw [if_pos rfl, show List.lookup f [(f, v)] = some v by simp [List.lookup]]
    exact r
  · rw [if_neg hw, show List.lookup f [(g, v)] = none by simp [List.lookup, show (f == g) = false by simpa using hw]]
    trivial
section
variable {X : Cx} {C fI cc cda : Addr} {qual f : Str} {arg : Expr} {args : Arguments} {sc : Scope}
/-- X(e): the class, its own dict -/
def tMkSup (C : Addr) (f : Str) (okv : V → Prop) (ta : TA) : L2.St → Hp → XK → Prop := fun σ H Q => ta σ H fun vs H1 => ∃ v, vs = [v] ∧ okv v ∧ ∀ d, H1 d = none → Q (.ref C) (some d) (upd H1 d (.xd [(f, v)]))
theorem pmk_sup {a : Expr} {ta : TA} {p pos : Pos} {k : Nat} {x : Str} {okv : V → Prop} (gC : X.mg x = some (.ref C)) (T : PySem.WbX.Sup X.prog X.K X.mg C fI cc cda qual f arg args sc) (hok : ∀ v u, okv v → RelV v u → PySem.WbX.ArgOk X.prog X.w f arg u) (hform : PySem.WbX.ArgForm arg) (hr : Room k X.A) (ha : PA X [a] ta) (hg : Gl X x := by rfl)
    (hd : (x == ("__debug__" : Str)) = false := by decide) (he : starEach (a :: []) X.env = (false, eval a X.env) :: starEach [] X.env := by rfl) (hpl : (backTo pos (starEach [] X.env)).any (·.1) = false := by rfl) : PMk X (.Call (.Name x p) [a] [] pos) (tMkSup C f okv ta) := by
  intro pins s σ H Q I h
  refine wpAny_Call_Name_kw (ld_glob I hg gC (PySem.W.callWith_K (h₀ := X.base) I.ok.mod.kin T.kC (thn (ha.run pos pins s σ H _ I h) fun us z hh => ?_) he hpl) hd)
  obtain ⟨vs, H1, J, r1, v, ev, hv, q1⟩ := hh
  subst ev
  refine ⟨J.kIn, ?_⟩
  obtain ⟨u, rfl, ru⟩ := vals1 r1
  have hlim := J.nolimit
  obtain ⟨mb, hb, hbb⟩ := J.mod.blt
  have hglob := J.mod.glob.keeps J.bk
  have hbl := hb.keeps J.bk
  obtain ⟨hp, g, dr, tk, os⟩ := z
  refine wpAny_call (PySem.WbX.sup_made T (hok v u hv ru) hform J.kIn hglob hbl hbb hlim (by have := hr.dp; omega) fun h' tk' e d M => ?_)
  show MkP X pins σ Q (.ref e) ⟨h', g, dr, tk', os⟩
  obtain ⟨oe, fv, hoe, hc, hd, hdat, h1⟩ := M.obj
  obtain ⟨G, g1, g2⟩ := restrict h' fun b => decide (b ≠ e)
  have gk : ∀ b, b ≠ e → G.get? b = h'.get? b := fun b hb => g1 b (decide_eq_true hb)
  have ge : G.get? e = none := g2 e (by simp)
  have old : ∀ b o, hp.get? b = some o → G.get? b = some o := fun b o q => (gk b (Nat.ne_of_lt (Nat.lt_of_lt_of_le (Heap.lt_size q) M.new))).trans (M.keep b o q)
  have K1 : Inv X pins σ (upd H1 d (.xd [(f, v)])) ⟨G, g, dr, tk', os⟩ := J.laid (t' := tk') old M.dbig ⟨_, M.ns.at (fun o q => (gk d M.dne).trans q), fun y => relO_one ru f y⟩
  refine ⟨e, oe, fv, ⟨G, g, dr, tk', os⟩, _, .ref C, some d, rfl, K1, fun b o q => ?_, ge, hoe, ⟨hc, hd⟩, hdat, h1, ?_, rfl, J.bare, raises_own T.exC T.tyC, q1 d (J.hok.fresh M.dbig)⟩
  · by_cases hb : b = e
    · have q' : G.get? b = some o := q
      rw [hb, ge] at q'; cases q'
    · exact (gk b hb).symm.trans q
  · rw [upd_ne (Ne.symm M.dne)]
    exact J.hok.fresh M.new
/-- raise X(e) -/
theorem ps_raiseSup {a : Expr} {ta : TA} {W : WX} {p pos pos2 : Pos} {k : Nat} {x : Str} {okv : V → Prop} (hc : X.calm = true) (tk : Takes X W) (gC : X.mg x = some (.ref C)) (T : PySem.WbX.Sup X.prog X.K X.mg C fI cc cda qual f arg args sc) (hok : ∀ v u, okv v → RelV v u → PySem.WbX.ArgOk X.prog X.w f arg u) (hform : PySem.WbX.ArgForm arg) (hr : Room k X.A) (ha : PA X [a] ta) (hg : Gl X x := by rfl)
    (hd : (x == ("__debug__" : Str)) = false := by decide) (he : starEach (a :: []) X.env = (false, eval a X.env) :: starEach [] X.env := by rfl) (hpl : (backTo pos (starEach [] X.env)).any (·.1) = false := by rfl) :
    PS X (.Raise (some (.Call (.Name x p) [a] [] pos)) none pos2) (fun _ σ H => tMkSup C f okv ta σ H fun cls d H' => W cls d σ H') := ps_raise hc tk (pmk_sup gC T hok hform hr ha hg hd he hpl)
end
end L2.Wb
set_option Elab.async false
set_option linter.all false
set_option maxRecDepth 100000
set_option maxHeartbeats 4000000
namespace L2.Wb
open PySem PySem.Spec PyProof.Rows
section
variable {X : Cx} {CX : CXT} {k n : Nat} {f C : Addr} {fd : FuncData} {ps ks : List Str} {sp : Sp} {E : St → XK} {x : Str} {p pos : Pos} {a : Expr} {as : List Expr} {kws : List Keyword} {t tk : TA} {g : List Value → List Value → List Value} {gV : List V → List V → List V}
theorem makeS_run {pins : List (Addr × Obj)} {σ : L2.St} {H : Hp} {s : Shared} {Q : VK} {us ws : List Value} {vs zs : List V} (mk : Mk X.K C f) (ok : FnOk X.prog X.w X.K X.mg X.base CX k f fd ps sp) (room : Room (k + 1) X.A) (bn : KBn X.K fd ps (n + 1) ks g gV)
    (out : PassesAt CX X σ (E σ)) (I : Inv X pins σ H s) (ru : Vals vs us) (rw' : Vals zs ws) (lu : vs.length = n) (lw : zs.length = ks.length)
    (q : ∀ o od, H o = none → H od = none → od ≠ o → sp (gV (.ref o :: vs) zs) (upd (upd H od (.own o)) o (.ins C od [])) (fun r H3 => r = .non ∧ Q (.ref o) H3) (E σ)) :
    wpAny (model X.prog X.w) X.A (call (.ref C) us (ks.zip ws)) (EP X pins σ Q) X.xe s := by
  have big := I.hok
  let od : Addr := s.heap.objs.size
  let o : Addr := s.heap.objs.size + 1
  have q1 := q o od (big.fresh (Nat.le_succ _)) (big.fresh (Nat.le_refl _)) (Nat.ne_of_lt (Nat.lt_succ_self _))
  have J := I.made (C := C)
  have all : Vals (V.ref o :: vs) (Value.ref o :: us) := Paired.cons (show RelV (.ref o) (.ref o) from rfl) ru
  have cnt : (Value.ref o :: us).length = n + 1 := by simp only [List.length_cons, ← ru.length, lu]
  have body := ok.run (X.A.under (.builtin "type.__call__" ⟨.ref C :: us, ks.zip ws⟩)) X.stack _ _
    ⟨Value.ref o :: us, ks.zip ws⟩ (g (Value.ref o :: us) ws) _ _ (E σ) (room.make C us (ks.zip ws)) (J.env0.make C us (ks.zip ws))
    (bn.to _ _ ws J.kIn cnt (by rw [← rw'.length, lw])) (bn.rel all rw') q1
  refine wpAny_call ?_
  refine make_map (f := f) I.kIn mk.makes mk.init (beq_iff_eq.mp mk.fn) ?_
  refine codeAny_mono body fun fin s' hf => ?_
  match fin, hf with
  | .error e, hf => exact out pins _ _ e s' J hf
  | .ok (.ret u), hf =>
    obtain ⟨v, H', J', rv, ev, q3⟩ := J.after hf
    cases ev
    exact ⟨rv, V.ref o, H', J', rfl, q3⟩
  | .ok .next, hf => exact hf.elim
  | .ok .brk, hf => exact hf.elim
  | .ok .cont, hf => exact hf.elim
/-- the term -/
def tMakeS (C : Addr) (n m : Nat) (sp : Sp) (gV : List V → List V → List V) (E : L2.St → XK) (t tk : TA) : TE := fun σ H Q => t σ H fun vs H1 => tk σ H1 fun zs H2 => vs.length = n ∧ zs.length = m ∧ ∀ o od, H2 o = none → H2 od = none → od ≠ o →
  sp (gV (.ref o :: vs) zs) (upd (upd H2 od (.own o)) o (.ins C od [])) (fun r H3 => r = .non ∧ Q (.ref o) H3) (E σ)
theorem pe_makeS (mk : Mk X.K C f) (ok : FnOk X.prog X.w X.K X.mg X.base CX k f fd ps sp) (room : Room (k + 1) X.A) (gl : Gl X x) (at_ : X.mg x = some (.ref C)) (bn : KBn X.K fd ps (n + 1) ks g gV) (out : ∀ σ, PassesAt CX X σ (E σ)) (pa : PA X (a :: as) t) (pk : PK X kws tk)
    (h1 : (backToKw pos (keywordEach kws X.env)).all (·.1.isSome) = true := by rfl) (h2 : (backToKw pos (keywordEach kws X.env)).filterMap (·.1) = ks := by rfl) (h3 : (x == ("__debug__" : Str)) = false := by decide)
    (h4 : starEach (a :: as) X.env = (false, eval a X.env) :: starEach as X.env := by rfl) (h5 : ((backTo pos (starEach (a :: as) X.env)).any (·.1) || (backToKw pos (keywordEach kws X.env)).any (·.1.isNone)) = false := by rfl) :
    PE X (.Call (.Name x p) (a :: as) kws pos) (tMakeS C n ks.length sp gV E t tk) := by
  refine ⟨fun pins s σ H Q I h => wpAny_Call_Name_kw (ld_glob I gl at_ ?_ h3)⟩
  refine PySem.W.callWith_KW (h₀ := X.base) I.ok.mod.kin mk.kp h1 (thn (pa.run pos pins s σ H _ I h) fun us z hz => ?_) h5 h4
  obtain ⟨vs, H1, J, ra, q⟩ := hz
  refine thn (pk.run pos pins z σ H1 _ J q) fun ws z2 hz2 => ?_
  obtain ⟨zs, H2, J2, rz, lu, lw, q2⟩ := hz2
  refine ⟨J2.kIn, ?_⟩
  rw [h2]
  exact makeS_run mk ok room bn (out σ) J2 ra rz lu lw q2
end
end L2.Wb
set_option Elab.async false
set_option linter.all false
set_option maxRecDepth 100000
set_option maxHeartbeats 4000000
namespace L2.Wb
open PySem PySem.Spec PyProof.Rows L2 He
abbrev Fct := PySem.W.Frag → Bool
def asW (g : Addr → Option Obj) (roots : List Addr) : Nat → List Addr
  | 0 => roots
  | n + 1 => growD g (asW g roots n)
/-- a def with a closure: name, qualified name, parameters, body, scope, globals, the closure's names, builtins -/
abbrev FnC : Type := Option (Str × Str × Arguments × FuncBody × Scope × Addr × List Str × Addr)
def fnC (K : PySem.W.Frag) (p : Str × Option Str) : FnC := match K.lookup (fAd K p) with
  | some ⟨_, _, .func fd, _⟩ => some (fd.name, fd.qualname, fd.params, fd.body, fd.scope, fd.globals, fd.closure.map (·.1), fd.builtins)
  | _ => none
structure CloD where
  at_ : Str × Option Str
  name : Str
  qual : Str
  params : Arguments
  body : List Stmt
  scope : Scope
def CloD.val (d : CloD) : FnC := some (d.name, d.qual, d.params, .stmts d.body, d.scope, mainGlobals, ["__class__"], builtinsNs)
abbrev AlW : Type := Bool × List FnW × List FnC
def obsW (fa : List Fct) (fn : List DefD) (fc : List CloD) (K : PySem.W.Frag) : AlW := ((fa.all fun f => f K) && fn.all fun d => d.ok K, fn.map fun d => fnW K d.at_, fc.map fun d => fnC K d.at_)
def valW (fn : List DefD) (fc : List CloD) : AlW := (true, fn.map DefD.val, fc.map CloD.val)
def SaysW (fa : List Fct) (fn : List DefD) (fc : List CloD) (K : PySem.W.Frag) : Prop := obsW fa fn fc K = valW fn fc
def roots : List Addr := [mainGlobals, PySem.cStatics, sysModules]
section
variable {fa : List Fct} {fn : List DefD} {fc : List CloD} {K : PySem.W.Frag}
theorem SaysW.fact (c : SaysW fa fn fc K) (i : Nat) {f : Fct} (h : fa[i]? = some f := by rfl) : f K = true := by
  have c1 := (ba (show ((fa.all fun f => f K) && fn.all fun d => d.ok K) = true from congrArg (fun z : AlW => z.1) c)).1
  exact List.all_eq_true.mp c1 f (List.mem_of_getElem? h)
theorem SaysW.def_ (c : SaysW fa fn fc K) (i : Nat) {d : DefD} (h : fn[i]? = some d := by rfl) : ∃ fd, FunD K d.name d.qual d.params d.body d.scope (d.dvs K) (d.kws K) (fAd K d.at_) fd := by
  have c2 := (ba (show ((fa.all fun f => f K) && fn.all fun d => d.ok K) = true from congrArg (fun z : AlW => z.1) c)).2
  have e : fn.map (fun d => fnW K d.at_) = fn.map DefD.val := congrArg (fun z : AlW => z.2.1) c
  have e2 : (fn.map fun d => fnW K d.at_)[i]? = (fn.map DefD.val)[i]? := by rw [e]
  rw [List.getElem?_map, List.getElem?_map, h] at e2
  exact DefD.funD (Option.some.inj e2) (List.all_eq_true.mp c2 d (List.mem_of_getElem? h))
theorem SaysW.clo (c : SaysW fa fn fc K) (i : Nat) {d : CloD} (h : fc[i]? = some d := by rfl) : fnC K d.at_ = d.val := by
  have e : fc.map (fun d => fnC K d.at_) = fc.map CloD.val := congrArg (fun z : AlW => z.2.2) c
  have e2 : (fc.map fun d => fnC K d.at_)[i]? = (fc.map CloD.val)[i]? := by rw [e]
  rw [List.getElem?_map, List.getElem?_map, h] at e2
  exact Option.some.inj e2
end
/-- a def without defaults of its own -/
theorem fun_of {K : PySem.W.Frag} {x qual : Str} {st : Stmt} {kws : List (Str × V)} {f : Addr} {fd : FuncData} (F : FunD K x qual (defArgs st) (defBody st) (defScope st) [] kws f fd) : Fun K x qual st f fd := by
  obtain ⟨oc, od, dV, kV, doc, pm, an, cdv, ct, osl, rfl, lk, hcd, hD, hK⟩ := F.ex
  rcases hD with ⟨_, rfl⟩ | ⟨e, _⟩
  · exact ⟨⟨oc, od, kV, doc, pm, an, cdv, ct, osl, rfl, lk, hcd⟩, F.kp⟩
  · exact absurd rfl e
def tGlo (x : Str) : Fct := fun K => (Fa.glo x).ok K
def tKeep (x : Str) : Fct := fun K => (Fa.keep x).ok K
def tFree (x : Str) : Fct := fun K => (Fa.free x).ok K
def tCls (x : Str) : Fct := fun K => (Fa.cls x).ok K
def tNoat (x f : Str) : Fct := fun K => (Fa.noat x f).ok K
def tMeth_ (x m : Str) : Fct := fun K => (Fa.meth x m).ok K
def tMkr (x : Str) : Fct := fun K => (Fa.mkr x).ok K
def tExc (x : Str) : Fct := fun K => (Fa.exc x).ok K
def tExm (x y : Str) (b : Bool) : Fct := fun K => (Fa.exm x y b).ok K
def tKit (x y : Str) (b : Bool) : Fct := fun K => decide (PySem.W.kitOne K (.ref (ga K x)) (.ref (ga K y)) = some b)
def tSys : Fct := fun K => (K.lookup sysModules).isSome
/-- an instance's __class__ -/
def tKlass (x : Str) : Fct := fun K => eqO (PySem.W.findIn K (.ref (ga K x)) "__class__") (some (some (.builtin "object.__class__"))) && (eqO (PySem.W.specialIn K (.builtin "object.__class__") "__get__") (some (some (.builtin "getset_descriptor.__get__"))) &&
  (decide (PySem.W.takesIn K (.builtin "object.__class__") = some true) && decide (PySem.W.mroIn K (ga K x) (.type "object") = some true)))
theorem klass_ok {K : PySem.W.Frag} {x : Str} (h : tKlass x K = true) : PySem.W.findIn K (.ref (ga K x)) "__class__" = some (some (.builtin "object.__class__")) ∧ PySem.W.specialIn K (.builtin "object.__class__") "__get__" = some (some (.builtin "getset_descriptor.__get__")) ∧
    PySem.W.takesIn K (.builtin "object.__class__") = some true ∧ PySem.W.mroIn K (ga K x) (.type "object") = some true := by
  obtain ⟨h1, h⟩ := ba h
  obtain ⟨h2, h⟩ := ba h
  obtain ⟨h3, h4⟩ := ba h
  exact ⟨eqO_ok h1, eqO_ok h2, of_decide_eq_true h3, of_decide_eq_true h4⟩
/-- an exception class, kept behind its suite -/
def tExD (x : Str) : Fct := fun K => (PySem.W.clsIn K (ga K x)).isSome && (eqO (PySem.W.findIn K (.ref (ga K x)) "__getattribute__") (some (some (.builtin "BaseException.__getattribute__"))) && (eqO (PySem.W.findIn K (.ref (ga K x)) "__getattr__") (some none) &&
  (decide (PySem.W.subIn K (.ref (ga K x)) (.type "BaseException") = some true) && (PySem.W.hasDictIn K (ga K x) && tKlass x K))))
theorem exd_ok {K : PySem.W.Frag} {x : Str} (h : tExD x K = true) : ExD K (ga K x) := by
  obtain ⟨h1, h⟩ := ba h
  obtain ⟨h2, h⟩ := ba h
  obtain ⟨h3, h⟩ := ba h
  obtain ⟨h4, h⟩ := ba h
  obtain ⟨h5, h6⟩ := ba h
  obtain ⟨a, b, c, d⟩ := klass_ok h6
  exact ⟨h1, eqO_ok h2, eqO_ok h3, of_decide_eq_true h4, h5, a, b, c, d⟩
def fIn (K : PySem.W.Frag) (x : Str) : Addr := ma K (ga K x) "__init__"
def ccIn (K : PySem.W.Frag) (x : Str) : Addr := match K.lookup (fIn K x) with
  | some ⟨_, _, .func fd, _⟩ => (match fd.closure with
    | [(_, a)] => a
    | _ => 0)
  | _ => 0
def cdIn (K : PySem.W.Frag) (x : Str) : Addr := match K.lookup (fIn K x) with
  | some ⟨_, _, .func fd, _⟩ => (match fd.code with
    | .ref a => a
    | _ => 0)
  | _ => 0
def bClsVE (K : PySem.W.Frag) (C : Addr) : Bool := match K.lookup C with
  | some ⟨.type "type", _, .cls cd, sl⟩ => (match cd.mro, sl.toList with
    | .ref C' :: bm, [_, _, _, _, some (.builtin n), _] => decide (C' = C) && (decide (n = "ValueError.__new__") && (!cd.hasDel && (cd.hasDict && PySem.HandSPX.refsVE bm)))
    | _, _ => false)
  | _ => false
theorem clsVE_ok {K : PySem.W.Frag} {C : Addr} (h : bClsVE K C = true) : ∃ nm q N bs bm sn sub ab col dd k0 k1 k2 k3 k5, K.lookup C = some (excClassObj nm q C N bs bm true sn sub ab col dd k0 k1 k2 k3 k5 "ValueError.__new__") ∧ PySem.HandSPX.refsVE bm = true := by
  unfold bClsVE at h
  split at h
  · rename_i dd cd sl ho
    split at h
    · rename_i C' bm k0 k1 k2 k3 n k5 hm hs
      obtain ⟨h1, h⟩ := ba h
      obtain ⟨h2, h⟩ := ba h
      obtain ⟨h3, h⟩ := ba h
      obtain ⟨h4, h5⟩ := ba h
      have e1 := of_decide_eq_true h1
      have e2 := of_decide_eq_true h2
      subst e1 e2
      obtain ⟨nm, bs, mro, ns, qn, hd, sn, sub, ab, col, del⟩ := cd
      dsimp only at hm h3 h4
      subst hm h4
      have h3' : del = false := by cases del <;> first | rfl | cases h3
      subst h3'
      have hsl : sl = #[k0, k1, k2, k3, some (.builtin "ValueError.__new__"), k5] := by
        obtain ⟨l⟩ := sl
        simp only at hs
        rw [hs]
      subst hsl
      exact ⟨nm, qn, ns, bs, bm, sn, sub, ab, col, dd, k0, k1, k2, k3, k5, ho, h5⟩
    · cases h
  · cases h
def bCell (K : PySem.W.Frag) (c C : Addr) : Bool := match K.lookup c with
  | some ⟨_, _, .cell (some (.ref D)), _⟩ => decide (D = C)
  | _ => false
theorem cell_ok {K : PySem.W.Frag} {c C : Addr} (h : bCell K c C = true) : ∃ (cl : Value) (cld : Option Addr) (csl : Array (Option Value)), K.lookup c = some ⟨cl, cld, .cell (some (.ref C)), csl⟩ := by
  unfold bCell at h
  split at h
  · rename_i cl cld D csl ho
    have e := of_decide_eq_true h
    subst e
    exact ⟨_, _, _, ho⟩
  · cases h
def bCode (K : PySem.W.Frag) (c : Addr) (file : Str) : Bool := match K.lookup c with
  | some ⟨_, _, .fields vs, _⟩ => (match (vs[2]? : Option Value) with
    | some (Value.str f _) => file == f
    | _ => false)
  | _ => false
theorem code_ok {K : PySem.W.Frag} {c : Addr} {fl : Str} (h : bCode K c fl = true) : ∃ (ccl : Value) (cdd : Option Addr) (vs : Array Value) (ccs : Array (Option Value)) (file : Str) (tf : Tok), K.lookup c = some ⟨ccl, cdd, .fields vs, ccs⟩ ∧ vs[2]? = some (.str file tf) ∧ (fl == file) = true := by
  unfold bCode at h
  split at h
  · rename_i ccl cdd vs ccs ho
    split at h
    · rename_i f t hv
      exact ⟨_, _, _, _, _, _, ho, hv, h⟩
    · cases h
  · cases h
def bFn (K : PySem.W.Frag) (f : Addr) (q : Str) : Bool := match K.lookup f with
  | some ⟨_, _, .func fd, _⟩ => (match fd.closure, fd.code, fd.defaults with
    | [(_, _)], .ref _, .none => PySem.W.codeIn K fd.code q
    | _, _, _ => false)
  | _ => false
def tSup (x f : Str) (file : Str) : Fct := fun K => bClsVE K (ga K x) && (eqO (PySem.W.findIn K (.ref (ga K x)) "__setattr__") (some (some (.builtin "object.__setattr__"))) && (eqO (PySem.W.findIn K (.ref (ga K x)) f) (some none) &&
  (eqO (PySem.W.findIn K (.ref (ga K x)) "__init__") (some (some (.ref (fIn K x)))) && (decide (PySem.W.typeIn K (.ref (fIn K x)) = some (.type "function")) && (PySem.W.keepIn K (.ref (ga K x)) && (decide (PySem.W.subIn K (.ref (ga K x)) (.type "BaseException") = some true) &&
  (decide (PySem.W.subIn K (.ref (ga K x)) (.type "ValueError") = some true) && (decide (PySem.W.mroIn K (ga K x) (.ref (ga K x)) = some true) && (decide (PySem.W.typeIn K (.ref (ga K x)) = some (.type "type")) &&
  (eqO (PySem.W.ks_superIn K (ga K x) (ga K x) "__init__") (some (some (.builtin "ValueError.__init__"))) && (eqO (PySem.W.nsIn K PySem.cStatics "thirdparty.any") (some none) && (bCell K (ccIn K x) (ga K x) && (bCode K (cdIn K x) file && bFn K (fIn K x) (x ++ ".__init__"))))))))))))))
theorem sup_ok {P : Program} {K : PySem.W.Frag} {mg : Str → Option Value} {x f : Str} {arg : Expr} {args : Arguments} {sc : Scope} {p0 p1 p2 p3 p4 p5 p6 p7 p8 : Pos} (c : tSup x f P.main.file K = true)
    (e : fnC K (x, some "__init__") = CloD.val ⟨(x, some "__init__"), "__init__", x ++ ".__init__", args, PySem.WbX.supB arg f p0 p1 p2 p3 p4 p5 p6 p7 p8, sc⟩) (noS : mg "super" = none) (hl : (p2.endLine == p3.line) = true)
    (hb : ∀ (kV doc pm : Value) (an : Option Addr) (cda cc : Addr) (ct u v : Value), PySem.bindArgs (PySem.W.ksFn "__init__" (x ++ ".__init__") args (PySem.WbX.supB arg f p0 p1 p2 p3 p4 p5 p6 p7 p8) sc .none kV doc pm an (.ref cda) ct cc) ⟨[u, v], []⟩ = pure [(("self" : Str), u), (f, v)])
    (hd : (args.posonlyargs ++ args.args).head?.map (·.arg) = some ("self" : Str)) (top : (P.main.scope.names.lookup ("super" : Str)).isSome = false) (sc1 : sc.names.lookup ("super" : Str) = some .globalImplicit) (sc2 : sc.names.lookup ("__class__" : Str) = some .free)
    (sc3 : sc.names.lookup ("self" : Str) = some .local) (sc4 : sc.names.lookup f = some .local) (sck : sc.kind = .function) (scc : sc.isCoroutine = false) (scg : sc.isGenerator = false) (nocell : ∀ y ∈ sc.names, y.2 ≠ .cell) (fs : (f == ("self" : Str)) = false) (fd : (f == ("__debug__" : Str)) = false) :
    PySem.WbX.Sup P K mg (ga K x) (fIn K x) (ccIn K x) (cdIn K x) (x ++ ".__init__") f arg args sc := by
  obtain ⟨c1, c⟩ := ba c
  obtain ⟨c2, c⟩ := ba c
  obtain ⟨c3, c⟩ := ba c
  obtain ⟨c4, c⟩ := ba c
  obtain ⟨c5, c⟩ := ba c
  obtain ⟨c6, c⟩ := ba c
  obtain ⟨c7, c⟩ := ba c
  obtain ⟨c8, c⟩ := ba c
  obtain ⟨c9, c⟩ := ba c
  obtain ⟨c10, c⟩ := ba c
  obtain ⟨c11, c⟩ := ba c
  obtain ⟨c12, c⟩ := ba c
  obtain ⟨c13, c⟩ := ba c
  obtain ⟨c14, c15⟩ := ba c
  refine ⟨clsVE_ok c1, eqO_ok c2, eqO_ok c3, eqO_ok c4, of_decide_eq_true c5, c6, of_decide_eq_true c7, of_decide_eq_true c8, of_decide_eq_true c9, of_decide_eq_true c10, eqO_ok c11, eqO_ok c12, noS, cell_ok c13, code_ok c14, ?_, hd, top, sc1, sc2, sc3, sc4, sck, scc, scg, nocell, fs, fd⟩
  have ef : fAd K (x, some "__init__") = fIn K x := rfl
  unfold fnC at e
  rw [ef] at e
  unfold bFn at c15
  unfold ccIn cdIn
  cases q : K.lookup (fIn K x) with
  | none => rw [q] at c15; cases c15
  | some o =>
    obtain ⟨oc, od, dt, osl⟩ := o
    rw [q] at c15 e
    cases dt with
    | func fd =>
      obtain ⟨n1, n2, n3, n4, n5, n6, n7, n8, n9, n10, n11, n12, n13, n14, n15⟩ := fd
      have e2 : (some (n1, n2, n3, n4, n5, n6, n7.map (·.1), n15) : FnC) = (some (("__init__" : Str), x ++ ".__init__", args, FuncBody.stmts (PySem.WbX.supB arg f p0 p1 p2 p3 p4 p5 p6 p7 p8), sc, mainGlobals, [("__class__" : Str)], builtinsNs) : FnC) := e
      simp only [Option.some.injEq, Prod.mk.injEq] at e2
      obtain ⟨h1, h2, h3, h4, h5, h6, h7, h8⟩ := e2
      subst h1 h2 h3 h4 h5 h6 h8
      match n7, n13, n8, c15, h7 with
      | [(nm, a)], .ref cda, .none, c15, h7 =>
        have h9 : nm = ("__class__" : Str) := by
          have z : [nm] = [("__class__" : Str)] := h7
          injection z
        subst h9
        exact ⟨oc, od, n9, n10, n11, n12, n14, osl, p0, p1, p2, p3, p4, p5, p6, p7, p8, rfl, c15, hl, fun u v => hb _ _ _ _ _ _ _ u v⟩
    | _ => cases c15
end L2.Wb
namespace L2.Wb
open PySem PySem.Spec PyProof.Rows L2
end L2.Wb
set_option Elab.async false
set_option linter.all false
set_option maxRecDepth 100000
set_option maxHeartbeats 4000000
namespace PySem.WbT
open PySem PySem.W PySem.Calls PySem.SeqAt
theorem slot_type_eq : Slot "type" "__eq__" "object.__eq__" := .of (owner := "object") (n := "__eq__") (by rw [typeLookup_type, builtinLookup_eq_fast]; kernel_rfl) (by decide +kernel) (by decide +kernel) (by decide +kernel)
    (by first | exact .inl (by decide +kernel) | exact .inr (by decide +kernel)) (by rw [isSubtype_type]; kernel_rfl)
/-- a plain built-in type -/
def Plain (n : String) : Prop := typeOf (.type n) = pure (.type "type")
theorem plain_str : Plain "str" := by first | kernel_rfl | rfl
theorem plain_int : Plain "int" := by first | kernel_rfl | rfl
theorem plain_bool : Plain "bool" := by first | kernel_rfl | rfl
theorem plain_none : Plain "NoneType" := by first | kernel_rfl | rfl
theorem plain_list : Plain "list" := by first | kernel_rfl | rfl
theorem plain_tuple : Plain "tuple" := by first | kernel_rfl | rfl
theorem plain_dict : Plain "dict" := by first | kernel_rfl | rfl
section
variable {prog : Program} {w : World} {A : Around} {E : Value → Shared → Prop} {s : Shared} {a b : String}
theorem same_ty {M : Model} (h : a ≠ b) {Q : Bool → Shared → Prop} (q : Q false s) : wpAny M A (isSame (.type a) (.type b)) Q E s := by
  have e : (Value.type a == Value.type b) = false := beq_eq_false_iff_ne.mpr fun z => h (Value.type.inj z)
  show wpAny M A (pure (Value.type a == Value.type b)) Q E s
  rw [e]
  exact wpAny_pure q
theorem ty_eq_call (ha : Plain a) (h : a ≠ b) {Q : Value → Shared → Prop} (q : Q .notImplemented s) : wpAny (model prog w) A (call (.builtin "object.__eq__") [.type a, .type b]) Q E s := by
  refine wpAny_call_entry slot_type_eq (show s.TypeIs (.type a) "type" from ha) F.cmpEntry_eq ?_ (F.cmpArgs_eq _ _)
  unfold Builtin.«object.__eq__»
  repeat (first | with_reducible refine same_ty h ?_ | wp_step)
  all_goals exact ⟨_, rfl, q⟩
theorem rc_ty (ha : Plain a) (hb : Plain b) (h : a ≠ b) : RcAt A s (.type a) (.type b) false := fun prog w E Q q => by
  have hTa : s.TypeIs (.type a) "type" := ha
  have hTb : s.TypeIs (.type b) "type" := hb
  simp only [richCompare]
  rcases hi : cmpInfo CmpOp.Eq with ⟨sym, f, r⟩
  cases hi
  have h1 := Shared.TypeIs.oneThing_none hTa (b := .type b) (op := .Eq)
  rw [h1]
  refine wpAny_holding (wpAny_bind (wpAny_cRoomFor_byValue rfl ?_))
  refine wpAny_bind (wpAny_typeOf hTa (wpAny_bind (wpAny_typeOf hTb ?_)))
  rw [show (Value.type "type" != Value.type "type") = false by decide]
  refine wpAny_bind (wpAny_pure ?_)
  simp only [Bool.false_eq_true, if_false, Bool.not_false, if_true]
  refine wpAny_bind (m := tryCompare (.type a) _ (.type b)) (wpAny_tryCompare_declines hTa slot_type_eq (ty_eq_call ha h ⟨rfl, ?_⟩))
  refine wpAny_bind (m := tryCompare (.type b) _ (.type a)) (wpAny_tryCompare_declines hTb slot_type_eq (ty_eq_call hb (fun z => h z.symm) ⟨rfl, ?_⟩))
  exact wpAny_bind (wpAny_rule (wpAny_bind (same_ty h (wpAny_pure q))))
theorem eq_ty (ha : Plain a) (hb : Plain b) : EqAt A s (.type a) (.type b) (decide (a = b)) := fun prog w E Q q => by
  unfold eqBool
  refine wpAny_holding (wpAny_ite_split (fun hab => ?_) (fun hab => ?_))
  · have e : a = b := Value.type.inj (eq_of_beq hab)
    rw [decide_eq_true e] at q
    exact wpAny_bind (wpAny_rule (wpAny_pure q))
  · have e : a ≠ b := fun z => hab (by rw [z]; exact beq_self_eq_true _)
    rw [decide_eq_false e] at q
    exact wpAny_bind (rc_ty ha hb e prog w E _ (wpAny_truthy_bool q))
end
end PySem.WbT
namespace L2.Wb
open PySem PySem.Spec PyProof.Rows
section
variable {X : Cx}
/-- a type in a tuple of types -/
def rTyIn (K : PySem.W.Frag) : R2 := fun x y H Q => ∃ (n : String) (p : Addr) (ns : List String), x = .ty n ∧ y = .ref p ∧ PySem.WbT.Plain n ∧ (∀ m ∈ ns, PySem.WbT.Plain m) ∧ SqT K H p (ns.map V.ty) ∧ Q (.bl (ns.any fun m => decide (m = n))) H
theorem tys_of : ∀ {ns : List String} {us : List Value}, Vals (ns.map V.ty) us → us = ns.map Value.type
  | [], _, .nil => rfl
  | n :: ns, _, .cons r t => by rw [show _ = Value.type n from r, tys_of t]; rfl
theorem op_tyIn : OpR X (compareOp .In) (rTyIn X.K) := by
  intro pins s σ H x y v u Q I rx ry ⟨n, p, ns, ex, ey, hn, hns, ht, q⟩
  subst ex ey
  cases (show v = Value.type n from rx)
  cases (show u = Value.ref p from ry)
  obtain ⟨its, r, pl, _⟩ := I.tuple ht
  cases tys_of r
  refine SeqAt.in_tupleAt (fun z => match z with | .type m => decide (m = n) | _ => false) pl (fun z hz => ?_) ⟨.bl _, H, I, rfl, ?_⟩
  · obtain ⟨m, hm, rfl⟩ := List.mem_map.mp (show z ∈ ns.map Value.type by simpa using hz)
    exact PySem.WbT.eq_ty (hns m hm) hn
  · rw [show (ns.map Value.type).toArray.any (fun z => match z with | .type m => decide (m = n) | _ => false) = ns.any (fun m => decide (m = n)) by simp [List.any_map, Function.comp_def]]
    exact q
end
end L2.Wb
set_option Elab.async false
set_option linter.all false
set_option maxRecDepth 100000
set_option maxHeartbeats 4000000
namespace PySem.WbS
open PySem PySem.Spec PyProof.Rows
/-- the texts, each once -/
def once : List Str → List Str := List.foldl (fun l v => if l.any (· == v) then l else l ++ [v]) []
theorem once_snoc (l : List Str) (v : Str) : once (l ++ [v]) = if (once l).any (· == v) then once l else once l ++ [v] := by simp [once, List.foldl_append]
theorem any_eq_mem {l : List Str} {v : Str} : l.any (· == v) = true ↔ v ∈ l := by
  simp [List.any_eq_true]
theorem mem_once (v : Str) : ∀ l : List Str, v ∈ once l.reverse ↔ v ∈ l
  | [] => by simp [once]
  | x :: r => by
    rw [List.reverse_cons, once_snoc]
    have ih := mem_once v r
    by_cases h : (once r.reverse).any (· == x) = true
    · rw [if_pos h, ih, List.mem_cons]
      refine ⟨.inr, fun q => q.elim (fun e => ?_) id⟩
      rw [e]; exact (mem_once x r).mp (any_eq_mem.mp h)
    · rw [if_neg h, List.mem_append, ih, List.mem_singleton, List.mem_cons, or_comm]
theorem once_len (l : List Str) : (once l.reverse).length ≤ l.length ∧ ((once l.reverse).length = l.length ↔ l.Nodup) := by
  induction l with
  | nil => simp [once]
  | cons x r ih =>
    rw [List.reverse_cons, once_snoc]
    by_cases h : (once r.reverse).any (· == x) = true
    · rw [if_pos h]
      have hm : x ∈ r := (mem_once x r).mp (any_eq_mem.mp h)
      refine ⟨Nat.le_succ_of_le ih.1, ⟨fun e => ?_, fun n => absurd hm (List.nodup_cons.mp n).1⟩⟩
      have h1 := ih.1
      rw [List.length_cons] at e
      omega
    · rw [if_neg h]
      have hm : x ∉ r := fun q => h (any_eq_mem.mpr ((mem_once x r).mpr q))
      rw [List.length_append, List.length_cons, List.length_cons, List.length_nil]
      refine ⟨Nat.succ_le_succ ih.1, ⟨fun e => List.nodup_cons.mpr ⟨hm, ih.2.mp (by omega)⟩, fun n => by have := ih.2.mpr (List.nodup_cons.mp n).2; omega⟩⟩
theorem once_nodup (l : List Str) : decide ((once l).length = l.length) = decide l.Nodup := by
  have h := once_len l.reverse
  rw [List.reverse_reverse, List.length_reverse, (List.reverse_perm l).nodup_iff] at h
  by_cases n : l.Nodup
  · rw [decide_eq_true n, decide_eq_true (h.2.mpr n)]
  · rw [decide_eq_false n, decide_eq_false fun q => n (h.2.mp q)]
theorem once_le (l : List Str) : (once l).length ≤ l.length := by
  have h := (once_len l.reverse).1
  rw [List.reverse_reverse, List.length_reverse] at h
  exact h
section
variable {prog : Program} {w : World} {A : Around} {R : Result → Shared → Prop} {it : Addr} {fp wr : List Addr} {G : Array GenState → Array GenState → Prop} {n : Nat} {P : Nat → Value → Prop} {Sg : Nat → Shared → Prop}
abbrev SetIs (prog : Program) (w : World) (h : Heap) (a : Addr) (l : List Str) : Prop := h.SetOf (PySem.strKind prog w) a (fun k => (once l).any (· == k)) (once l).length
theorem set_same {h h' : Heap} {a : Addr} {l : List Str} (x : SetIs prog w h a l) (k : ∀ o, h.get? a = some o → h'.get? a = some o) : SetIs prog w h' a l := by
  obtain ⟨o, es, ep, t, ho, r⟩ := x
  exact ⟨o, es, ep, t, k o ho, r⟩
theorem fill (W : WalksS prog w A.in1 it fp wr G n P Sg) (a : Addr) (ha : a ∉ fp) (xs : List Str) (hn : xs.length = n) (hb : n + 1 < scanBound) (hv : ∀ i v, P i v → ∃ t, v = .str (xs.getD i Str.empty) t) :
    ∀ (k : Nat) (i : Nat) (s : Shared), i + k = n → Sg i s → SetIs prog w s.heap a (xs.take i) → (∀ s', Moved (a :: wr) G s s' → SetIs prog w s'.heap a xs → R (.ok (.ret .none)) s') → codeAny (model prog w) A (.builtin "set.update.loop" ⟨[.ref a, .ref it], []⟩) R s
  | 0, i, s, hk, hst, hS, hR => by
    subst hk
    refine codeAny_builtin PyProof.Rows.F.entry_set_update_loop ?_
    rw [Around.under_plainId PyProof.Rows.F.plain_set_update_loop _]
    show wpAny _ A.in1 (pyNext (.ref it) >>= _) _ _ s
    refine wpAny_bind (W.done s _ _ hst fun s' hm => ?_)
    show wpAny _ A.in1 (ret Value.none) _ _ s'
    refine wpAny_pure (hR s' (hm.mono fun b hb => List.mem_cons_of_mem _ hb) ?_)
    rw [List.take_of_length_le (by omega)] at hS
    exact set_same hS fun o e => hm.heap a o (fun q => ha (W.sub _ q)) e
  | k + 1, i, s, hk, hst, hS, hR => by
    have hi : i < n := by omega
    refine codeAny_builtin PyProof.Rows.F.entry_set_update_loop ?_
    rw [Around.under_plainId PyProof.Rows.F.plain_set_update_loop _]
    refine (wpAny_bind (W.item i s _ _ hi hst fun v s' hP hst' hm => ?_) : wpAny _ A.in1 (pyNext (.ref it) >>= _) _ _ s)
    obtain ⟨t, rfl⟩ := hv i v hP
    refine (wpAny_bind (wpAny_holding ?_) : wpAny _ A.in1 (holding [Value.str (xs.getD i Str.empty) t] (setAdd a (.str (xs.getD i Str.empty) t)) >>= _) _ _ s')
    have hx : xs.take (i + 1) = xs.take i ++ [xs.getD i Str.empty] := by
      rw [List.take_succ, List.getD_eq_getElem?_getD]
      cases e : xs[i]? with
      | none => exact absurd (List.getElem?_eq_none_iff.mp e) (by omega)
      | some y => simp
    unfold setAdd
    refine wpAny_holding (wpAny_bind ((PySem.strKind prog w).pyHash (k := xs.getD i Str.empty) (strKind_is _ _ _ _) ?_))
    have room : (once (xs.take i)).length + 1 < scanBound := by
      have := once_le (xs.take i)
      rw [List.length_take] at this
      omega
    refine wpAny_setAddHashed_of (knd := PySem.strKind prog w) (s := { s' with toks := s'.toks + 1 }) (strKind_is _ _ _ _) rfl (set_same hS fun o e => hm.heap a o (fun q => ha (W.sub _ q)) e) room fun h' hsb hS2 => ?_
    have hS3 : SetIs prog w h' a (xs.take (i + 1)) := by
      unfold SetIs
      rw [hx, once_snoc]
      by_cases c : (once (xs.take i)).any (· == xs.getD i Str.empty) = true
      · rw [if_pos c]
        refine SetOf_congr hS2 (fun k' => ?_) (if_pos c)
        by_cases e : k' = xs.getD i Str.empty
        · subst e; simp only [c, Bool.true_or]
        · rw [decide_eq_false e, Bool.or_false]
      · rw [if_neg c]
        refine SetOf_congr hS2 (fun k' => ?_) (by rw [if_neg c]; simp)
        rw [List.any_append, List.any_cons, List.any_nil, Bool.or_false]
        congr 1
        by_cases e : k' = xs.getD i Str.empty
        · subst e; simp
        · rw [decide_eq_false e]; exact (beq_eq_false_iff_ne.mpr fun q => e q.symm).symm
    have apart : ∀ b, b ∈ fp → b ≠ a := fun b hb e => ha (e ▸ hb)
    refine wpAny_pure ⟨plainId_quiet PyProof.Rows.F.plain_set_update_loop _, fill W a ha xs hn hb hv k (i + 1) _ (by omega) (W.frame _ s' _ _ hst' (Nat.le_succ _) fun b hb o e => (hsb.2 b (apart b hb)).trans e) hS3 fun s2 hm2 hS4 => ?_⟩
    refine hR s2 (Moved.trans W.gtrans ((hm.mono fun b hb => List.mem_cons_of_mem _ hb).then_heap (Nat.le_succ _) fun b o hb e => (hsb.2 b fun q => hb (by rw [q]; exact List.mem_cons_self)).trans e) hm2) hS4
end
section
variable {prog : Program} {w : World} {A : Around} {E : Value → Shared → Prop} {s : Shared}
abbrev bare (led : Bool) : Obj := { cls := .type "set", dict := none, data := .set #[] 0 (.fresh 0 0 led) }
set_option maxHeartbeats 8000000 in
theorem set_of_list {l : Addr} {items : Array Value} {xs : List Str} {Q : Value → Shared → Prop} (hh : A.handled = none) (hl : s.heap.IsList l items) (hi : StrsAre items.toList xs) (hb : xs.length + 1 < scanBound)
    (fin : ∀ (h' : Heap) (tk : Nat), SetIs prog w h' s.heap.objs.size xs → (∀ b o, s.heap.get? b = some o → h'.get? b = some o) → Q (.ref s.heap.objs.size) { s with heap := h', toks := tk }) : wpAny (model prog w) A (call (.type "set") [.ref l]) Q E s := by
  have fc := PySem.F.called_set
  obtain ⟨c, tl, hmro⟩ := fc.mro
  have hmade := fc.made; have hsub := fc.sub; have h1 := fc.notType; have h2 := fc.canCreate; have hct := PySem.F.typeCall_set_1 (.ref l)
  refine wpAny_call (codeAny_of_tree (show wpAny _ _ (callAny (.type "set") _) _ _ _ from wpAny_pure ⟨Code.quiet_builtin _ (by decide +kernel), codeAny_builtin PySem.F.entry_type_call ?_⟩))
  rw [Around.under_plain (weight_type_call_type "set" [.ref l] []) rfl]
  repeat (any_goals (first | assumption | wp_step))
  refine codeAny_mono (code_set_new_1 (.ref l) (E := E) (Q₁ := fun o z => ∃ led : Bool, o = .ref s.heap.objs.size ∧ z = { s with heap := s.heap.push (bare led) }) fun led => ⟨led, rfl, rfl⟩) fun r z hr => ?_
  match r, hr with
  | .error e, hr => exact hr
  | .ok .next, hr => exact hr.elim
  | .ok .brk, hr => exact hr.elim
  | .ok .cont, hr => exact hr.elim
  | .ok (.ret o), ⟨led, e1, e2⟩ =>
    subst e1 e2
    have hS : (s.heap.push (bare led)).get? s.heap.objs.size = some (bare led) := Heap.get?_push_size _ rfl
    have hT : Shared.TypeIs { s with heap := s.heap.push (bare led) } (.ref s.heap.objs.size) "set" := ⟨_, hS, rfl⟩
    have hli := fc.init.lookup
    have hbi := fc.init.bind (.ref s.heap.objs.size)
    repeat (any_goals (first | assumption | wp_step))
    refine codeAny_mono (codeAny_call_builtin (R := wants (fun r z => r = .none ∧ ∃ h' tk, z = { s with heap := h', toks := tk } ∧ SetIs prog w h' s.heap.objs.size xs ∧ ∀ b o, s.heap.get? b = some o → h'.get? b = some o) E) fc.init.plain PySem.F.entry_set_init (check_set_init_1 hT ?_)) fun r z hr => ?_
    · obtain ⟨⟨ocls, odict, odata, oslots⟩, hol, hcl, nl, hdl⟩ := hl
      simp only at hcl hdl
      subst hcl hdl
      have hol' : (s.heap.push (bare led)).get? l = some { cls := .type "list", dict := odict, data := .seq items nl, slots := oslots } := Heap.get?_push_of_some _ hol
      have hs1 := PySem.F.sub_list_set; have hs2 := PySem.F.sub_list_frozenset
      have hne : (Value.type "list" == Value.type "dict") = false := by decide
      have hl1 : (s.heap.push (bare led)).IsList l items := ⟨_, hol', rfl, nl, rfl⟩
      unfold Builtin.«set.__init__» noKeywords Builtin.Frozenset.updateFrom
      generalize hPI : pyIter = PI
      wp_walk
      subst hPI
      refine wpAny_pyIter_list hl1 (wpAny_bind (wpAny_runValue ?_))
      have hlS : l < s.heap.objs.size := Heap.lt_size hol
      have hneI : l ≠ (s.heap.push (bare led)).objs.size := by rw [Heap.size_push]; exact Nat.ne_of_lt (Nat.lt_succ_of_lt hlS)
      have hz : xs.length = items.size := by rw [← Array.length_toList]; exact hi.length.symm
      refine fill ((Walks.list (show A.in1.in1.in1.handled = none by simp [hh]) _ l hneI items).toS) s.heap.objs.size ?_ xs hz (by rw [← hz]; exact hb) (fun i v hv => SS.strs_at hi i v (by rw [Array.getElem?_toList]; exact hv)) items.size 0 _ (Nat.zero_add _)
        ⟨⟨_, Heap.get?_push_size _ rfl, rfl, rfl⟩, (hl1.push _)⟩ ?_ ?_
      · rw [Heap.size_push]
        simp only [List.mem_cons, List.mem_singleton, List.not_mem_nil, or_false, not_or]
        exact ⟨Nat.ne_of_lt (Nat.lt_succ_self _), Nat.ne_of_gt hlS⟩
      · have hget : ((s.heap.push (bare led)).push { cls := .type "list_iterator", data := .fields #[.ref l, .int 0 0] }).get? s.heap.objs.size = some (bare led) := Heap.get?_push_of_some _ hS
        exact SetOf_congr ((setObjOf_fresh (knd := PySem.strKind prog w) led).setOf hget (by unfold scanBound; omega)) (fun _ => rfl) rfl
      · intro s' hm hS'
        obtain ⟨h', g', d', tk', os'⟩ := s'
        have eg : g' = s.gens := hm.gens
        have ed : d' = s.drawn := hm.drawn
        have eo : os' = s.os := hm.os
        subst eg ed eo
        show wpAny _ _ _ _ _ _
        refine wpAny_pure ?_
        show wpAny _ _ (ret Value.none) _ _ _
        refine wpAny_pure ⟨rfl, h', tk', rfl, hS', fun b o e => hm.heap b o ?_ (Heap.get?_push_of_some _ (Heap.get?_push_of_some _ e))⟩
        have hlt := Heap.lt_size e
        rw [Heap.size_push]
        simp only [List.mem_cons, List.mem_singleton, List.not_mem_nil, or_false, not_or]
        exact ⟨Nat.ne_of_lt hlt, Nat.ne_of_lt (Nat.lt_succ_of_lt hlt)⟩
    · match r, hr with
      | .error e, hr => exact hr
      | .ok .next, hr => exact hr.elim
      | .ok .brk, hr => exact hr.elim
      | .ok .cont, hr => exact hr.elim
      | .ok (.ret q), ⟨e1, h', tk, e2, hS', hk'⟩ =>
        subst e1 e2
        repeat (any_goals (first | assumption | wp_step))
        exact fin _ _ hS' hk'
set_option maxHeartbeats 8000000 in
theorem set_of_tuple {l : Addr} {items : Array Value} {xs : List Str} {Q : Value → Shared → Prop} (hh : A.handled = none) (hl : s.heap.IsTuple l items) (hi : StrsAre items.toList xs) (hb : xs.length + 1 < scanBound)
    (fin : ∀ (h' : Heap) (tk : Nat), SetIs prog w h' s.heap.objs.size xs → (∀ b o, s.heap.get? b = some o → h'.get? b = some o) → Q (.ref s.heap.objs.size) { s with heap := h', toks := tk }) : wpAny (model prog w) A (call (.type "set") [.ref l]) Q E s := by
  have fc := PySem.F.called_set
  obtain ⟨c, tl, hmro⟩ := fc.mro
  have hmade := fc.made; have hsub := fc.sub; have h1 := fc.notType; have h2 := fc.canCreate; have hct := PySem.F.typeCall_set_1 (.ref l)
  refine wpAny_call (codeAny_of_tree (show wpAny _ _ (callAny (.type "set") _) _ _ _ from wpAny_pure ⟨Code.quiet_builtin _ (by decide +kernel), codeAny_builtin PySem.F.entry_type_call ?_⟩))
  rw [Around.under_plain (weight_type_call_type "set" [.ref l] []) rfl]
  repeat (any_goals (first | assumption | wp_step))
  refine codeAny_mono (code_set_new_1 (.ref l) (E := E) (Q₁ := fun o z => ∃ led : Bool, o = .ref s.heap.objs.size ∧ z = { s with heap := s.heap.push (bare led) }) fun led => ⟨led, rfl, rfl⟩) fun r z hr => ?_
  match r, hr with
  | .error e, hr => exact hr
  | .ok .next, hr => exact hr.elim
  | .ok .brk, hr => exact hr.elim
  | .ok .cont, hr => exact hr.elim
  | .ok (.ret o), ⟨led, e1, e2⟩ =>
    subst e1 e2
    have hS : (s.heap.push (bare led)).get? s.heap.objs.size = some (bare led) := Heap.get?_push_size _ rfl
    have hT : Shared.TypeIs { s with heap := s.heap.push (bare led) } (.ref s.heap.objs.size) "set" := ⟨_, hS, rfl⟩
    have hli := fc.init.lookup
    have hbi := fc.init.bind (.ref s.heap.objs.size)
    repeat (any_goals (first | assumption | wp_step))
    refine codeAny_mono (codeAny_call_builtin (R := wants (fun r z => r = .none ∧ ∃ h' tk, z = { s with heap := h', toks := tk } ∧ SetIs prog w h' s.heap.objs.size xs ∧ ∀ b o, s.heap.get? b = some o → h'.get? b = some o) E) fc.init.plain PySem.F.entry_set_init (check_set_init_1 hT ?_)) fun r z hr => ?_
    · obtain ⟨⟨ocls, odict, odata, oslots⟩, hol, hcl, nl, hdl⟩ := hl
      simp only at hcl hdl
      subst hcl hdl
      have hol' : (s.heap.push (bare led)).get? l = some { cls := .type "tuple", dict := odict, data := .seq items nl, slots := oslots } := Heap.get?_push_of_some _ hol
      have hs1 := PySem.F.sub_tuple_set; have hs2 := PySem.F.sub_tuple_frozenset
      have hne : (Value.type "tuple" == Value.type "dict") = false := by decide
      have hl1 : (s.heap.push (bare led)).IsTuple l items := ⟨_, hol', rfl, nl, rfl⟩
      unfold Builtin.«set.__init__» noKeywords Builtin.Frozenset.updateFrom
      generalize hPI : pyIter = PI
      wp_walk
      subst hPI
      refine wpAny_pyIter_tuple hl1 (wpAny_bind (wpAny_runValue ?_))
      have hlS : l < s.heap.objs.size := Heap.lt_size hol
      have hneI : l ≠ (s.heap.push (bare led)).objs.size := by rw [Heap.size_push]; exact Nat.ne_of_lt (Nat.lt_succ_of_lt hlS)
      have hz : xs.length = items.size := by rw [← Array.length_toList]; exact hi.length.symm
      refine fill ((Walks.tuple (show A.in1.in1.in1.handled = none by simp [hh]) _ l hneI items).toS) s.heap.objs.size ?_ xs hz (by rw [← hz]; exact hb) (fun i v hv => SS.strs_at hi i v (by rw [Array.getElem?_toList]; exact hv)) items.size 0 _ (Nat.zero_add _)
        ⟨⟨_, Heap.get?_push_size _ rfl, rfl, rfl⟩, (hl1.push _)⟩ ?_ ?_
      · rw [Heap.size_push]
        simp only [List.mem_cons, List.mem_singleton, List.not_mem_nil, or_false, not_or]
        exact ⟨Nat.ne_of_lt (Nat.lt_succ_self _), Nat.ne_of_gt hlS⟩
      · have hget : ((s.heap.push (bare led)).push { cls := .type "tuple_iterator", data := .fields #[.ref l, .int 0 0] }).get? s.heap.objs.size = some (bare led) := Heap.get?_push_of_some _ hS
        exact SetOf_congr ((setObjOf_fresh (knd := PySem.strKind prog w) led).setOf hget (by unfold scanBound; omega)) (fun _ => rfl) rfl
      · intro s' hm hS'
        obtain ⟨h', g', d', tk', os'⟩ := s'
        have eg : g' = s.gens := hm.gens
        have ed : d' = s.drawn := hm.drawn
        have eo : os' = s.os := hm.os
        subst eg ed eo
        show wpAny _ _ _ _ _ _
        refine wpAny_pure ?_
        show wpAny _ _ (ret Value.none) _ _ _
        refine wpAny_pure ⟨rfl, h', tk', rfl, hS', fun b o e => hm.heap b o ?_ (Heap.get?_push_of_some _ (Heap.get?_push_of_some _ e))⟩
        have hlt := Heap.lt_size e
        rw [Heap.size_push]
        simp only [List.mem_cons, List.mem_singleton, List.not_mem_nil, or_false, not_or]
        exact ⟨Nat.ne_of_lt hlt, Nat.ne_of_lt (Nat.lt_succ_of_lt hlt)⟩
    · match r, hr with
      | .error e, hr => exact hr
      | .ok .next, hr => exact hr.elim
      | .ok .brk, hr => exact hr.elim
      | .ok .cont, hr => exact hr.elim
      | .ok (.ret q), ⟨e1, h', tk, e2, hS', hk'⟩ =>
        subst e1 e2
        repeat (any_goals (first | assumption | wp_step))
        exact fin _ _ hS' hk'
end
end PySem.WbS
namespace L2.Wb
open PySem PySem.Spec PyProof.Rows
/-- len(set(xs)), xs a list or tuple of texts -/
def tLenOnce (K : PySem.W.Frag) (ta : TE) : TE := fun σ H Q => ta σ H fun x H1 => ∃ (l : Addr) (xs : List Str), x = .ref l ∧ (SqL K H1 l (xs.map V.str) ∨ SqT K H1 l (xs.map V.str)) ∧ xs.length ≤ 1000 ∧ Q (.int ((PySem.WbS.once xs).length : Nat)) H1
theorem pe_lenOnce {X : Cx} {a : Expr} {ta : TE} {p p2 q pos : Pos} (hc : X.calm = true) (hg : Gl X "len") (hm : X.mg "len" = none) (hg2 : Gl X "set") (hm2 : X.mg "set" = none) (ha : PE X a ta)
    (na : starEach [a] X.env = (false, eval a X.env) :: starEach [] X.env := by rfl) : PE X (.Call (.Name "len" p) [.Call (.Name "set" p2) [a] [] q] [] pos) (tLenOnce X.K ta) := by
  refine ⟨fun pins s σ H Q I h => Call_ (ld_blt I hg hm boot_len (callWith_builtin1 (args_cons ?_ rfl) rfl rfl))⟩
  refine Call_ (ld_blt I hg2 hm2 boot_set (callWith_type1 (args_cons (thn (ha.run pins s σ H _ I h) fun v z hz => args_nil ?_) na) na rfl))
  obtain ⟨x, H1, J, r1, l, xs, e, hq, h1, q1⟩ := hz
  subst e
  cases (show v = Value.ref l from r1)
  have hb : xs.length + 1 < scanBound := by unfold scanBound; omega
  have fin : ∀ (h' : Heap) (tk : Nat), PySem.WbS.SetIs X.prog X.w h' z.heap.objs.size xs → (∀ b o, z.heap.get? b = some o → h'.get? b = some o) →
      wpAny (model X.prog X.w) X.A (spliced (backTo pos (starEach [] X.env))) (fun vs s₂ => wpAny (model X.prog X.w) X.A (call (.builtin "len") (Value.ref z.heap.objs.size :: vs)) (EP X pins σ Q) X.xe s₂) X.xe { z with heap := h', toks := tk } := fun h' tk hS hk => by
    have hle := PySem.WbS.once_le xs
    obtain ⟨o, es, ep, t, ho, hex, hd, _, _, _, hf, hn⟩ := hS
    have J2 : Inv X pins σ H1 { z with heap := h', toks := tk } := J.kept hk
    exact args_nil (call_len_set ho hex hd hf (by rw [hn]; omega) ⟨.int ((PySem.WbS.once xs).length : Nat), H1, J2.tok _, ⟨_, by rw [hn]⟩, q1⟩)
  rcases hq with hq | hq
  · obtain ⟨its, r, pl, _⟩ := J.list hq
    exact PySem.WbS.set_of_list (J.ok.hd hc) pl.isList (by simpa using r.strs) hb fin
  · obtain ⟨its, r, pl, _⟩ := J.tuple hq
    exact PySem.WbS.set_of_tuple (J.ok.hd hc) pl (by simpa using r.strs) hb fin
end L2.Wb
set_option Elab.async false
set_option linter.all false
set_option maxRecDepth 100000
set_option maxHeartbeats 4000000
namespace L2.Wb
open PySem PySem.Spec PyProof.Rows
inductive Wk (K : PySem.W.Frag) (a : Addr) (xs : List V) : It → (Hp → Prop) → Prop
  | l : Wk K a xs (Itl K a) fun H => SqL K H a xs
  | t : Wk K a xs (Itt K a) fun H => SqT K H a xs
theorem sameT {K : PySem.W.Frag} {H H' : Hp} {a : Addr} {xs : List V} (e : Same H H') (h : SqT K H a xs) : SqT K H' a xs := Or.imp (fun r => Or.imp (e _ _) (fun ⟨o, z⟩ => ⟨o, e _ _ z⟩) r) id h
def iSeqV (K : PySem.W.Frag) (i : Nat) : TI := fun σ H R => ∃ (a : Addr) (xs : List V) (J : It) (S : Hp → Prop), σ[i]? = some (some (.ref a)) ∧ Wk K a xs J S ∧ S H ∧ R J H
theorem pi_seqV {X : Cx} {tg : Expr} (i : Nat) {x : Str} {pos : Pos} (hN : X.N[i]? = some x := by rfl) (hv : Vis X.env.scope x := by first | exact Or.inl rfl | exact Or.inr (Or.inl rfl) | exact Or.inr (Or.inr rfl)) (hd : (x == ("__debug__" : Str)) = false := by decide)
    (hcd : (x == ("__classdict__" : Str)) = false := by decide) : PI X tg (.Name x pos) (iSeqV X.K i) := by
  refine ⟨fun pins s σ H R I ⟨a, xs, J, S, hs, wk, hS, hR⟩ => ?_⟩
  cases wk with
  | l => exact (pi_list (pe_var hN hv hd hcd)).run pins s σ H R I ⟨_, hs, a, rfl, ⟨xs, hS⟩, hR⟩
  | t => exact (pi_tup (pe_var hN hv hd hcd)).run pins s σ H R I ⟨_, hs, a, rfl, ⟨xs, hS⟩, hR⟩
section
variable {K : PySem.W.Frag} {a : Addr} {xs : List V} {J : It} {S : Hp → Prop}
theorem Wk.stay (w : Wk K a xs J S) {H H' : Hp} (e : Same H H') (h : S H) : S H' := by
  cases w with
  | l => exact e.seq h
  | t => exact sameT e h
theorem lc_wk (wk : Wk K a xs J S) {g : TG} {tt : TT} {te : TE} {vs : List Nat} {σ : L2.St} {H1 : Hp} {D : Addr} {Qd : Hp → Prop} (Pv : Nat → Hp → Prop) (h0 : Pv 0 (upd H1 D (.lst []))) (hl : ∀ i H, i ≤ xs.length → Pv i H → S H)
    (hs : ∀ i x H, xs[i]? = some x → Pv i H → g x (wipe σ vs) H fun σ2 H2 => wipe σ2 vs = wipe σ vs ∧ tt σ2 H2 fun b H3 => if b = true then te σ2 H3 fun y H4 => ∃ acc, H4 D = some (.lst acc) ∧ acc.length < sizeLine ∧ Pv (i + 1) (upd H4 D (.lst (acc ++ [y]))) else Pv (i + 1) H3) (hd : ∀ H, Pv xs.length H → Qd H) :
    ∃ W : Nat → Nat → Hp → Prop, (∃ m, W 0 m (upd H1 D (.lst []))) ∧ ∀ i m H, W i m H → (J.stop i H ∧ Qd H) ∨ (J.go i H ∧ ∃ Nx : Hp → Prop, (∀ H', Nx H' → ∃ m', m' < m ∧ W (i + 1) m' H') ∧ ∀ x H', J.yld i H x H' → g x (wipe σ vs) H' fun σ2 H2 => wipe σ2 vs = wipe σ vs ∧ tt σ2 H2 fun b H3 =>
      if b = true then te σ2 H3 fun y H4 => ∃ acc, H4 D = some (.lst acc) ∧ acc.length < sizeLine ∧ Nx (upd H4 D (.lst (acc ++ [y]))) else Nx H3) := by
  cases wk with
  | l => exact lc_list Pv h0 hl hs hd
  | t => exact lc_tup Pv h0 hl hs hd
theorem for_wk (wk : Wk K a xs J S) {g : TG} {tb : TS} {D : Ends} {σ : L2.St} {H : Hp} (Pv : Nat → L2.St → Hp → Prop) (h0 : Pv 0 σ H) (hl : ∀ i σ H, i ≤ xs.length → Pv i σ H → S H)
    (hs : ∀ i x σ H, xs[i]? = some x → Pv i σ H → g x σ H fun σ2 H2 => tb { D with nx := Pv (i + 1), ct := Pv (i + 1), bk := D.nx } σ2 H2) (hd : ∀ σ H, Pv xs.length σ H → D.nx σ H) :
    ∃ W : Nat → Nat → L2.St → Hp → Prop, (∃ m, W 0 m σ H) ∧ ∀ i m σ H, W i m σ H → (J.stop i H ∧ D.nx σ H) ∨ (J.go i H ∧ ∃ N : L2.St → Hp → Prop, (∀ σ' H', N σ' H' → ∃ m', m' < m ∧ W (i + 1) m' σ' H') ∧ ∀ x H', J.yld i H x H' → g x σ H' fun σ2 H2 => tb { D with nx := N, ct := N, bk := D.nx } σ2 H2) := by
  cases wk with
  | l => exact for_list Pv h0 hl hs hd
  | t => exact for_tup Pv h0 hl hs hd
end
/-- no test -/
theorem yes {σ : L2.St} {H : Hp} {A B : Hp → Prop} (h : A H) : tYes σ H (fun b H3 => if b = true then A H3 else B H3) := by
  show if true = true then A H else B H
  rw [if_pos rfl]
  exact h
/-- a list of data at its place: list or tuple -/
theorem DxAll.get {H : Hp} : ∀ {vs : List V} {ds : List PyData}, DxAll H vs ds → ∀ {i : Nat} {v : V}, vs[i]? = some v → ∃ d, ds[i]? = some d ∧ Dx H v d
  | _, _, .nil, i, v, e => by simp at e
  | _, _, .cons h t, 0, v, e => by simp at e; subst e; exact ⟨_, rfl, h⟩
  | _, _, .cons h t, i + 1, v, e => DxAll.get t (by simpa using e)
theorem DxAll.len {H : Hp} : ∀ {vs : List V} {ds : List PyData}, DxAll H vs ds → vs.length = ds.length
  | _, _, .nil => rfl
  | _, _, .cons _ t => by simp [DxAll.len t]
theorem DxAll.snoc {H : Hp} : ∀ {vs : List V} {ds : List PyData} {v : V} {d : PyData}, DxAll H vs ds → Dx H v d → DxAll H (vs ++ [v]) (ds ++ [d])
  | _, _, _, _, .nil, h => .cons h .nil
  | _, _, _, _, .cons a b, h => .cons a (DxAll.snoc b h)
theorem DxAll.app {H : Hp} : ∀ {vs ws : List V} {ds es : List PyData}, DxAll H vs ds → DxAll H ws es → DxAll H (vs ++ ws) (ds ++ es)
  | _, _, _, _, .nil, h => h
  | _, _, _, _, .cons a b, h => .cons a (DxAll.app b h)
theorem DxAll.take {H : Hp} : ∀ {vs : List V} {ds : List PyData} (n : Nat), DxAll H vs ds → DxAll H (vs.take n) (ds.take n)
  | _, _, 0, _ => .nil
  | _, _, _ + 1, .nil => .nil
  | _, _, n + 1, .cons a b => .cons a (DxAll.take n b)
theorem DxAll.drop {H : Hp} : ∀ {vs : List V} {ds : List PyData} (n : Nat), DxAll H vs ds → DxAll H (vs.drop n) (ds.drop n)
  | _, _, 0, h => h
  | _, _, _ + 1, .nil => .nil
  | _, _, n + 1, .cons _ b => DxAll.drop n b
end L2.Wb
set_option Elab.async false
set_option linter.all false
set_option maxRecDepth 100000
set_option maxHeartbeats 4000000
namespace L2.Wb
open PySem PySem.Spec PyProof.Rows
/-- the heap without the addresses of N -/
noncomputable def cut (N : Addr → Prop) (H : Hp) : Hp := fun b => open Classical in if N b then none else H b
theorem cut_of {N : Addr → Prop} {H : Hp} {b : Addr} (h : ¬ N b) : cut N H b = H b := by unfold cut; rw [if_neg h]
theorem cut_in {N : Addr → Prop} {H : Hp} {b : Addr} {o : HO} (h : cut N H b = some o) : ¬ N b ∧ H b = some o := by
  unfold cut at h
  split at h
  · cases h
  · exact ⟨by assumption, h⟩
theorem cut_same {N : Addr → Prop} {H : Hp} : Same (cut N H) H := fun b o h => (cut_in h).2
/-- what is not of N stays -/
def Kept (N : Addr → Prop) (H H' : Hp) : Prop := ∀ b o, ¬ N b → H b = some o → H' b = some o
theorem Kept.refl (N : Addr → Prop) (H : Hp) : Kept N H H := fun _ _ _ h => h
theorem Kept.trans {N : Addr → Prop} {H H1 H2 : Hp} (a : Kept N H H1) (b : Kept N H1 H2) : Kept N H H2 := fun c o n h => b c o n (a c o n h)
theorem Same.kept {N : Addr → Prop} {H H' : Hp} (e : Same H H') : Kept N H H' := fun b o _ h => e b o h
theorem Same.new {H : Hp} {l : Addr} {o : HO} (h : H l = none) : Same H (upd H l o) := fun b u z => by rw [upd_ne (ne_of_none z h)]; exact z
theorem Kept.upd {N : Addr → Prop} {H : Hp} {a : Addr} {o : HO} (h : N a) : Kept N H (upd H a o) := fun b u n z => by
  rw [L2.upd_ne fun e => n (by rw [e]; exact h)]; exact z
end L2.Wb
set_option Elab.async false
set_option linter.all false
set_option maxRecDepth 100000
set_option maxHeartbeats 4000000
namespace L2.Q
open PySem PySem.Spec PyProof.Rows L2 L2.Wb
theorem cutAt {N : Addr → Prop} {H : Hp} {b : Addr} {o : HO} (hn : ¬ N b) (h : H b = some o) : cut N H b = some o := by rw [cut_of hn]; exact h
def sk (d : Int) (gl cl : Addr) (t : Int) : List (Key × V) := [(.inr "digits", .int d), (.inr "great", .ref gl), (.inr "cells", .ref cl), (.inr "turn", .int t)]
/-- the state of the drawing at st, its lists at gl and cl; at most n draws by turns ahead -/
structure LS (st gl cl : Addr) (n : Nat) (H : Hp) : Prop where
  ex : ∃ (d : Int) (gs cs : List Int) (t : Int), H st = some (.dK (sk d gl cl t)) ∧ H gl = some (.lst (gs.map V.int)) ∧ H cl = some (.lst (cs.map V.int)) ∧ 0 ≤ d ∧ (∀ g ∈ gs, 0 ≤ g) ∧ gs.length ≤ 63 ∧ cs.length ≤ 63 ∧ 0 ≤ t ∧ t ≤ n
  ne : gl ≠ cl
def N3 (st gl cl : Addr) : Addr → Prop := fun b => b = st ∨ b = gl ∨ b = cl
/-- no tuple stands there -/
def NoTup : HO → Prop
  | .tup _ => False
  | _ => True
def unT : HO → HO
  | .tup _ => .lst []
  | o => o
theorem unT_no (o : HO) : NoTup (unT o) := by cases o <;> exact trivial
theorem unT_eq {o : HO} (h : NoTup o) : unT o = o := by
  cases o with
  | tup => exact h.elim
  | _ => rfl
theorem LS.mono {st gl cl : Addr} {n m : Nat} {H : Hp} (h : LS st gl cl n H) (e : n ≤ m) : LS st gl cl m H := by
  obtain ⟨⟨d, gs, cs, t, h1, h2, h3, h4, h5, h6, h7, h8, h9⟩, ne⟩ := h
  exact ⟨⟨d, gs, cs, t, h1, h2, h3, h4, h5, h6, h7, h8, by omega⟩, ne⟩
theorem LS.has {st gl cl : Addr} {n : Nat} {H : Hp} (h : LS st gl cl n H) {b : Addr} (hb : N3 st gl cl b) : ∃ o, H b = some o := by
  obtain ⟨⟨d, gs, cs, t, h1, h2, h3, _⟩, _⟩ := h
  rcases hb with rfl | rfl | rfl
  · exact ⟨_, h1⟩
  · exact ⟨_, h2⟩
  · exact ⟨_, h3⟩
theorem LS.hasN {st gl cl : Addr} {n : Nat} {H : Hp} (h : LS st gl cl n H) {b : Addr} (hb : N3 st gl cl b) : ∃ o, H b = some o ∧ NoTup o := by
  obtain ⟨⟨d, gs, cs, t, h1, h2, h3, _⟩, _⟩ := h
  rcases hb with rfl | rfl | rfl
  · exact ⟨_, h1, trivial⟩
  · exact ⟨_, h2, trivial⟩
  · exact ⟨_, h3, trivial⟩
inductive D where
  | non | bl (b : Bool) | int (i : Int) | str (x : Str)
  | lst (ds : List D) | tup (ds : List D)
  | dct (ks : List Key) (ds : List D) | dcT (ks : List (List Key)) (ds : List D)
  | ins (c : Str) (fs : List Str) (ds : List D)
  | exc (c : Str) (fs : List Str) (ds : List D)
  | ext (φ : Addr → Heap → Prop)
  | st | raw (v : V)
instance : Inhabited D := ⟨.non⟩
/-- the written part, the classes by name, where the draws' state stands, the tables of code objects -/
structure Cn where
  K : PySem.W.Frag
  cA : Str → Addr
  sa : Addr
  T : List NdefX.NTab
mutual
inductive Rp (C : Cn) (H : Hp) : V → D → Prop
  | non : Rp C H .non .non
  | bl (b : Bool) : Rp C H (.bl b) (.bl b)
  | int (i : Int) : Rp C H (.int i) (.int i)
  | str (x : Str) : Rp C H (.str x) (.str x)
  | lst {a : Addr} {xs : List V} {ds : List D} : H a = some (.lst xs) → RpA C H xs ds → Rp C H (.ref a) (.lst ds)
  | tup {a : Addr} {xs : List V} {ds : List D} : H a = some (.tup xs) → RpA C H xs ds → Rp C H (.ref a) (.tup ds)
  | dct {a : Addr} {kvs : List (Key × V)} {ks : List Key} {ds : List D} : L2.Rd H a (.dK kvs) → kvs.map (·.1) = ks → RpA C H (kvs.map (·.2)) ds → Rp C H (.ref a) (.dct ks ds)
  | dcT {a : Addr} {kvs : List (List Key × V)} {ks : List (List Key)} {ds : List D} : L2.Rd H a (.dT kvs) → kvs.map (·.1) = ks → RpA C H (kvs.map (·.2)) ds → Rp C H (.ref a) (.dcT ks ds)
  | ins {a dx : Addr} {c : Str} {fs : List (Str × V)} {ks : List Str} {ds : List D} : H a = some (.ins (C.cA c) dx fs) → fs.map (·.1) = ks → RpA C H (fs.map (·.2)) ds → Rp C H (.ref a) (.ins c ks ds)
  | exc0 {a : Addr} {c : Str} : H a = some (exh (.ref (C.cA c)) none a) → Rp C H (.ref a) (.exc c [] [])
  | exc1 {a d : Addr} {c : Str} {fs : List (Str × V)} {ks : List Str} {ds : List D} : H a = some (exh (.ref (C.cA c)) (some d) a) → H d = some (.xd fs) → fs.map (·.1) = ks → RpA C H (fs.map (·.2)) ds → Rp C H (.ref a) (.exc c ks ds)
  | ext {a : Addr} {φ : Addr → Heap → Prop} : H a = some (.ext (φ a)) → Rp C H (.ref a) (.ext φ)
  | st : Rp C H (.ref C.sa) .st
  | raw (v : V) : Rp C H v (.raw v)
inductive RpA (C : Cn) (H : Hp) : List V → List D → Prop
  | nil : RpA C H [] []
  | cons {v : V} {vs : List V} {d : D} {ds : List D} : Rp C H v d → RpA C H vs ds → RpA C H (v :: vs) (d :: ds)
end
/-- what data leans on stays -/
structure Le (H H' : Hp) : Prop where
  l : ∀ a xs, H a = some (.lst xs) → H' a = some (.lst xs)
  t : ∀ a xs, H a = some (.tup xs) → H' a = some (.tup xs)
  k : ∀ a kvs, L2.Rd H a (.dK kvs) → L2.Rd H' a (.dK kvs)
  kt : ∀ a kvs, L2.Rd H a (.dT kvs) → L2.Rd H' a (.dT kvs)
  i : ∀ a C dx fs, H a = some (.ins C dx fs) → H' a = some (.ins C dx fs)
  e : ∀ a φ, H a = some (.ext φ) → H' a = some (.ext φ)
  x : ∀ a fs, H a = some (.xd fs) → H' a = some (.xd fs)
theorem Le.refl (H : Hp) : Le H H := ⟨fun _ _ h => h, fun _ _ h => h, fun _ _ h => h, fun _ _ h => h, fun _ _ _ _ h => h, fun _ _ h => h, fun _ _ h => h⟩
theorem Le.trans {H H1 H2 : Hp} (a : Le H H1) (b : Le H1 H2) : Le H H2 := ⟨fun x y h => b.l x y (a.l x y h), fun x y h => b.t x y (a.t x y h), fun x y h => b.k x y (a.k x y h), fun x y h => b.kt x y (a.kt x y h), fun x y z u h => b.i x y z u (a.i x y z u h), fun x y h => b.e x y (a.e x y h), fun x y h => b.x x y (a.x x y h)⟩
theorem rd_same {H H' : Hp} (e : Same H H') {a : Addr} {u : HO} (h : L2.Rd H a u) : L2.Rd H' a u := h.elim (fun h => .inl (e _ _ h)) fun ⟨o, h⟩ => .inr ⟨o, e _ _ h⟩
theorem Le.of {H H' : Hp} (e : Same H H') : Le H H' := ⟨fun _ _ h => e _ _ h, fun _ _ h => e _ _ h, fun _ _ h => rd_same e h, fun _ _ h => rd_same e h, fun _ _ _ _ h => e _ _ h, fun _ _ h => e _ _ h, fun _ _ h => e _ _ h⟩
mutual
theorem Rp.le {C : Cn} {H H' : Hp} (e : Le H H') : ∀ {v : V} {d : D}, Rp C H v d → Rp C H' v d
  | _, _, .non => .non
  | _, _, .bl b => .bl b
  | _, _, .int i => .int i
  | _, _, .str x => .str x
  | _, _, .lst h a => .lst (e.l _ _ h) (RpA.le e a)
  | _, _, .tup h a => .tup (e.t _ _ h) (RpA.le e a)
  | _, _, .dct h q a => .dct (e.k _ _ h) q (RpA.le e a)
  | _, _, .dcT h q a => .dcT (e.kt _ _ h) q (RpA.le e a)
  | _, _, .ins h q a => .ins (e.i _ _ _ _ h) q (RpA.le e a)
  | _, _, .exc0 h => .exc0 (e.e _ _ h)
  | _, _, .exc1 h q k a => .exc1 (e.e _ _ h) (e.x _ _ q) k (RpA.le e a)
  | _, _, .ext h => .ext (e.e _ _ h)
  | _, _, .st => .st
  | _, _, .raw v => .raw v
theorem RpA.le {C : Cn} {H H' : Hp} (e : Le H H') : ∀ {vs : List V} {ds : List D}, RpA C H vs ds → RpA C H' vs ds
  | _, _, .nil => .nil
  | _, _, .cons a b => .cons (Rp.le e a) (RpA.le e b)
end
section
variable {C : Cn} {H : Hp}
theorem RpA.len : ∀ {vs : List V} {ds : List D}, RpA C H vs ds → vs.length = ds.length
  | _, _, .nil => rfl
  | _, _, .cons _ t => congrArg Nat.succ (RpA.len t)
theorem RpA.get : ∀ {vs : List V} {ds : List D}, RpA C H vs ds → ∀ {i : Nat} {d : D}, ds[i]? = some d → ∃ v, vs[i]? = some v ∧ Rp C H v d
  | _, _, .nil, i, d, e => by simp at e
  | _, _, .cons h t, 0, d, e => by simp at e; subst e; exact ⟨_, rfl, h⟩
  | _, _, .cons h t, i + 1, d, e => RpA.get t (by simpa using e)
theorem RpA.app : ∀ {vs ws : List V} {ds es : List D}, RpA C H vs ds → RpA C H ws es → RpA C H (vs ++ ws) (ds ++ es)
  | _, _, _, _, .nil, h => h
  | _, _, _, _, .cons a b, h => .cons a (RpA.app b h)
theorem RpA.snoc {vs : List V} {ds : List D} {v : V} {d : D} (h : RpA C H vs ds) (x : Rp C H v d) : RpA C H (vs ++ [v]) (ds ++ [d]) := h.app (.cons x .nil)
theorem RpA.take : ∀ {vs : List V} {ds : List D} (n : Nat), RpA C H vs ds → RpA C H (vs.take n) (ds.take n)
  | _, _, 0, _ => .nil
  | _, _, _ + 1, .nil => .nil
  | _, _, n + 1, .cons a b => .cons a (RpA.take n b)
theorem RpA.drop : ∀ {vs : List V} {ds : List D} (n : Nat), RpA C H vs ds → RpA C H (vs.drop n) (ds.drop n)
  | _, _, 0, h => h
  | _, _, _ + 1, .nil => .nil
  | _, _, n + 1, .cons _ b => RpA.drop n b
theorem RpA.set : ∀ {vs : List V} {ds : List D} {v : V} {d : D} (n : Nat), RpA C H vs ds → Rp C H v d → RpA C H (vs.set n v) (ds.set n d)
  | _, _, _, _, _, .nil, _ => .nil
  | _, _, _, _, 0, .cons _ b, x => .cons x b
  | _, _, _, _, n + 1, .cons a b, x => .cons a (RpA.set n b x)
theorem RpA.rev : ∀ {vs : List V} {ds : List D}, RpA C H vs ds → RpA C H vs.reverse ds.reverse
  | _, _, .nil => .nil
  | _, _, .cons a b => by rw [List.reverse_cons, List.reverse_cons]; exact (RpA.rev b).snoc a
end
/-- a list or a dict that nobody else has: its items stand in Hc -/
inductive OwnAt (C : Cn) (Hc H : Hp) (a : Addr) : D → Prop
  | lst {us : List V} {ds : List D} : H a = some (.lst us) → RpA C Hc us ds → OwnAt C Hc H a (.lst ds)
  | dct {kvs : List (Key × V)} {ks : List Key} {ds : List D} : H a = some (.dK kvs) → kvs.map (·.1) = ks → RpA C Hc (kvs.map (·.2)) ds → OwnAt C Hc H a (.dct ks ds)
  | dcT {kvs : List (List Key × V)} {ks : List (List Key)} {ds : List D} : H a = some (.dT kvs) → kvs.map (·.1) = ks → RpA C Hc (kvs.map (·.2)) ds → OwnAt C Hc H a (.dcT ks ds)
theorem OwnAt.mono {C : Cn} {Hc Hc' H H' : Hp} {a : Addr} {d : D} (h : OwnAt C Hc H a d) (e : Le Hc Hc') (k : ∀ o, H a = some o → H' a = some o) : OwnAt C Hc' H' a d := by
  cases h with
  | lst h1 h2 => exact .lst (k _ h1) (h2.le e)
  | dct h1 h2 h3 => exact .dct (k _ h1) h2 (h3.le e)
  | dcT h1 h2 h3 => exact .dcT (k _ h1) h2 (h3.le e)
theorem OwnAt.rp {C : Cn} {Hc H : Hp} {a : Addr} {d : D} (h : OwnAt C Hc H a d) (k : ∀ o, H a = some o → Hc a = some o) : Rp C Hc (.ref a) d := by
  cases h with
  | lst h1 h2 => exact .lst (k _ h1) h2
  | dct h1 h2 h3 => exact .dct (.inl (k _ h1)) h2 h3
  | dcT h1 h2 h3 => exact .dcT (.inl (k _ h1)) h2 h3
theorem OwnAt.someN {C : Cn} {Hc H : Hp} {a : Addr} {d : D} (h : OwnAt C Hc H a d) : ∃ o, H a = some o ∧ NoTup o := by
  cases h with
  | lst h1 h2 => exact ⟨_, h1, trivial⟩
  | dct h1 h2 h3 => exact ⟨_, h1, trivial⟩
  | dcT h1 h2 h3 => exact ⟨_, h1, trivial⟩
theorem OwnAt.some {C : Cn} {Hc H : Hp} {a : Addr} {d : D} (h : OwnAt C Hc H a d) : ∃ o, H a = some o := by
  cases h with
  | lst h1 h2 => exact ⟨_, h1⟩
  | dct h1 h2 h3 => exact ⟨_, h1⟩
  | dcT h1 h2 h3 => exact ⟨_, h1⟩
theorem cut_rd {N : Addr → Prop} {H : Hp} {a : Addr} {u : HO} (h : L2.Rd (cut N H) a u) : ¬ N a ∧ L2.Rd H a u := h.elim (fun h => ⟨(cut_in h).1, .inl (cut_in h).2⟩) fun ⟨o, h⟩ => ⟨(cut_in h).1, .inr ⟨o, (cut_in h).2⟩⟩
/-- what stays, address by address -/
theorem le_cut {N M : Addr → Prop} {H H' : Hp} (h : ∀ b o, ¬ N b → H b = some o → ¬ M b ∧ H' b = some o) : Le (cut N H) (cut M H') := Le.of fun b o z => by
  obtain ⟨z1, z2⟩ := cut_in z
  obtain ⟨q1, q2⟩ := h b o z1 z2
  exact cutAt q1 q2
abbrev Sl := Option (D × Bool)
structure Env where
  sl : List Sl
  n : Nat
def getS : List Sl → Nat → Sl
  | [], _ => none
  | s :: _, 0 => s
  | _ :: r, i + 1 => getS r i
def setS : List Sl → Nat → Sl → List Sl
  | [], _, _ => []
  | _ :: r, 0, x => x :: r
  | s :: r, i + 1, x => s :: setS r i x
theorem getS_set : ∀ {l : List Sl} {i j : Nat} {x : Sl}, i < l.length → getS (setS l i x) j = if j = i then x else getS l j
  | _ :: r, 0, 0, x, _ => rfl
  | _ :: r, 0, j + 1, x, _ => rfl
  | _ :: r, i + 1, 0, x, _ => rfl
  | s :: r, i + 1, j + 1, x, h => by
    show getS (setS r i x) j = _
    rw [getS_set (Nat.lt_of_succ_lt_succ h)]
    by_cases c : j = i
    · rw [if_pos c, if_pos (by rw [c])]
    · rw [if_neg c, if_neg (by omega)]; rfl
theorem setS_len : ∀ {l : List Sl} {i : Nat} {x : Sl}, (setS l i x).length = l.length
  | [], _, _ => rfl
  | _ :: r, 0, x => rfl
  | s :: r, i + 1, x => congrArg Nat.succ (setS_len (l := r))
theorem getS_lt : ∀ {l : List Sl} {i : Nat} {x : D × Bool}, getS l i = some x → i < l.length
  | [], _, _, h => nomatch h
  | _ :: r, 0, _, _ => Nat.succ_pos _
  | _ :: r, i + 1, _, h => Nat.succ_lt_succ (getS_lt (l := r) h)
def Env.set (e : Env) (i : Nat) (d : D) (fr : Bool) : Env := ⟨setS e.sl i (some (d, fr)), e.n⟩
def Env.clr (e : Env) (i : Nat) : Env := ⟨setS e.sl i none, e.n⟩
def Env.frz (e : Env) (i : Nat) : Env := match getS e.sl i with
  | some (d, true) => ⟨setS e.sl i (some (d, false)), e.n⟩
  | _ => e
abbrev Dr := Option (Addr × Addr × Addr)
/-- a table of code objects -/
def isTb (C : Cn) (b : Addr) : Prop := ∃ p ∈ C.T, p.1 = b
/-- a code object -/
def isCd (b : Addr) (o : HO) : Prop := ∃ q, o = LamX.CodeO b q
def N3o (C : Cn) : Dr → Addr → Prop
  | none, b => isTb C b
  | some (st, gl, cl), b => N3 st gl cl b ∨ isTb C b
def LSo (C : Cn) : Dr → Nat → Hp → Prop
  | none, _, H => NdefX.TabsN C.T H
  | some (st, gl, cl), n, H => LS st gl cl n H ∧ NdefX.TabsN C.T H
theorem tabs_same {C : Cn} {H H' : Hp} (t : NdefX.TabsN C.T H) (e : ∀ b o, isTb C b ∨ isCd b o → H b = some o → H' b = some o) : NdefX.TabsN C.T H' := fun p hp => by
  obtain ⟨ps, h1, h2, h3⟩ := t p hp
  refine ⟨ps, e _ _ (.inl ⟨p, hp, rfl⟩) h1, h2, fun pos cv hc => ?_⟩
  obtain ⟨c, e1, e2⟩ := h3 pos cv hc
  exact ⟨c, e1, e _ _ (.inr ⟨_, rfl⟩) e2⟩
theorem LSo.tabs {C : Cn} : ∀ {m : Dr} {n : Nat} {H : Hp}, LSo C m n H → NdefX.TabsN C.T H
  | none, _, _, h => h
  | some (_, _, _), _, _, h => h.2
theorem LSo.same {C : Cn} {m : Dr} {n : Nat} {H H' : Hp} (h : LSo C m n H) (e : ∀ b o, N3o C m b ∨ isCd b o → H b = some o → H' b = some o) : LSo C m n H' := by
  match m, h, e with
  | none, h, e => exact tabs_same (show NdefX.TabsN C.T H from h) fun b o q => e b o q
  | some (st, gl, cl), ⟨h, t⟩, e =>
    refine ⟨?_, tabs_same t fun b o q => e b o (q.elim (fun q => .inl (.inr q)) .inr)⟩
    obtain ⟨⟨d, gs, cs, t, h1, h2, h3, h⟩, ne⟩ := h
    exact ⟨⟨d, gs, cs, t, e _ _ (.inl (.inl (.inl rfl))) h1, e _ _ (.inl (.inl (.inr (.inl rfl)))) h2, e _ _ (.inl (.inl (.inr (.inr rfl)))) h3, h⟩, ne⟩
theorem LSo.hasN {C : Cn} : ∀ {m : Dr} {n : Nat} {H : Hp}, LSo C m n H → ∀ {b : Addr}, N3o C m b → ∃ o, H b = some o ∧ NoTup o
  | none, _, _, h, b, ⟨p, hp, e⟩ => by
    obtain ⟨ps, h1, _⟩ := (show NdefX.TabsN C.T _ from h) p hp
    exact ⟨.tbl ps, by rw [← e]; exact h1, trivial⟩
  | some (_, _, _), _, _, h, b, .inl z => h.1.hasN z
  | some (_, _, _), _, _, h, b, .inr ⟨p, hp, e⟩ => by
    obtain ⟨ps, h1, _⟩ := h.2 p hp
    exact ⟨.tbl ps, by rw [← e]; exact h1, trivial⟩
/-- where a def runs: its entry's heap, what is not for data, the dicts that are walked -/
structure Th where
  C : Cn
  m : Dr
  N : Addr → Prop
  H0 : Hp
  L : Addr → Prop
  std : ∀ b, N b → ∃ o, H0 b = some o ∧ NoTup o
  n3 : ∀ b, N3o C m b → N b
  ms : ∃ gl cl, m = some (C.sa, gl, cl)
  fx : Hp
  fx0 : ∀ b o, fx b = some o → H0 b = none ∧ NoTup o
  Z : Str → List Str → List D → Env → Prop
/-- kept away besides: what a rule holds in its hand -/
def Xx (Θ : Th) (X : Addr → Prop) (b : Addr) : Prop := X b ∨ ∃ o, Θ.fx b = some o
/-- new since the entry -/
def New0 (Θ : Th) (a : Addr) : Prop := Θ.H0 a = none ∧ Θ.fx a = none
def owns (σ : L2.St) (sl : List Sl) (b : Addr) : Prop := ∃ i d, getS sl i = some (d, true) ∧ σ[i]? = some (some (.ref b))
def Mm (Θ : Th) (X : Addr → Prop) (σ : L2.St) (sl : List Sl) (b : Addr) : Prop := Θ.N b ∨ owns σ sl b ∨ Xx Θ X b
structure ERepX (Θ : Th) (X : Addr → Prop) (σ : L2.St) (H : Hp) (e : Env) : Prop where
  ls : LSo Θ.C Θ.m e.n H
  kept : ∀ b o, ¬ N3o Θ.C Θ.m b → Θ.H0 b = some o → H b = some o ∨ (Θ.L b ∧ ∃ ob, H b = some (.frz ob o))
  len : σ.length = e.sl.length
  sh : ∀ i d, getS e.sl i = some (d, false) → ∃ v, σ[i]? = some (some v) ∧ Rp Θ.C (cut (Mm Θ X σ e.sl) H) v d
  ow : ∀ i d, getS e.sl i = some (d, true) → ∃ a, σ[i]? = some (some (.ref a)) ∧ Θ.H0 a = none ∧ ¬ Xx Θ X a ∧ OwnAt Θ.C (cut (Mm Θ X σ e.sl) H) H a d
  inj : ∀ i j d d' a, getS e.sl i = some (d, true) → getS e.sl j = some (d', true) → σ[i]? = some (some (.ref a)) → σ[j]? = some (some (.ref a)) → i = j
  fxs : ∀ b o, Θ.fx b = some o → H b = some o
def XO : Addr → Prop := fun _ => False
abbrev ERep (Θ : Th) (σ : L2.St) (H : Hp) (e : Env) : Prop := ERepX Θ XO σ H e
section
variable {Θ : Th} {X : Addr → Prop} {σ : L2.St} {H H' : Hp} {e : Env}
theorem Th.new (Θ : Th) {b : Addr} (h : Θ.H0 b = none) : ¬ Θ.N b := fun z => by obtain ⟨o, q, _⟩ := Θ.std b z; rw [h] at q; cases q
theorem Th.new3 (Θ : Th) {b : Addr} (h : Θ.H0 b = none) : ¬ N3o Θ.C Θ.m b := fun z => Θ.new h (Θ.n3 b z)
theorem ERepX.own_new (E : ERepX Θ X σ H e) {b : Addr} (h : owns σ e.sl b) : Θ.H0 b = none ∧ ¬ Xx Θ X b ∧ ∃ o, H b = some o := by
  obtain ⟨i, d, h1, h2⟩ := h
  obtain ⟨a, h3, h4, h5, h6⟩ := E.ow i d h1
  rw [h2] at h3; cases h3
  exact ⟨h4, h5, h6.some⟩
/-- H' holds all of H but what is drawn from -/
theorem ERepX.step {n' : Nat} (E : ERepX Θ X σ H e) (k : Kept (N3o Θ.C Θ.m) H H') (l : LSo Θ.C Θ.m n' H') : ERepX Θ X σ H' ⟨e.sl, n'⟩ ∧ Le (cut (Mm Θ X σ e.sl) H) (cut (Mm Θ X σ e.sl) H') := by
  have le : Le (cut (Mm Θ X σ e.sl) H) (cut (Mm Θ X σ e.sl) H') := le_cut fun b o n z => ⟨n, k b o (fun q => n (.inl (Θ.n3 b q))) z⟩
  refine ⟨⟨l, fun b o n z => ?_, E.len, fun i d h => ?_, fun i d h => ?_, E.inj, fun b o z => k _ _ (Θ.new3 (Θ.fx0 b o z).1) (E.fxs b o z)⟩, le⟩
  · rcases E.kept b o n z with q | ⟨q, ob, r⟩
    · exact .inl (k _ _ n q)
    · exact .inr ⟨q, ob, k _ _ n r⟩
  · obtain ⟨v, h1, h2⟩ := E.sh i d h
    exact ⟨v, h1, h2.le le⟩
  · obtain ⟨a, h1, h2, h3, h4⟩ := E.ow i d h
    exact ⟨a, h1, h2, h3, h4.mono le fun o q => k _ _ (Θ.new3 h2) q⟩
theorem ERepX.same (E : ERepX Θ X σ H e) (s : Same H H') : ERepX Θ X σ H' e ∧ Le (cut (Mm Θ X σ e.sl) H) (cut (Mm Θ X σ e.sl) H') := E.step (Same.kept s) (E.ls.same fun b o _ q => s b o q)
/-- fewer are kept away -/
theorem Xx.mono {X Y : Addr → Prop} (h : ∀ b, X b → Y b) {b : Addr} (z : Xx Θ X b) : Xx Θ Y b := z.elim (fun z => .inl (h b z)) .inr
theorem Mm.mono {X Y : Addr → Prop} {sl : List Sl} (h : ∀ b, X b → Y b) : ∀ b, Mm Θ X σ sl b → Mm Θ Y σ sl b := fun b z => z.elim .inl fun z => z.elim (fun z => .inr (.inl z)) fun z => .inr (.inr (z.mono h))
theorem le_mono {N M : Addr → Prop} (h : ∀ b, M b → N b) : Le (cut N H) (cut M H) := le_cut fun b o n z => ⟨fun q => n (h b q), z⟩
theorem ERepX.drop {Y : Addr → Prop} (E : ERepX Θ X σ H e) (h : ∀ b, Y b → X b) : ERepX Θ Y σ H e := by
  have le : Le (cut (Mm Θ X σ e.sl) H) (cut (Mm Θ Y σ e.sl) H) := le_mono (Mm.mono h)
  refine ⟨E.ls, E.kept, E.len, fun i d q => ?_, fun i d q => ?_, E.inj, E.fxs⟩
  · obtain ⟨v, h1, h2⟩ := E.sh i d q
    exact ⟨v, h1, h2.le le⟩
  · obtain ⟨a, h1, h2, h3, h4⟩ := E.ow i d q
    exact ⟨a, h1, h2, fun z => h3 (z.mono h), h4.mono le fun o q => q⟩
theorem ERepX.lt (E : ERepX Θ X σ H e) {i : Nat} (h : i < e.sl.length) : i < σ.length := by rw [E.len]; exact h
/-- a slot is stored: data that others may have -/
theorem ERepX.put {i : Nat} {v : V} {d : D} (E : ERepX Θ X σ H e) (hi : i < e.sl.length) (h : Rp Θ.C (cut (Mm Θ X σ e.sl) H) v d) :
    ERepX Θ X (σ.set i (some v)) H (e.set i d false) ∧ Le (cut (Mm Θ X σ e.sl) H) (cut (Mm Θ X (σ.set i (some v)) (e.set i d false).sl) H) := by
  have hσ := E.lt hi
  have own : ∀ b, owns (σ.set i (some v)) (e.set i d false).sl b → owns σ e.sl b := fun b ⟨j, d', h1, h2⟩ => by
    have h1' : getS (setS e.sl i (some (d, false))) j = some (d', true) := h1
    rw [getS_set hi] at h1'
    by_cases c : j = i
    · rw [if_pos c] at h1'; cases h1'
    · rw [if_neg c] at h1'
      rw [List.getElem?_set_ne (Ne.symm c)] at h2
      exact ⟨j, d', h1', h2⟩
  have le : Le (cut (Mm Θ X σ e.sl) H) (cut (Mm Θ X (σ.set i (some v)) (e.set i d false).sl) H) := le_mono fun b z => z.elim .inl fun z => z.elim (fun z => .inr (.inl (own b z))) fun z => .inr (.inr z)
  refine ⟨⟨E.ls, E.kept, by rw [List.length_set]; exact E.len.trans setS_len.symm, fun j d' q => ?_, fun j d' q => ?_, fun j k d1 d2 a q1 q2 q3 q4 => ?_, E.fxs⟩, le⟩
  · have q' : getS (setS e.sl i (some (d, false))) j = some (d', false) := q
    rw [getS_set hi] at q'
    by_cases c : j = i
    · rw [if_pos c] at q'; cases q'
      rw [c]
      exact ⟨v, List.getElem?_set_self hσ, h.le le⟩
    · rw [if_neg c] at q'
      obtain ⟨u, h1, h2⟩ := E.sh j d' q'
      exact ⟨u, by rw [List.getElem?_set_ne (Ne.symm c)]; exact h1, h2.le le⟩
  · have q' : getS (setS e.sl i (some (d, false))) j = some (d', true) := q
    rw [getS_set hi] at q'
    by_cases c : j = i
    · rw [if_pos c] at q'; cases q'
    · rw [if_neg c] at q'
      obtain ⟨a, h1, h2, h3, h4⟩ := E.ow j d' q'
      exact ⟨a, by rw [List.getElem?_set_ne (Ne.symm c)]; exact h1, h2, h3, h4.mono le fun o q => q⟩
  · have q1' : getS (setS e.sl i (some (d, false))) j = some (d1, true) := q1
    have q2' : getS (setS e.sl i (some (d, false))) k = some (d2, true) := q2
    rw [getS_set hi] at q1' q2'
    by_cases c1 : j = i
    · rw [if_pos c1] at q1'; cases q1'
    · by_cases c2 : k = i
      · rw [if_pos c2] at q2'; cases q2'
      · rw [if_neg c1] at q1'
        rw [if_neg c2] at q2'
        rw [List.getElem?_set_ne (Ne.symm c1)] at q3
        rw [List.getElem?_set_ne (Ne.symm c2)] at q4
        exact E.inj j k d1 d2 a q1' q2' q3 q4
/-- a slot is stored: what nobody else has -/
theorem ERepX.putOwn {i : Nat} {a : Addr} {d : D} (E : ERepX Θ (fun b => b = a) σ H e) (hi : i < e.sl.length) (h0 : New0 Θ a) (h : OwnAt Θ.C (cut (Mm Θ (fun b => b = a) σ e.sl) H) H a d) :
    ERep Θ (σ.set i (some (.ref a))) H (e.set i d true) ∧ Le (cut (Mm Θ (fun b => b = a) σ e.sl) H) (cut (Mm Θ XO (σ.set i (some (.ref a))) (e.set i d true).sl) H) := by
  have hσ := E.lt hi
  have na : ¬ owns σ e.sl a := fun z => (E.own_new z).2.1 (.inl rfl)
  have nx : ¬ Xx Θ XO a := fun z => z.elim (fun z => z) fun ⟨o, z⟩ => by rw [h0.2] at z; cases z
  have own : ∀ b, owns (σ.set i (some (.ref a))) (e.set i d true).sl b → owns σ e.sl b ∨ b = a := fun b ⟨j, d', h1, h2⟩ => by
    have h1' : getS (setS e.sl i (some (d, true))) j = some (d', true) := h1
    rw [getS_set hi] at h1'
    by_cases c : j = i
    · rw [c, List.getElem?_set_self hσ] at h2
      cases h2
      exact .inr rfl
    · rw [if_neg c] at h1'
      rw [List.getElem?_set_ne (Ne.symm c)] at h2
      exact .inl ⟨j, d', h1', h2⟩
  have le : Le (cut (Mm Θ (fun b => b = a) σ e.sl) H) (cut (Mm Θ XO (σ.set i (some (.ref a))) (e.set i d true).sl) H) := le_mono fun b z => z.elim .inl fun z => z.elim (fun z => (own b z).elim (fun q => .inr (.inl q)) fun q => .inr (.inr (.inl q))) fun z => .inr (.inr (z.mono fun _ z => z.elim))
  refine ⟨⟨E.ls, E.kept, by rw [List.length_set]; exact E.len.trans setS_len.symm, fun j d' q => ?_, fun j d' q => ?_, fun j k d1 d2 b q1 q2 q3 q4 => ?_, E.fxs⟩, le⟩
  · have q' : getS (setS e.sl i (some (d, true))) j = some (d', false) := q
    rw [getS_set hi] at q'
    by_cases c : j = i
    · rw [if_pos c] at q'; cases q'
    · rw [if_neg c] at q'
      obtain ⟨u, h1, h2⟩ := E.sh j d' q'
      exact ⟨u, by rw [List.getElem?_set_ne (Ne.symm c)]; exact h1, h2.le le⟩
  · have q' : getS (setS e.sl i (some (d, true))) j = some (d', true) := q
    rw [getS_set hi] at q'
    by_cases c : j = i
    · rw [if_pos c] at q'; cases q'
      rw [c]
      exact ⟨a, List.getElem?_set_self hσ, h0.1, nx, h.mono le fun o q => q⟩
    · rw [if_neg c] at q'
      obtain ⟨b, h1, h2, h3, h4⟩ := E.ow j d' q'
      exact ⟨b, by rw [List.getElem?_set_ne (Ne.symm c)]; exact h1, h2, fun z => h3 (z.mono fun _ z => z.elim), h4.mono le fun o q => q⟩
  · have q1' : getS (setS e.sl i (some (d, true))) j = some (d1, true) := q1
    have q2' : getS (setS e.sl i (some (d, true))) k = some (d2, true) := q2
    rw [getS_set hi] at q1' q2'
    by_cases c1 : j = i
    · by_cases c2 : k = i
      · rw [c1, c2]
      · rw [if_neg c2] at q2'
        rw [c1, List.getElem?_set_self hσ] at q3
        rw [List.getElem?_set_ne (Ne.symm c2)] at q4
        cases q3
        exact absurd ⟨k, d2, q2', q4⟩ na
    · by_cases c2 : k = i
      · rw [if_neg c1] at q1'
        rw [c2, List.getElem?_set_self hσ] at q4
        rw [List.getElem?_set_ne (Ne.symm c1)] at q3
        cases q4
        exact absurd ⟨j, d1, q1', q3⟩ na
      · rw [if_neg c1] at q1'
        rw [if_neg c2] at q2'
        rw [List.getElem?_set_ne (Ne.symm c1)] at q3
        rw [List.getElem?_set_ne (Ne.symm c2)] at q4
        exact E.inj j k d1 d2 b q1' q2' q3 q4
/-- what is in a slot may be had by others from here on -/
theorem ERepX.frz (E : ERepX Θ X σ H e) (i : Nat) : ERepX Θ X σ H (e.frz i) ∧ Le (cut (Mm Θ X σ e.sl) H) (cut (Mm Θ X σ (e.frz i).sl) H) := by
  unfold Env.frz
  split
  · rename_i d hd
    have hi := getS_lt hd
    obtain ⟨a, h1, h2, h3, h4⟩ := E.ow i d hd
    have own : ∀ b, owns σ (setS e.sl i (some (d, false))) b → owns σ e.sl b ∧ b ≠ a := fun b ⟨j, d', q1, q2⟩ => by
      rw [getS_set hi] at q1
      by_cases c : j = i
      · rw [if_pos c] at q1; cases q1
      · rw [if_neg c] at q1
        exact ⟨⟨j, d', q1, q2⟩, fun z => c (E.inj j i d' d a q1 hd (by rw [← z]; exact q2) h1)⟩
    have le : Le (cut (Mm Θ X σ e.sl) H) (cut (Mm Θ X σ (setS e.sl i (some (d, false)))) H) := le_mono fun b z => z.elim .inl fun z => z.elim (fun z => .inr (.inl (own b z).1)) fun z => .inr (.inr z)
    refine ⟨⟨E.ls, E.kept, E.len.trans setS_len.symm, fun j d' q => ?_, fun j d' q => ?_, fun j k d1 d2 b q1 q2 q3 q4 => ?_, E.fxs⟩, le⟩
    · have q' : getS (setS e.sl i (some (d, false))) j = some (d', false) := q
      rw [getS_set hi] at q'
      by_cases c : j = i
      · rw [if_pos c] at q'; cases q'
        rw [c]
        refine ⟨.ref a, h1, (h4.mono le fun o q => q).rp fun o q => cutAt (fun z => ?_) q⟩
        exact z.elim (Θ.new h2) fun z => z.elim (fun z => (own a z).2 rfl) h3
      · rw [if_neg c] at q'
        obtain ⟨u, h1, h2⟩ := E.sh j d' q'
        exact ⟨u, h1, h2.le le⟩
    · have q' : getS (setS e.sl i (some (d, false))) j = some (d', true) := q
      rw [getS_set hi] at q'
      by_cases c : j = i
      · rw [if_pos c] at q'; cases q'
      · rw [if_neg c] at q'
        obtain ⟨b, h1, h2, h3, h4⟩ := E.ow j d' q'
        exact ⟨b, h1, h2, h3, h4.mono le fun o q => q⟩
    · have q1' : getS (setS e.sl i (some (d, false))) j = some (d1, true) := q1
      have q2' : getS (setS e.sl i (some (d, false))) k = some (d2, true) := q2
      rw [getS_set hi] at q1' q2'
      by_cases c1 : j = i
      · rw [if_pos c1] at q1'; cases q1'
      · by_cases c2 : k = i
        · rw [if_pos c2] at q2'; cases q2'
        · rw [if_neg c1] at q1'
          rw [if_neg c2] at q2'
          exact E.inj j k d1 d2 b q1' q2' q3 q4
  · exact ⟨E, Le.refl _⟩
/-- a new object -/
theorem ERepX.free0 (E : ERepX Θ X σ H e) {p : Addr} (h : H p = none) : Θ.H0 p = none := by
  cases q : Θ.H0 p with
  | none => rfl
  | some o =>
    by_cases c : N3o Θ.C Θ.m p
    · obtain ⟨o', z, _⟩ := E.ls.hasN c
      rw [h] at z; cases z
    · rcases E.kept p o c q with z | ⟨_, ob, z⟩
      · rw [h] at z; cases z
      · rw [h] at z; cases z
theorem ERepX.new0 (E : ERepX Θ X σ H e) {p : Addr} (h : H p = none) : New0 Θ p := ⟨E.free0 h, by
  cases q : Θ.fx p with
  | none => rfl
  | some o => rw [E.fxs _ _ q] at h; cases h⟩
theorem ERepX.newM (E : ERepX Θ X σ H e) {p : Addr} (h : H p = none) (hx : ¬ X p) : ¬ Mm Θ X σ e.sl p := fun z => z.elim (Θ.new (E.free0 h)) fun z => z.elim (fun z => by obtain ⟨_, _, o, q⟩ := E.own_new z; rw [h] at q; cases q) fun z => z.elim hx fun ⟨o, z⟩ => by rw [E.fxs _ _ z] at h; cases h
theorem ERep.alloc (E : ERep Θ σ H e) {p : Addr} {o : HO} (h : H p = none) : ERepX Θ (fun b => b = p) σ (upd H p o) e ∧ Le (cut (Mm Θ XO σ e.sl) H) (cut (Mm Θ (fun b => b = p) σ e.sl) (upd H p o)) := by
  have le : Le (cut (Mm Θ XO σ e.sl) H) (cut (Mm Θ (fun b => b = p) σ e.sl) (upd H p o)) := le_cut fun b u n z => ⟨fun q => q.elim (fun q => n (.inl q)) fun q => q.elim (fun q => n (.inr (.inl q))) fun q => q.elim (ne_of_none z h) fun q => n (.inr (.inr (.inr q))), (Same.new h) _ _ z⟩
  have s := Same.new (o := o) h
  refine ⟨⟨E.ls.same fun b u _ q => s b u q, fun b u n z => ?_, E.len, fun i d q => ?_, fun i d q => ?_, E.inj, fun b o z => s _ _ (E.fxs b o z)⟩, le⟩
  · rcases E.kept b u n z with q | ⟨q, ob, r⟩
    · exact .inl (s _ _ q)
    · exact .inr ⟨q, ob, s _ _ r⟩
  · obtain ⟨v, h1, h2⟩ := E.sh i d q
    exact ⟨v, h1, h2.le le⟩
  · obtain ⟨a, h1, h2, h3, h4⟩ := E.ow i d q
    obtain ⟨o', q'⟩ := h4.some
    exact ⟨a, h1, h2, fun z => z.elim (ne_of_none q' h) fun z => h3 (.inr z), h4.mono le fun o q => s _ _ q⟩
/-- what is in an own slot is changed -/
theorem ERepX.mut {i : Nat} {a : Addr} {d d' : D} {o : HO} (E : ERepX Θ X σ H e) (hd : getS e.sl i = some (d, true)) (ha : σ[i]? = some (some (.ref a))) (h : OwnAt Θ.C (cut (Mm Θ X σ e.sl) H) (upd H a o) a d') :
    ERepX Θ X σ (upd H a o) (e.set i d' true) ∧ Le (cut (Mm Θ X σ e.sl) H) (cut (Mm Θ X σ (e.set i d' true).sl) (upd H a o)) := by
  have hi := getS_lt hd
  obtain ⟨a', h1, h2, h3, h4⟩ := E.ow i d hd
  rw [ha] at h1; cases h1
  have own : ∀ b, owns σ (e.set i d' true).sl b → owns σ e.sl b := fun b ⟨j, d1, q1, q2⟩ => by
    have q1' : getS (setS e.sl i (some (d', true))) j = some (d1, true) := q1
    rw [getS_set hi] at q1'
    by_cases c : j = i
    · exact ⟨i, d, hd, by rw [← c]; exact q2⟩
    · rw [if_neg c] at q1'
      exact ⟨j, d1, q1', q2⟩
  have ma : Mm Θ X σ e.sl a := .inr (.inl ⟨i, d, hd, ha⟩)
  have le : Le (cut (Mm Θ X σ e.sl) H) (cut (Mm Θ X σ (e.set i d' true).sl) (upd H a o)) := le_cut fun b u n z => ⟨fun q => n (q.elim .inl fun q => q.elim (fun q => .inr (.inl (own b q))) fun q => .inr (.inr q)), by rw [upd_ne fun q => n (by rw [q]; exact ma)]; exact z⟩
  have n3 : ¬ N3o Θ.C Θ.m a := Θ.new3 h2
  have nc : ∀ b u, isCd b u → H b = some u → b ≠ a := fun b u ⟨q, hu⟩ z w => by
    rw [w] at z
    cases h4 with
    | lst g _ => rw [g] at z; rw [hu] at z; cases z
    | dct g _ _ => rw [g] at z; rw [hu] at z; cases z
    | dcT g _ _ => rw [g] at z; rw [hu] at z; cases z
  refine ⟨⟨E.ls.same fun b u q z => by rw [upd_ne fun w => q.elim (fun q => n3 (by rw [← w]; exact q)) fun q => nc b u q z w]; exact z, fun b u n z => ?_, E.len.trans setS_len.symm, fun j d1 q => ?_, fun j d1 q => ?_, fun j k d1 d2 b q1 q2 q3 q4 => ?_, fun b u z => by rw [upd_ne fun w => h3 (.inr ⟨u, by rw [← w]; exact z⟩)]; exact E.fxs b u z⟩, le⟩
  · have nb : b ≠ a := fun w => by rw [w, h2] at z; cases z
    rw [upd_ne nb]
    exact E.kept b u n z
  · have q' : getS (setS e.sl i (some (d', true))) j = some (d1, false) := q
    rw [getS_set hi] at q'
    by_cases c : j = i
    · rw [if_pos c] at q'; cases q'
    · rw [if_neg c] at q'
      obtain ⟨u, h1, h2⟩ := E.sh j d1 q'
      exact ⟨u, h1, h2.le le⟩
  · have q' : getS (setS e.sl i (some (d', true))) j = some (d1, true) := q
    rw [getS_set hi] at q'
    by_cases c : j = i
    · rw [if_pos c] at q'; cases q'
      rw [c]
      exact ⟨a, ha, h2, h3, h.mono le fun o q => q⟩
    · rw [if_neg c] at q'
      obtain ⟨b, r1, r2, r3, r4⟩ := E.ow j d1 q'
      have nb : b ≠ a := fun w => c (E.inj j i d1 d a q' hd (by rw [← w]; exact r1) ha)
      exact ⟨b, r1, r2, r3, r4.mono le fun o q => by rw [upd_ne nb]; exact q⟩
  · have q1' : getS (setS e.sl i (some (d', true))) j = some (d1, true) := q1
    have q2' : getS (setS e.sl i (some (d', true))) k = some (d2, true) := q2
    rw [getS_set hi] at q1' q2'
    have x1 : ∃ z, getS e.sl j = some (z, true) := by
      by_cases c : j = i
      · exact ⟨d, by rw [c]; exact hd⟩
      · rw [if_neg c] at q1'; exact ⟨_, q1'⟩
    have x2 : ∃ z, getS e.sl k = some (z, true) := by
      by_cases c : k = i
      · exact ⟨d, by rw [c]; exact hd⟩
      · rw [if_neg c] at q2'; exact ⟨_, q2'⟩
    obtain ⟨z1, x1⟩ := x1
    obtain ⟨z2, x2⟩ := x2
    exact E.inj j k z1 z2 b x1 x2 q3 q4
end
abbrev GE : Type := Env → (D → Bool → Env → Prop) → Prop
abbrev GA : Type := Env → (List D → Env → Prop) → Prop
abbrev GT : Type := Env → (Bool → Env → Prop) → Prop
/-- a value has come: others may have it, or nobody has -/
def Res (Θ : Th) (σ : L2.St) (H : Hp) (e : Env) (v : V) (d : D) (fr : Bool) (H' : Hp) (e' : Env) : Prop := match fr with
  | false => Le (cut (Mm Θ XO σ e.sl) H) (cut (Mm Θ XO σ e'.sl) H') ∧ ERep Θ σ H' e' ∧ Rp Θ.C (cut (Mm Θ XO σ e'.sl) H') v d
  | true => ∃ a, v = .ref a ∧ New0 Θ a ∧ Le (cut (Mm Θ XO σ e.sl) H) (cut (Mm Θ (fun b => b = a) σ e'.sl) H') ∧ ERepX Θ (fun b => b = a) σ H' e' ∧ OwnAt Θ.C (cut (Mm Θ (fun b => b = a) σ e'.sl) H') H' a d
theorem xo_sub {X : Addr → Prop} : ∀ b, XO b → X b := fun _ z => z.elim
theorem Res.weak {Θ : Th} {σ : L2.St} {H : Hp} {e : Env} {v : V} {d : D} {fr : Bool} {H' : Hp} {e' : Env} (h : Res Θ σ H e v d fr H' e') : Res Θ σ H e v d false H' e' := by
  cases fr with
  | false => exact h
  | true =>
    obtain ⟨a, rfl, h0, le, E, ow⟩ := h
    have l2 : Le (cut (Mm Θ (fun b => b = a) σ e'.sl) H') (cut (Mm Θ XO σ e'.sl) H') := le_mono (Mm.mono xo_sub)
    refine ⟨le.trans l2, E.drop xo_sub, (ow.mono l2 fun o q => q).rp fun o q => cutAt (fun z => ?_) q⟩
    exact z.elim (Θ.new h0.1) fun z => z.elim (fun z => (E.own_new z).2.1 (.inl rfl)) fun z => z.elim (fun z => z) fun ⟨o, z⟩ => by rw [h0.2] at z; cases z
theorem Res.le {Θ : Th} {σ : L2.St} {H : Hp} {e : Env} {v : V} {d : D} {fr : Bool} {H' : Hp} {e' : Env} (h : Res Θ σ H e v d fr H' e') : Le (cut (Mm Θ XO σ e.sl) H) (cut (Mm Θ XO σ e'.sl) H') := h.weak.1
theorem Res.er {Θ : Th} {σ : L2.St} {H : Hp} {e : Env} {v : V} {d : D} {fr : Bool} {H' : Hp} {e' : Env} (h : Res Θ σ H e v d fr H' e') : ERep Θ σ H' e' := h.weak.2.1
theorem Res.rp {Θ : Th} {σ : L2.St} {H : Hp} {e : Env} {v : V} {d : D} {fr : Bool} {H' : Hp} {e' : Env} (h : Res Θ σ H e v d fr H' e') : Rp Θ.C (cut (Mm Θ XO σ e'.sl) H') v d := h.weak.2.2
/-- the begin may lie further back -/
theorem Res.from {Θ : Th} {σ : L2.St} {H H1 : Hp} {e e1 : Env} {v : V} {d : D} {fr : Bool} {H' : Hp} {e' : Env} (l : Le (cut (Mm Θ XO σ e.sl) H) (cut (Mm Θ XO σ e1.sl) H1)) (h : Res Θ σ H1 e1 v d fr H' e') : Res Θ σ H e v d fr H' e' := by
  cases fr with
  | false => exact ⟨l.trans h.1, h.2⟩
  | true =>
    obtain ⟨a, h1, h0, le, r⟩ := h
    exact ⟨a, h1, h0, l.trans le, r⟩
theorem Res.mk {Θ : Th} {σ : L2.St} {H : Hp} {e : Env} {v : V} {d : D} (E : ERep Θ σ H e) (h : Rp Θ.C (cut (Mm Θ XO σ e.sl) H) v d) : Res Θ σ H e v d false H e := ⟨Le.refl _, E, h⟩
theorem Res.newL {Θ : Th} {σ : L2.St} {H : Hp} {e : Env} {p : Addr} {us : List V} {ds : List D} (E : ERep Θ σ H e) (hp : H p = none) (h : RpA Θ.C (cut (Mm Θ XO σ e.sl) H) us ds) : Res Θ σ H e (.ref p) (.lst ds) true (upd H p (.lst us)) e := by
  obtain ⟨E', le⟩ := E.alloc (o := .lst us) hp
  exact ⟨p, rfl, E.new0 hp, le, E', .lst upd_same (h.le le)⟩
theorem Res.newT {Θ : Th} {σ : L2.St} {H : Hp} {e : Env} {p : Addr} {us : List V} {ds : List D} (E : ERep Θ σ H e) (hp : H p = none) (h : RpA Θ.C (cut (Mm Θ XO σ e.sl) H) us ds) : Res Θ σ H e (.ref p) (.tup ds) false (upd H p (.tup us)) e := by
  obtain ⟨E', le⟩ := E.same (Same.new (o := .tup us) hp)
  exact ⟨le, E', .tup (cutAt (E.newM hp fun z => z) upd_same) (h.le le)⟩
theorem Res.newK {Θ : Th} {σ : L2.St} {H : Hp} {e : Env} {p : Addr} {kvs : List (Key × V)} {ks : List Key} {ds : List D} (E : ERep Θ σ H e) (hp : H p = none) (hk : kvs.map (·.1) = ks) (h : RpA Θ.C (cut (Mm Θ XO σ e.sl) H) (kvs.map (·.2)) ds) : Res Θ σ H e (.ref p) (.dct ks ds) true (upd H p (.dK kvs)) e := by
  obtain ⟨E', le⟩ := E.alloc (o := .dK kvs) hp
  exact ⟨p, rfl, E.new0 hp, le, E', .dct upd_same hk (h.le le)⟩
/-- an expression's reading -/
def tOf (Θ : Th) (g : GE) : TE := fun σ H Q => ∃ e Qp, ERep Θ σ H e ∧ g e Qp ∧ ∀ v d fr H' e', Res Θ σ H e v d fr H' e' → Qp d fr e' → Q v H'
def tOfA (Θ : Th) (g : GA) : TA := fun σ H Q => ∃ e Qp, ERep Θ σ H e ∧ g e Qp ∧ ∀ vs ds H' e', Le (cut (Mm Θ XO σ e.sl) H) (cut (Mm Θ XO σ e'.sl) H') → ERep Θ σ H' e' → RpA Θ.C (cut (Mm Θ XO σ e'.sl) H') vs ds → Qp ds e' → Q vs H'
def tOfT (Θ : Th) (g : GT) : TT := fun σ H Q => ∃ e Qp, ERep Θ σ H e ∧ g e Qp ∧ ∀ b H' e', Le (cut (Mm Θ XO σ e.sl) H) (cut (Mm Θ XO σ e'.sl) H') → ERep Θ σ H' e' → Qp b e' → Q b H'
theorem pe_conv {X : Cx} {x : Expr} {t t' : TE} (h : PE X x t) (i : ∀ σ H Q, t' σ H Q → t σ H Q) : PE X x t' := ⟨fun pins s σ H Q I q => h.run pins s σ H Q I (i σ H Q q)⟩
theorem pt_conv {X : Cx} {x : Expr} {t t' : TT} (h : PT X x t) (i : ∀ σ H Q, t' σ H Q → t σ H Q) : PT X x t' := ⟨fun pins s σ H Q I q => h.run pins s σ H Q I (i σ H Q q)⟩
theorem pw_conv {X : Cx} {x : Expr} {t t' : TT} (h : PW X x t) (i : ∀ σ H Q, t' σ H Q → t σ H Q) : PW X x t' := ⟨fun wh pins s σ H Q I q => h.run wh pins s σ H Q I (i σ H Q q)⟩
theorem pa_conv {X : Cx} {x : List Expr} {t t' : TA} (h : PA X x t) (i : ∀ σ H Q, t' σ H Q → t σ H Q) : PA X x t' := ⟨fun pos pins s σ H Q I q => h.run pos pins s σ H Q I (i σ H Q q)⟩
theorem ps_conv {X : Cx} {x : Stmt} {t t' : TS} (h : PS X x t) (i : ∀ D σ H, t' D σ H → t D σ H) : PS X x t' := ⟨fun pins s σ H D I q => h.run pins s σ H D I (i D σ H q)⟩
theorem pss_conv {X : Cx} {x : List Stmt} {t t' : TS} (h : PSs X x t) (i : ∀ D σ H, t' D σ H → t D σ H) : PSs X x t' := ⟨fun pins s σ H D I q => h.run pins s σ H D I (i D σ H q)⟩
end L2.Q
set_option Elab.async false
set_option linter.all false
set_option maxRecDepth 100000
set_option maxHeartbeats 4000000
namespace L2.Q
open PySem PySem.Spec PyProof.Rows L2 L2.Wb
section
variable {Θ : Th} {X : Cx} {pos : Pos}
def gVar (i : Nat) : GE := fun e Q => match getS e.sl i with
  | some (d, _) => Q d false (e.frz i)
  | none => False
theorem frz_get {e : Env} {i : Nat} {d : D} {b : Bool} (h : getS e.sl i = some (d, b)) : getS (e.frz i).sl i = some (d, false) := by
  unfold Env.frz
  rw [h]
  cases b with
  | true => show getS (setS e.sl i (some (d, false))) i = _; rw [getS_set (getS_lt h), if_pos rfl]
  | false => exact h
theorem var_go {σ : L2.St} {H : Hp} {e : Env} {i : Nat} {d : D} {b : Bool} (E : ERep Θ σ H e) (h : getS e.sl i = some (d, b)) : ∃ v, σ[i]? = some (some v) ∧ Res Θ σ H e v d false H (e.frz i) := by
  obtain ⟨E', le⟩ := E.frz i
  obtain ⟨v, h1, h2⟩ := E'.sh i d (frz_get h)
  exact ⟨v, h1, le, E', h2⟩
theorem q_var (i : Nat) {x : Str} (hN : X.N[i]? = some x := by rfl) (hv : Vis X.env.scope x := by first | exact Or.inl rfl | exact Or.inr (Or.inl rfl) | exact Or.inr (Or.inr rfl)) (hd : (x == ("__debug__" : Str)) = false := by decide)
    (hcd : (x == ("__classdict__" : Str)) = false := by decide) : PE X (.Name x pos) (tOf Θ (gVar i)) := pe_conv (pe_var hN hv hd hcd) fun σ H Q ⟨e, Qp, E, h, k⟩ => by
  unfold gVar at h
  cases hs : getS e.sl i with
  | none => rw [hs] at h; exact h.elim
  | some s =>
    obtain ⟨d, b⟩ := s
    rw [hs] at h
    obtain ⟨v, h1, r⟩ := var_go E hs
    exact ⟨v, h1, k _ _ _ _ _ r h⟩
def gC (d : D) : GE := fun e Q => Q d false e
theorem q_int {i j} : PE X (.Constant (.int i) j pos) (tOf Θ (gC (.int i))) := pe_conv pe_int fun σ H Q ⟨e, Qp, E, h, k⟩ => k _ _ _ _ _ (Res.mk E (.int i)) h
theorem q_bl {b j} : PE X (.Constant (.bool b) j pos) (tOf Θ (gC (.bl b))) := pe_conv pe_bl fun σ H Q ⟨e, Qp, E, h, k⟩ => k _ _ _ _ _ (Res.mk E (.bl b)) h
theorem q_non {j} : PE X (.Constant .none j pos) (tOf Θ (gC .non)) := pe_conv pe_non fun σ H Q ⟨e, Qp, E, h, k⟩ => k _ _ _ _ _ (Res.mk E .non) h
theorem q_str {x j} : PE X (.Constant (.str x) j pos) (tOf Θ (gC (.str x))) := pe_conv pe_str fun σ H Q ⟨e, Qp, E, h, k⟩ => k _ _ _ _ _ (Res.mk E (.str x)) h
def gA0 : GA := fun e Q => Q [] e
def gA1 (g : GE) (ga : GA) : GA := fun e Q => g e fun d _ e1 => ga e1 fun ds e2 => Q (d :: ds) e2
theorem qa_nil : PA X [] (tOfA Θ gA0) := pa_conv pa_nil fun σ H Q ⟨e, Qp, E, h, k⟩ => k _ _ _ _ (Le.refl _) E .nil h
theorem qa_cons {a : Expr} {es : List Expr} {g : GE} {ga : GA} (ha : PE X a (tOf Θ g)) (hr : PA X es (tOfA Θ ga)) (hs : starEach (a :: es) X.env = (false, eval a X.env) :: starEach es X.env := by rfl) : PA X (a :: es) (tOfA Θ (gA1 g ga)) :=
  pa_conv (pa_cons ha hr hs) fun σ H Q ⟨e, Qp, E, h, k⟩ => ⟨e, _, E, h, fun v d fr H1 e1 r1 h1 => ⟨e1, _, r1.er, h1, fun vs ds H2 e2 l2 E2 r2 h2 => k _ _ _ _ (r1.le.trans l2) E2 (.cons (r1.rp.le l2) r2) h2⟩⟩
def gTup (ga : GA) : GE := fun e Q => ga e fun ds e1 => ds.length ≤ 1000000 ∧ Q (.tup ds) false e1
def gLst (ga : GA) : GE := fun e Q => ga e fun ds e1 => ds.length ≤ 1000000 ∧ Q (.lst ds) true e1
theorem mil {n : Nat} (h : n ≤ 1000000) : n ≤ sizeLine := Nat.le_trans h (by decide +kernel)
theorem mil' {n : Nat} (h : n ≤ 1000000) : n < sizeLine := Nat.lt_of_le_of_lt h (by decide +kernel)
theorem q_tup {es : List Expr} {x1} {ga : GA} (h : PA X es (tOfA Θ ga)) : PE X (.Tuple es x1 pos) (tOf Θ (gTup ga)) :=
  pe_conv (pe_tup h) fun σ H Q ⟨e, Qp, E, h, k⟩ => ⟨e, _, E, h, fun vs ds H1 e1 l1 E1 r1 ⟨hl, h1⟩ => ⟨by rw [r1.len]; exact mil hl, fun p hp => k _ _ _ _ _ ((Res.newT E1 hp r1).from l1) h1⟩⟩
theorem q_lst {es : List Expr} {ga : GA} (h : PA X es (tOfA Θ ga)) : PE X (.List es pos) (tOf Θ (gLst ga)) :=
  pe_conv (pe_lst h) fun σ H Q ⟨e, Qp, E, h, k⟩ => ⟨e, _, E, h, fun vs ds H1 e1 l1 E1 r1 ⟨hl, h1⟩ => ⟨by rw [r1.len]; exact mil hl, fun p hp => k _ _ _ _ _ ((Res.newL E1 hp r1).from l1) h1⟩⟩
def gDnew : GE := fun e Q => Q (.dct [] []) true e
theorem q_dnew : PE X (.Dict [] [] pos) (tOf Θ gDnew) := pe_conv pe_dnewK fun σ H Q ⟨e, Qp, E, h, k⟩ => fun p hp => k _ _ _ _ _ (Res.newK (kvs := []) E hp rfl .nil) h
abbrev F2 : Type := D → D → (D → Bool → Prop) → Prop
/-- what an operator makes of two data -/
def OpQ (X : Cx) (Θ : Th) (fn : Value → Value → Sem Value) (f : F2) : Prop := ∃ r, OpR X fn r ∧ ∀ σ H e v w x y k Q, ERep Θ σ H e → Rp Θ.C (cut (Mm Θ XO σ e.sl) H) v x → Rp Θ.C (cut (Mm Θ XO σ e.sl) H) w y → f x y k →
  (∀ u z fr H', Res Θ σ H e u z fr H' e → k z fr → Q u H') → r v w H Q
def g2 (f : F2) (ga gb : GE) : GE := fun e Q => ga e fun x _ e1 => gb e1 fun y _ e2 => f x y fun z fr => Q z fr e2
theorem q_op {a b : Expr} {op : Operator} {f : F2} {ga gb : GE} (ho : OpQ X Θ (binaryOp op) f) (ha : PE X a (tOf Θ ga)) (hb : PE X b (tOf Θ gb)) : PE X (.BinOp a op b pos) (tOf Θ (g2 f ga gb)) := by
  obtain ⟨r, hr, hq⟩ := ho
  exact pe_conv (pe_op hr ha hb) fun σ H Q ⟨e, Qp, E, h, k⟩ => ⟨e, _, E, h, fun v x fr H1 e1 r1 h1 => ⟨e1, _, r1.er, h1, fun w y fr2 H2 e2 r2 h2 => hq σ H2 e2 v w x y _ Q r2.er (r1.rp.le r2.le) r2.rp h2 fun u z fr H' R hz => k _ _ _ _ _ ((R.from r2.le).from r1.le) hz⟩⟩
theorem q_cmp {a b : Expr} {op : CmpOp} {f : F2} {ga gb : GE} (ho : OpQ X Θ (compareOp op) f) (ha : PE X a (tOf Θ ga)) (hb : PE X b (tOf Θ gb)) (hm : behindInMarks op b = false := by exact nomark _) : PE X (.Compare a [op] [b] pos) (tOf Θ (g2 f ga gb)) := by
  obtain ⟨r, hr, hq⟩ := ho
  exact pe_conv (pe_cmpR hr ha hb hm) fun σ H Q ⟨e, Qp, E, h, k⟩ => ⟨e, _, E, h, fun v x fr H1 e1 r1 h1 => ⟨e1, _, r1.er, h1, fun w y fr2 H2 e2 r2 h2 => hq σ H2 e2 v w x y _ Q r2.er (r1.rp.le r2.le) r2.rp h2 fun u z fr H' R hz => k _ _ _ _ _ ((R.from r2.le).from r1.le) hz⟩⟩
/-- a value as a test -/
def gB (g : GE) : GT := fun e Q => g e fun d _ e1 => match d with
  | .bl b => Q b e1
  | _ => False
theorem gB_ok {g : GE} {σ : L2.St} {H : Hp} {Q : Bool → Hp → Prop} (h : tOfT Θ (gB g) σ H Q) : tOf Θ g σ H fun v H' => ∃ b, v = .bl b ∧ Q b H' := by
  obtain ⟨e, Qp, E, h, k⟩ := h
  refine ⟨e, _, E, h, fun v d fr H1 e1 r1 h1 => ?_⟩
  have rp := r1.rp
  cases d with
  | bl b =>
    cases rp
    exact ⟨b, rfl, k _ _ _ r1.le r1.er h1⟩
  | _ => exact h1.elim
theorem qt_cmp {a b : Expr} {op : CmpOp} {f : F2} {ga gb : GE} (ho : OpQ X Θ (compareOp op) f) (ha : PE X a (tOf Θ ga)) (hb : PE X b (tOf Θ gb)) (hm : behindInMarks op b = false := by exact nomark _) : PT X (.Compare a [op] [b] pos) (tOfT Θ (gB (g2 f ga gb))) := by
  obtain ⟨r, hr, hq⟩ := ho
  refine pt_conv (pt_cmpR hr ha hb hm) fun σ H Q h => ?_
  obtain ⟨e, Qp, E, h, k⟩ := gB_ok h
  exact ⟨e, _, E, h, fun v x fr H1 e1 r1 h1 => ⟨e1, _, r1.er, h1, fun w y fr2 H2 e2 r2 h2 => hq σ H2 e2 v w x y _ _ r2.er (r1.rp.le r2.le) r2.rp h2 fun u z fr H' R hz => k _ _ _ _ _ ((R.from r2.le).from r1.le) hz⟩⟩
theorem qt_val {a : Expr} {g : GE} (h : PE X a (tOf Θ g)) (he : ∀ whole, isTrue a X.env whole = (do let v ← whole; standAt a.pos; holding [v] (truthy v)) := by intro _; rfl) : PT X a (tOfT Θ (gB g)) := pt_conv (pt_val h he) fun σ H Q h => gB_ok h
def gtNot (g : GT) : GT := fun e Q => g e fun b e1 => Q (!b) e1
def gtAnd (g h : GT) : GT := fun e Q => g e fun b e1 => (b = true → h e1 Q) ∧ (b = false → Q false e1)
def gtOr (g h : GT) : GT := fun e Q => g e fun b e1 => (b = true → Q true e1) ∧ (b = false → h e1 Q)
theorem qt_not {a : Expr} {g : GT} (h : PT X a (tOfT Θ g)) : PT X (.UnaryOp .Not a pos) (tOfT Θ (gtNot g)) := pt_conv (pt_not h) fun σ H Q ⟨e, Qp, E, h, k⟩ => ⟨e, _, E, h, fun b H1 e1 l1 E1 h1 => k _ _ _ l1 E1 h1⟩
theorem qw_and {a b : Expr} {rest : List Expr} {g h : GT} (ha : PT X a (tOfT Θ g)) (hb : PW X (.BoolOp .And (b :: rest) pos) (tOfT Θ h)) : PW X (.BoolOp .And (a :: b :: rest) pos) (tOfT Θ (gtAnd g h)) := pw_conv (pw_and ha hb) fun σ H Q ⟨e, Qp, E, h, k⟩ => by
  refine ⟨e, _, E, h, fun b H1 e1 l1 E1 h1 => ?_⟩
  cases b with
  | true => exact iteT ⟨e1, _, E1, h1.1 rfl, fun c H2 e2 l2 E2 h2 => k _ _ _ (l1.trans l2) E2 h2⟩
  | false => exact iteF (k _ _ _ l1 E1 (h1.2 rfl))
theorem qw_and1 {a : Expr} {g : GT} (ha : PT X a (tOfT Θ g)) : PW X (.BoolOp .And [a] pos) (tOfT Θ g) := pw_and1 ha
theorem qw_or {a b : Expr} {rest : List Expr} {g h : GT} (ha : PT X a (tOfT Θ g)) (hb : PW X (.BoolOp .Or (b :: rest) pos) (tOfT Θ h)) : PW X (.BoolOp .Or (a :: b :: rest) pos) (tOfT Θ (gtOr g h)) := pw_conv (pw_or ha hb) fun σ H Q ⟨e, Qp, E, h, k⟩ => by
  refine ⟨e, _, E, h, fun b H1 e1 l1 E1 h1 => ?_⟩
  cases b with
  | true => exact iteT (k _ _ _ l1 E1 (h1.1 rfl))
  | false => exact iteF ⟨e1, _, E1, h1.2 rfl, fun c H2 e2 l2 E2 h2 => k _ _ _ (l1.trans l2) E2 h2⟩
theorem qw_or1 {a : Expr} {g : GT} (ha : PT X a (tOfT Θ g)) : PW X (.BoolOp .Or [a] pos) (tOfT Θ g) := pw_or1 ha
def gAnd (g h : GE) : GE := fun e Q => g e fun d _ e1 => match d with
  | .bl b => (b = true → h e1 Q) ∧ (b = false → Q (.bl false) false e1)
  | _ => False
def gOr (g h : GE) : GE := fun e Q => g e fun d _ e1 => match d with
  | .bl b => (b = true → Q (.bl true) false e1) ∧ (b = false → h e1 Q)
  | _ => False
def gNot (g : GE) : GE := fun e Q => g e fun d _ e1 => match d with
  | .bl b => Q (.bl (!b)) false e1
  | _ => False
theorem q_and {a b : Expr} {rest : List Expr} {g h : GE} (ha : PE X a (tOf Θ g)) (hb : PE X (.BoolOp .And (b :: rest) pos) (tOf Θ h)) : PE X (.BoolOp .And (a :: b :: rest) pos) (tOf Θ (gAnd g h)) := pe_conv (pe_and ha hb) fun σ H Q ⟨e, Qp, E, h, k⟩ => by
  refine ⟨e, _, E, h, fun v d fr H1 e1 r1 h1 => ?_⟩
  have rp := r1.rp
  cases d with
  | bl b =>
    cases rp
    refine ⟨b, rfl, ?_⟩
    cases b with
    | true => exact iteT ⟨e1, _, r1.er, h1.1 rfl, fun v2 d2 fr2 H2 e2 r2 h2 => k _ _ _ _ _ (r2.from r1.le) h2⟩
    | false => exact iteF (k _ _ _ _ _ r1.weak (h1.2 rfl))
  | _ => exact h1.elim
theorem q_or {a b : Expr} {rest : List Expr} {g h : GE} (ha : PE X a (tOf Θ g)) (hb : PE X (.BoolOp .Or (b :: rest) pos) (tOf Θ h)) : PE X (.BoolOp .Or (a :: b :: rest) pos) (tOf Θ (gOr g h)) := pe_conv (pe_or ha hb) fun σ H Q ⟨e, Qp, E, h, k⟩ => by
  refine ⟨e, _, E, h, fun v d fr H1 e1 r1 h1 => ?_⟩
  have rp := r1.rp
  cases d with
  | bl b =>
    cases rp
    refine ⟨b, rfl, ?_⟩
    cases b with
    | true => exact iteT (k _ _ _ _ _ r1.weak (h1.1 rfl))
    | false => exact iteF ⟨e1, _, r1.er, h1.2 rfl, fun v2 d2 fr2 H2 e2 r2 h2 => k _ _ _ _ _ (r2.from r1.le) h2⟩
  | _ => exact h1.elim
theorem q_one {a : Expr} {op} {g : GE} (ha : PE X a (tOf Θ g)) : PE X (.BoolOp op [a] pos) (tOf Θ g) := pe_one ha
def gIf (t : GT) (g h : GE) : GE := fun e Q => t e fun b e1 => (b = true → g e1 Q) ∧ (b = false → h e1 Q)
theorem q_if {c a b : Expr} {t : GT} {g h : GE} (hc : PT X c (tOfT Θ t)) (ha : PE X a (tOf Θ g)) (hb : PE X b (tOf Θ h)) : PE X (.IfExp c a b pos) (tOf Θ (gIf t g h)) := pe_conv (pe_ifExp hc ha hb) fun σ H Q ⟨e, Qp, E, h, k⟩ => by
  refine ⟨e, _, E, h, fun b H1 e1 l1 E1 h1 => ?_⟩
  cases b with
  | true => exact iteT ⟨e1, _, E1, h1.1 rfl, fun v d fr H2 e2 r2 h2 => k _ _ _ _ _ (r2.from l1) h2⟩
  | false => exact iteF ⟨e1, _, E1, h1.2 rfl, fun v d fr H2 e2 r2 h2 => k _ _ _ _ _ (r2.from l1) h2⟩
end
end L2.Q
set_option Elab.async false
set_option linter.all false
set_option maxRecDepth 100000
set_option maxHeartbeats 4000000
namespace PySem.SeqAt
open AutoSeq1 (wpAny_loadPart')
open MeetsSeq
/-- a dict -/
def IsD (h : Heap) (l : Addr) : Prop := ∃ es n dd sl, h.get? l = some { cls := .type "dict", dict := dd, data := .dict es n, slots := sl }
theorem dict_eq_declines_none (l : Addr) (es : Array DictEntry) (n : Nat) (dd : Option Addr) (sl : Array (Option Value)) :
    Meets (Builtin.«dict.__eq__» ⟨[.ref l, .none], []⟩) (fun _ R s => s.heap.get? l = some { cls := .type "dict", dict := dd, data := .dict es n, slots := sl } ∧ R (.ok (.ret .notImplemented)) s) :=
  .of_wp fun prog w A R s h => by obtain ⟨hp, g, d, tk, os⟩ := s; obtain ⟨hl, h⟩ := h; have f1 := F.sub_NoneType_dict; wp_walk using wpAny_loadPart' hl, wpAny_load hl; exact ⟨_, rfl, h⟩
theorem dict_eq_declines_bool (l : Addr) (es : Array DictEntry) (n : Nat) (dd : Option Addr) (sl : Array (Option Value)) (b : Bool) :
    Meets (Builtin.«dict.__eq__» ⟨[.ref l, .bool b], []⟩) (fun _ R s => s.heap.get? l = some { cls := .type "dict", dict := dd, data := .dict es n, slots := sl } ∧ R (.ok (.ret .notImplemented)) s) :=
  .of_wp fun prog w A R s h => by obtain ⟨hp, g, d, tk, os⟩ := s; obtain ⟨hl, h⟩ := h; have f1 := F.sub_bool_dict; wp_walk using wpAny_loadPart' hl, wpAny_load hl; exact ⟨_, rfl, h⟩
theorem int_eq_declines_dict_bool (b : Bool) (l : Addr) (es : Array DictEntry) (n : Nat) (dd : Option Addr) (sl : Array (Option Value)) :
    Meets (Builtin.«int.__eq__» ⟨[.bool b, .ref l], []⟩) (fun _ R s => s.heap.get? l = some { cls := .type "dict", dict := dd, data := .dict es n, slots := sl } ∧ R (.ok (.ret .notImplemented)) s) :=
  .of_wp fun prog w A R s h => by obtain ⟨hp, g, d, tk, os⟩ := s; obtain ⟨hl, h⟩ := h; wp_walk using wpAny_loadPart' hl, wpAny_load hl; exact ⟨_, rfl, h⟩
theorem dict_eq_declines_int (l : Addr) (es : Array DictEntry) (n : Nat) (dd : Option Addr) (sl : Array (Option Value)) (b : Int) (u : Tok) :
    Meets (Builtin.«dict.__eq__» ⟨[.ref l, .int b u], []⟩) (fun _ R s => s.heap.get? l = some { cls := .type "dict", dict := dd, data := .dict es n, slots := sl } ∧ R (.ok (.ret .notImplemented)) s) :=
  .of_wp fun prog w A R s h => by obtain ⟨hp, g, d, tk, os⟩ := s; obtain ⟨hl, h⟩ := h; have f1 := F.sub_int_dict; wp_walk using wpAny_loadPart' hl, wpAny_load hl; exact ⟨_, rfl, h⟩
theorem int_eq_declines_dict_int (b : Int) (u : Tok) (l : Addr) (es : Array DictEntry) (n : Nat) (dd : Option Addr) (sl : Array (Option Value)) :
    Meets (Builtin.«int.__eq__» ⟨[.int b u, .ref l], []⟩) (fun _ R s => s.heap.get? l = some { cls := .type "dict", dict := dd, data := .dict es n, slots := sl } ∧ R (.ok (.ret .notImplemented)) s) :=
  .of_wp fun prog w A R s h => by obtain ⟨hp, g, d, tk, os⟩ := s; obtain ⟨hl, h⟩ := h; wp_walk using wpAny_loadPart' hl, wpAny_load hl; exact ⟨_, rfl, h⟩
theorem dict_eq_declines_str (l : Addr) (es : Array DictEntry) (n : Nat) (dd : Option Addr) (sl : Array (Option Value)) (b : Str) (u : Tok) :
    Meets (Builtin.«dict.__eq__» ⟨[.ref l, .str b u], []⟩) (fun _ R s => s.heap.get? l = some { cls := .type "dict", dict := dd, data := .dict es n, slots := sl } ∧ R (.ok (.ret .notImplemented)) s) :=
  .of_wp fun prog w A R s h => by obtain ⟨hp, g, d, tk, os⟩ := s; obtain ⟨hl, h⟩ := h; have f1 := F.sub_str_dict; wp_walk using wpAny_loadPart' hl, wpAny_load hl; exact ⟨_, rfl, h⟩
theorem str_eq_declines_dict_str (b : Str) (u : Tok) (l : Addr) (es : Array DictEntry) (n : Nat) (dd : Option Addr) (sl : Array (Option Value)) :
    Meets (Builtin.«str.__eq__» ⟨[.str b u, .ref l], []⟩) (fun _ R s => s.heap.get? l = some { cls := .type "dict", dict := dd, data := .dict es n, slots := sl } ∧ R (.ok (.ret .notImplemented)) s) :=
  .of_wp fun prog w A R s h => by obtain ⟨hp, g, d, tk, os⟩ := s; obtain ⟨hl, h⟩ := h; wp_walk using wpAny_loadPart' hl, wpAny_load hl; exact ⟨_, rfl, h⟩
theorem dict_eq_declines_list (l : Addr) (es : Array DictEntry) (n : Nat) (dd : Option Addr) (sl : Array (Option Value)) (b : Addr) (items : Array Value) (n2 : Nat) (d2 : Option Addr) (sl2 : Array (Option Value)) :
    Meets (Builtin.«dict.__eq__» ⟨[.ref l, .ref b], []⟩) (fun _ R s => s.heap.get? l = some { cls := .type "dict", dict := dd, data := .dict es n, slots := sl } ∧ s.heap.get? b = some { cls := .type "list", dict := d2, data := .seq items n2, slots := sl2 } ∧ R (.ok (.ret .notImplemented)) s) :=
  .of_wp fun prog w A R s h => by obtain ⟨hp, g, d, tk, os⟩ := s; obtain ⟨hl, hb, h⟩ := h; have f1 := F.sub_list_dict; wp_walk using wpAny_loadPart' hl, wpAny_load hl, wpAny_loadPart' hb, wpAny_load hb; exact ⟨_, rfl, h⟩
theorem list_eq_declines_dict (b : Addr) (items : Array Value) (n2 : Nat) (d2 : Option Addr) (sl2 : Array (Option Value)) (l : Addr) (es : Array DictEntry) (n : Nat) (dd : Option Addr) (sl : Array (Option Value)) :
    Meets (Builtin.«list.__eq__» ⟨[.ref b, .ref l], []⟩) (fun _ R s => s.heap.get? l = some { cls := .type "dict", dict := dd, data := .dict es n, slots := sl } ∧ s.heap.get? b = some { cls := .type "list", dict := d2, data := .seq items n2, slots := sl2 } ∧ R (.ok (.ret .notImplemented)) s) :=
  .of_wp fun prog w A R s h => by obtain ⟨hp, g, d, tk, os⟩ := s; obtain ⟨hl, hb, h⟩ := h; have f1 := F.sub_dict_list; wp_walk using wpAny_loadPart' hl, wpAny_load hl, wpAny_loadPart' hb, wpAny_load hb; exact ⟨_, rfl, h⟩
theorem dict_eq_declines_tuple (l : Addr) (es : Array DictEntry) (n : Nat) (dd : Option Addr) (sl : Array (Option Value)) (b : Addr) (items : Array Value) (n2 : Nat) (d2 : Option Addr) (sl2 : Array (Option Value)) :
    Meets (Builtin.«dict.__eq__» ⟨[.ref l, .ref b], []⟩) (fun _ R s => s.heap.get? l = some { cls := .type "dict", dict := dd, data := .dict es n, slots := sl } ∧ s.heap.get? b = some { cls := .type "tuple", dict := d2, data := .seq items n2, slots := sl2 } ∧ R (.ok (.ret .notImplemented)) s) :=
  .of_wp fun prog w A R s h => by obtain ⟨hp, g, d, tk, os⟩ := s; obtain ⟨hl, hb, h⟩ := h; have f1 := F.sub_tuple_dict; wp_walk using wpAny_loadPart' hl, wpAny_load hl, wpAny_loadPart' hb, wpAny_load hb; exact ⟨_, rfl, h⟩
theorem tuple_eq_declines_dict (b : Addr) (items : Array Value) (n2 : Nat) (d2 : Option Addr) (sl2 : Array (Option Value)) (l : Addr) (es : Array DictEntry) (n : Nat) (dd : Option Addr) (sl : Array (Option Value)) :
    Meets (Builtin.«tuple.__eq__» ⟨[.ref b, .ref l], []⟩) (fun _ R s => s.heap.get? l = some { cls := .type "dict", dict := dd, data := .dict es n, slots := sl } ∧ s.heap.get? b = some { cls := .type "tuple", dict := d2, data := .seq items n2, slots := sl2 } ∧ R (.ok (.ret .notImplemented)) s) :=
  .of_wp fun prog w A R s h => by obtain ⟨hp, g, d, tk, os⟩ := s; obtain ⟨hl, hb, h⟩ := h; have f1 := F.sub_dict_tuple; wp_walk using wpAny_loadPart' hl, wpAny_load hl, wpAny_loadPart' hb, wpAny_load hb; exact ⟨_, rfl, h⟩
section
variable {A : Around} {s : Shared}
theorem RcAt.none_dict {l : Addr} (hl : IsD s.heap l) (hu : A.units < cLine) : RcAt A s (.none) (.ref l) false := fun prog w E Q h => by
  obtain ⟨es, n, dd, sl, ho⟩ := id hl
  exact rc_eq_decline_or (k := false) rfl ⟨_, ho, rfl⟩ (by decide) F.sub_dict_NoneType F.slot_NoneType_eq F.slot_dict_eq_refl
    (fun _ hq => call_gives F.slot_NoneType_eq rfl F.entry_NoneType_eq (F.args_NoneType_eq_2 _ _) (NoneType___eq___none_ref_0 l) hq)
    (fun _ hq => call_meets F.slot_dict_eq_refl ⟨_, ho, rfl⟩ F.entry_dict_eq (F.args_dict_eq_2 _ _) (dict_eq_declines_none l es n dd sl ) ⟨ho, hq⟩)
    (fun _ hq => wpAny_of_eq (rfl : isSame (.none) (.ref l) = pure false) hq) (.inr hu) h
theorem EqAt.none_dict {l : Addr} (hl : IsD s.heap l) (hu : A.units < cLine) : EqAt A s (.none) (.ref l) false := fun prog w E Q h => by
  unfold eqBool
  refine wpAny_holding ?_
  refine wpAny_ite_split (fun hab => absurd (eq_of_beq hab) nofun) (fun _ => ?_)
  exact wpAny_bind (RcAt.none_dict  hl hu prog w E _ (wpAny_truthy_bool h))
theorem RcAt.dict_none {l : Addr} (hl : IsD s.heap l) (hu : A.units < cLine) : RcAt A s (.ref l) (.none) false := fun prog w E Q h => by
  obtain ⟨es, n, dd, sl, ho⟩ := id hl
  exact rc_eq_decline_or (k := false) ⟨_, ho, rfl⟩ rfl (by decide) F.sub_NoneType_dict F.slot_dict_eq F.slot_NoneType_eq_refl
    (fun _ hq => call_meets F.slot_dict_eq ⟨_, ho, rfl⟩ F.entry_dict_eq (F.args_dict_eq_2 _ _) (dict_eq_declines_none l es n dd sl ) ⟨ho, hq⟩)
    (fun _ hq => call_gives F.slot_NoneType_eq_refl rfl F.entry_NoneType_eq (F.args_NoneType_eq_2 _ _) (NoneType___eq___none_ref_0 l) hq)
    (fun _ hq => wpAny_of_eq (rfl : isSame (.ref l) (.none) = pure false) hq) (.inr hu) h
theorem RcAt.bool_dict {l : Addr} (b : Bool) (hl : IsD s.heap l) (hu : A.units < cLine) : RcAt A s (.bool b) (.ref l) false := fun prog w E Q h => by
  obtain ⟨es, n, dd, sl, ho⟩ := id hl
  exact rc_eq_decline_or (k := false) rfl ⟨_, ho, rfl⟩ (by decide) F.sub_dict_bool F.slot_bool_eq F.slot_dict_eq_refl
    (fun _ hq => call_meets F.slot_bool_eq rfl F.entry_int_eq (F.args_int_eq_2 _ _) (int_eq_declines_dict_bool b l es n dd sl) ⟨ho, hq⟩)
    (fun _ hq => call_meets F.slot_dict_eq_refl ⟨_, ho, rfl⟩ F.entry_dict_eq (F.args_dict_eq_2 _ _) (dict_eq_declines_bool l es n dd sl b) ⟨ho, hq⟩)
    (fun _ hq => wpAny_of_eq (rfl : isSame (.bool b) (.ref l) = pure false) hq) (.inr hu) h
theorem EqAt.bool_dict {l : Addr} (b : Bool) (hl : IsD s.heap l) (hu : A.units < cLine) : EqAt A s (.bool b) (.ref l) false := fun prog w E Q h => by
  unfold eqBool
  refine wpAny_holding ?_
  refine wpAny_ite_split (fun hab => absurd (eq_of_beq hab) nofun) (fun _ => ?_)
  exact wpAny_bind (RcAt.bool_dict b hl hu prog w E _ (wpAny_truthy_bool h))
theorem RcAt.dict_bool {l : Addr} (b : Bool) (hl : IsD s.heap l) (hu : A.units < cLine) : RcAt A s (.ref l) (.bool b) false := fun prog w E Q h => by
  obtain ⟨es, n, dd, sl, ho⟩ := id hl
  exact rc_eq_decline_or (k := false) ⟨_, ho, rfl⟩ rfl (by decide) F.sub_bool_dict F.slot_dict_eq F.slot_bool_eq_refl
    (fun _ hq => call_meets F.slot_dict_eq ⟨_, ho, rfl⟩ F.entry_dict_eq (F.args_dict_eq_2 _ _) (dict_eq_declines_bool l es n dd sl b) ⟨ho, hq⟩)
    (fun _ hq => call_meets F.slot_bool_eq_refl rfl F.entry_int_eq (F.args_int_eq_2 _ _) (int_eq_declines_dict_bool b l es n dd sl) ⟨ho, hq⟩)
    (fun _ hq => wpAny_of_eq (rfl : isSame (.ref l) (.bool b) = pure false) hq) (.inr hu) h
theorem RcAt.int_dict {l : Addr} (b : Int) (u : Tok) (hl : IsD s.heap l) (hu : A.units < cLine) : RcAt A s (.int b u) (.ref l) false := fun prog w E Q h => by
  obtain ⟨es, n, dd, sl, ho⟩ := id hl
  exact rc_eq_decline_or (k := false) rfl ⟨_, ho, rfl⟩ (by decide) F.sub_dict_int F.slot_int_eq F.slot_dict_eq_refl
    (fun _ hq => call_meets F.slot_int_eq rfl F.entry_int_eq (F.args_int_eq_2 _ _) (int_eq_declines_dict_int b u l es n dd sl) ⟨ho, hq⟩)
    (fun _ hq => call_meets F.slot_dict_eq_refl ⟨_, ho, rfl⟩ F.entry_dict_eq (F.args_dict_eq_2 _ _) (dict_eq_declines_int l es n dd sl b u) ⟨ho, hq⟩)
    (fun _ hq => wpAny_of_eq (rfl : isSame (.int b u) (.ref l) = pure false) hq) (.inr hu) h
theorem EqAt.int_dict {l : Addr} (b : Int) (u : Tok) (hl : IsD s.heap l) (hu : A.units < cLine) : EqAt A s (.int b u) (.ref l) false := fun prog w E Q h => by
  unfold eqBool
  refine wpAny_holding ?_
  refine wpAny_ite_split (fun hab => absurd (eq_of_beq hab) nofun) (fun _ => ?_)
  exact wpAny_bind (RcAt.int_dict b u hl hu prog w E _ (wpAny_truthy_bool h))
theorem RcAt.dict_int {l : Addr} (b : Int) (u : Tok) (hl : IsD s.heap l) (hu : A.units < cLine) : RcAt A s (.ref l) (.int b u) false := fun prog w E Q h => by
  obtain ⟨es, n, dd, sl, ho⟩ := id hl
  exact rc_eq_decline_or (k := false) ⟨_, ho, rfl⟩ rfl (by decide) F.sub_int_dict F.slot_dict_eq F.slot_int_eq_refl
    (fun _ hq => call_meets F.slot_dict_eq ⟨_, ho, rfl⟩ F.entry_dict_eq (F.args_dict_eq_2 _ _) (dict_eq_declines_int l es n dd sl b u) ⟨ho, hq⟩)
    (fun _ hq => call_meets F.slot_int_eq_refl rfl F.entry_int_eq (F.args_int_eq_2 _ _) (int_eq_declines_dict_int b u l es n dd sl) ⟨ho, hq⟩)
    (fun _ hq => wpAny_of_eq (rfl : isSame (.ref l) (.int b u) = pure false) hq) (.inr hu) h
theorem RcAt.str_dict {l : Addr} (b : Str) (u : Tok) (hl : IsD s.heap l) (hu : A.units < cLine) : RcAt A s (.str b u) (.ref l) false := fun prog w E Q h => by
  obtain ⟨es, n, dd, sl, ho⟩ := id hl
  exact rc_eq_decline_or (k := false) (typeIs_str s b u) ⟨_, ho, rfl⟩ (by decide) F.sub_dict_str F.slot_str_eq F.slot_dict_eq_refl
    (fun _ hq => call_meets F.slot_str_eq (typeIs_str s b u) F.entry_str_eq (F.args_str_eq_2 _ _) (str_eq_declines_dict_str b u l es n dd sl) ⟨ho, hq⟩)
    (fun _ hq => call_meets F.slot_dict_eq_refl ⟨_, ho, rfl⟩ F.entry_dict_eq (F.args_dict_eq_2 _ _) (dict_eq_declines_str l es n dd sl b u) ⟨ho, hq⟩)
    (fun _ hq => wpAny_of_eq (rfl : isSame (.str b u) (.ref l) = pure false) hq) (.inr hu) h
theorem EqAt.str_dict {l : Addr} (b : Str) (u : Tok) (hl : IsD s.heap l) (hu : A.units < cLine) : EqAt A s (.str b u) (.ref l) false := fun prog w E Q h => by
  unfold eqBool
  refine wpAny_holding ?_
  refine wpAny_ite_split (fun hab => absurd (eq_of_beq hab) nofun) (fun _ => ?_)
  exact wpAny_bind (RcAt.str_dict b u hl hu prog w E _ (wpAny_truthy_bool h))
theorem RcAt.dict_str {l : Addr} (b : Str) (u : Tok) (hl : IsD s.heap l) (hu : A.units < cLine) : RcAt A s (.ref l) (.str b u) false := fun prog w E Q h => by
  obtain ⟨es, n, dd, sl, ho⟩ := id hl
  exact rc_eq_decline_or (k := false) ⟨_, ho, rfl⟩ (typeIs_str s b u) (by decide) F.sub_str_dict F.slot_dict_eq F.slot_str_eq_refl
    (fun _ hq => call_meets F.slot_dict_eq ⟨_, ho, rfl⟩ F.entry_dict_eq (F.args_dict_eq_2 _ _) (dict_eq_declines_str l es n dd sl b u) ⟨ho, hq⟩)
    (fun _ hq => call_meets F.slot_str_eq_refl (typeIs_str s b u) F.entry_str_eq (F.args_str_eq_2 _ _) (str_eq_declines_dict_str b u l es n dd sl) ⟨ho, hq⟩)
    (fun _ hq => wpAny_of_eq (rfl : isSame (.ref l) (.str b u) = pure false) hq) (.inr hu) h
theorem RcAt.dict_list {l b : Addr} {items : Array Value} (hl : IsD s.heap l) (hb : s.heap.IsList b items) (hu : A.units < cLine) : l ≠ b ∧ RcAt A s (.ref l) (.ref b) false := by
  obtain ⟨es, n, dd, sl, ho⟩ := id hl
  obtain ⟨⟨cls2, dd2, data2, sl2⟩, ho2, hc2, n2, hd2⟩ := id hb
  simp only at hc2 hd2
  subst hc2 hd2
  have hne : l ≠ b := fun c => by
    rw [c, ho2] at ho
    simp at ho
  exact ⟨hne, fun prog w E Q h => (rc_eq_decline_or (k := false) ⟨_, ho, rfl⟩ ⟨_, ho2, rfl⟩ (by decide) F.sub_list_dict F.slot_dict_eq F.slot_list_eq_refl
    (fun _ hq => call_meets F.slot_dict_eq ⟨_, ho, rfl⟩ F.entry_dict_eq (F.args_dict_eq_2 _ _) (dict_eq_declines_list l es n dd sl b items n2 dd2 sl2) ⟨ho, ho2, hq⟩)
    (fun _ hq => call_meets F.slot_list_eq_refl ⟨_, ho2, rfl⟩ F.entry_list_eq (F.args_list_eq_2 _ _) (list_eq_declines_dict b items n2 dd2 sl2 l es n dd sl) ⟨ho, ho2, hq⟩)
    (fun _ hq => wpAny_isSame_ref_other hne ho ho2 (by simp) hq) (.inr hu) h)⟩
theorem RcAt.list_dict {l b : Addr} {items : Array Value} (hb : s.heap.IsList b items) (hl : IsD s.heap l) (hu : A.units < cLine) : b ≠ l ∧ RcAt A s (.ref b) (.ref l) false := by
  obtain ⟨es, n, dd, sl, ho⟩ := id hl
  obtain ⟨⟨cls2, dd2, data2, sl2⟩, ho2, hc2, n2, hd2⟩ := id hb
  simp only at hc2 hd2
  subst hc2 hd2
  have hne : b ≠ l := fun c => by
    rw [c, ho] at ho2
    simp at ho2
  exact ⟨hne, fun prog w E Q h => (rc_eq_decline_or (k := false) ⟨_, ho2, rfl⟩ ⟨_, ho, rfl⟩ (by decide) F.sub_dict_list F.slot_list_eq F.slot_dict_eq_refl
    (fun _ hq => call_meets F.slot_list_eq ⟨_, ho2, rfl⟩ F.entry_list_eq (F.args_list_eq_2 _ _) (list_eq_declines_dict b items n2 dd2 sl2 l es n dd sl) ⟨ho, ho2, hq⟩)
    (fun _ hq => call_meets F.slot_dict_eq_refl ⟨_, ho, rfl⟩ F.entry_dict_eq (F.args_dict_eq_2 _ _) (dict_eq_declines_list l es n dd sl b items n2 dd2 sl2) ⟨ho, ho2, hq⟩)
    (fun _ hq => wpAny_isSame_ref_other' hne ho2 ho (by simp) hq) (.inr hu) h)⟩
theorem EqAt.list_dict {l b : Addr} {items : Array Value} (hb : s.heap.IsList b items) (hl : IsD s.heap l) (hu : A.units < cLine) : EqAt A s (.ref b) (.ref l) false := .of_refs (RcAt.list_dict hb hl hu).1 (RcAt.list_dict hb hl hu).2
theorem RcAt.dict_tuple {l b : Addr} {items : Array Value} (hl : IsD s.heap l) (hb : s.heap.IsTuple b items) (hu : A.units < cLine) : l ≠ b ∧ RcAt A s (.ref l) (.ref b) false := by
  obtain ⟨es, n, dd, sl, ho⟩ := id hl
  obtain ⟨⟨cls2, dd2, data2, sl2⟩, ho2, hc2, n2, hd2⟩ := id hb
  simp only at hc2 hd2
  subst hc2 hd2
  have hne : l ≠ b := fun c => by
    rw [c, ho2] at ho
    simp at ho
  exact ⟨hne, fun prog w E Q h => (rc_eq_decline_or (k := false) ⟨_, ho, rfl⟩ ⟨_, ho2, rfl⟩ (by decide) F.sub_tuple_dict F.slot_dict_eq F.slot_tuple_eq_refl
    (fun _ hq => call_meets F.slot_dict_eq ⟨_, ho, rfl⟩ F.entry_dict_eq (F.args_dict_eq_2 _ _) (dict_eq_declines_tuple l es n dd sl b items n2 dd2 sl2) ⟨ho, ho2, hq⟩)
    (fun _ hq => call_meets F.slot_tuple_eq_refl ⟨_, ho2, rfl⟩ F.entry_tuple_eq (F.args_tuple_eq_2 _ _) (tuple_eq_declines_dict b items n2 dd2 sl2 l es n dd sl) ⟨ho, ho2, hq⟩)
    (fun _ hq => wpAny_isSame_ref_other hne ho ho2 (by simp) hq) (.inr hu) h)⟩
theorem RcAt.tuple_dict {l b : Addr} {items : Array Value} (hb : s.heap.IsTuple b items) (hl : IsD s.heap l) (hu : A.units < cLine) : b ≠ l ∧ RcAt A s (.ref b) (.ref l) false := by
  obtain ⟨es, n, dd, sl, ho⟩ := id hl
  obtain ⟨⟨cls2, dd2, data2, sl2⟩, ho2, hc2, n2, hd2⟩ := id hb
  simp only at hc2 hd2
  subst hc2 hd2
  have hne : b ≠ l := fun c => by
    rw [c, ho] at ho2
    simp at ho2
  exact ⟨hne, fun prog w E Q h => (rc_eq_decline_or (k := false) ⟨_, ho2, rfl⟩ ⟨_, ho, rfl⟩ (by decide) F.sub_dict_tuple F.slot_tuple_eq F.slot_dict_eq_refl
    (fun _ hq => call_meets F.slot_tuple_eq ⟨_, ho2, rfl⟩ F.entry_tuple_eq (F.args_tuple_eq_2 _ _) (tuple_eq_declines_dict b items n2 dd2 sl2 l es n dd sl) ⟨ho, ho2, hq⟩)
    (fun _ hq => call_meets F.slot_dict_eq_refl ⟨_, ho, rfl⟩ F.entry_dict_eq (F.args_dict_eq_2 _ _) (dict_eq_declines_tuple l es n dd sl b items n2 dd2 sl2) ⟨ho, ho2, hq⟩)
    (fun _ hq => wpAny_isSame_ref_other' hne ho2 ho (by simp) hq) (.inr hu) h)⟩
theorem EqAt.tuple_dict {l b : Addr} {items : Array Value} (hb : s.heap.IsTuple b items) (hl : IsD s.heap l) (hu : A.units < cLine) : EqAt A s (.ref b) (.ref l) false := .of_refs (RcAt.tuple_dict hb hl hu).1 (RcAt.tuple_dict hb hl hu).2
end
end PySem.SeqAt
set_option Elab.async false
set_option linter.all false
set_option maxRecDepth 100000
set_option maxHeartbeats 4000000
namespace L2.Wb
open PySem PySem.Spec PyProof.Rows L2
section
variable {X : Cx} {pins : List (Addr × Obj)} {σ : L2.St} {H : Hp} {s : Shared}
/-- a dict, walked or not -/
def DcAt (H : Hp) (a : Addr) : Prop := (∃ kvs, L2.Rd H a (.dK kvs)) ∨ ∃ kvs, L2.Rd H a (.dT kvs)
theorem DcAt.is (h : DcAt H a) (I : Inv X pins σ H s) : SeqAt.IsD s.heap a := by
  rcases h with ⟨kvs, h⟩ | ⟨kvs, h⟩
  · obtain ⟨_, _, vs, _, o, es, ep, ho, hx, hd, _⟩ := rd_of I.hok h
    obtain ⟨cls, dd, data, sl⟩ := o
    have hc : cls = .type "dict" := hx.1
    simp only at hd
    subst hc hd
    exact ⟨_, _, _, _, ho⟩
  · obtain ⟨_, _, vs, _, o, es, ep, ho, hx, hd, _⟩ := rd_of I.hok h
    obtain ⟨cls, dd, data, sl⟩ := o
    have hc : cls = .type "dict" := hx.1
    simp only at hd
    subst hc hd
    exact ⟨_, _, _, _, ho⟩
theorem reads_eq_dict {A : Around} {v : Value} {d : PyData} {as : List Addr} {a : Addr} (r : Reads s.heap v d as) (hp : d.plain = true) (h : SeqAt.IsD s.heap a) (hu : A.units < cLine) : SeqAt.EqAt A s v (.ref a) false := by
  cases r with
  | none => exact SeqAt.EqAt.none_dict h hu
  | bool b => exact SeqAt.EqAt.bool_dict b h hu
  | int i t => exact SeqAt.EqAt.int_dict i t h hu
  | str i t => exact SeqAt.EqAt.str_dict i t h hu
  | list h1 h2 h3 h4 => exact SeqAt.EqAt.list_dict ⟨_, h1, h2, _, h3⟩ h hu
  | tuple h1 h2 h3 h4 => exact SeqAt.EqAt.tuple_dict ⟨_, h1, h2, _, h3⟩ h hu
  | dict => exact nomatch hp
theorem rc_reads_dict {A : Around} {v : Value} {d : PyData} {as : List Addr} {a : Addr} (r : Reads s.heap v d as) (hp : d.plain = true) (h : SeqAt.IsD s.heap a) (hu : A.units < cLine) : SeqAt.RcAt A s v (.ref a) false := by
  cases r with
  | none => exact SeqAt.RcAt.none_dict h hu
  | bool b => exact SeqAt.RcAt.bool_dict b h hu
  | int i t => exact SeqAt.RcAt.int_dict i t h hu
  | str i t => exact SeqAt.RcAt.str_dict i t h hu
  | list h1 h2 h3 h4 => exact (SeqAt.RcAt.list_dict ⟨_, h1, h2, _, h3⟩ h hu).2
  | tuple h1 h2 h3 h4 => exact (SeqAt.RcAt.tuple_dict ⟨_, h1, h2, _, h3⟩ h hu).2
  | dict => exact nomatch hp
theorem rc_dict_reads {A : Around} {v : Value} {d : PyData} {as : List Addr} {a : Addr} (r : Reads s.heap v d as) (hp : d.plain = true) (h : SeqAt.IsD s.heap a) (hu : A.units < cLine) : SeqAt.RcAt A s (.ref a) v false := by
  cases r with
  | none => exact SeqAt.RcAt.dict_none h hu
  | bool b => exact SeqAt.RcAt.dict_bool b h hu
  | int i t => exact SeqAt.RcAt.dict_int i t h hu
  | str i t => exact SeqAt.RcAt.dict_str i t h hu
  | list h1 h2 h3 h4 => exact (SeqAt.RcAt.dict_list h ⟨_, h1, h2, _, h3⟩ hu).2
  | tuple h1 h2 h3 h4 => exact (SeqAt.RcAt.dict_tuple h ⟨_, h1, h2, _, h3⟩ hu).2
  | dict => exact nomatch hp
/-- data without dicts, not too deep -/
def Pl (d : PyData) : Prop := d.plain = true ∧ d.depth ≤ 64
def rEqT (K : PySem.W.Frag) : R2 := fun x y H Q => (∃ d e, Dp K H x d ∧ Dp K H y e ∧ Pl d ∧ Pl e ∧ Q (.bl (PyData.eqv d e)) H) ∨ (∃ a e, x = .ref a ∧ DcAt H a ∧ Dp K H y e ∧ Pl e ∧ Q (.bl false) H) ∨ ∃ d a, Dp K H x d ∧ Pl d ∧ y = .ref a ∧ DcAt H a ∧ Q (.bl false) H
theorem op_eqT (hu : X.A.units + 65 < cLine) : OpR X (compareOp .Eq) (rEqT X.K) := by
  intro pins s σ H x y v u Q I rx ry h
  rcases h with ⟨d, e, hd, he, pd, pe, q⟩ | ⟨a, e, rfl, ha, he, pe, q⟩ | ⟨d, a, hd, pd, rfl, ha, q⟩
  · obtain ⟨as, r1⟩ := Dp.reads I d x v hd rx
    obtain ⟨bs, r2⟩ := Dp.reads I e y u he ry
    exact SeqAt.eq_plain r1 r2 pd.1 pe.1 (by have := Nat.min_le_left d.depth e.depth; have := pd.2; omega) ⟨.bl _, H, I, rfl, q⟩
  · cases rx
    obtain ⟨bs, r2⟩ := Dp.reads I e y u he ry
    exact rc_dict_reads r2 pe.1 (ha.is I) (by omega) X.prog X.w _ _ ⟨.bl _, H, I, rfl, q⟩
  · cases ry
    obtain ⟨as, r1⟩ := Dp.reads I d x v hd rx
    exact rc_reads_dict r1 pd.1 (ha.is I) (by omega) X.prog X.w _ _ ⟨.bl _, H, I, rfl, q⟩
def rNeT (K : PySem.W.Frag) : R2 := fun x y H Q => ∃ d e, Dp K H x d ∧ Dp K H y e ∧ Pl d ∧ Pl e ∧ Q (.bl (!PyData.eqv d e)) H
theorem op_neT (hu : X.A.units + 65 < cLine) : OpR X (compareOp .NotEq) (rNeT X.K) := by
  intro pins s σ H x y v u Q I rx ry h
  obtain ⟨d, e, hd, he, pd, pe, q⟩ := h
  obtain ⟨as, r1⟩ := Dp.reads I d x v hd rx
  obtain ⟨bs, r2⟩ := Dp.reads I e y u he ry
  exact SeqAt.ne_plain r1 r2 pd.1 pe.1 (by have := Nat.min_le_left d.depth e.depth; have := pd.2; omega) ⟨.bl _, H, I, rfl, q⟩
/-- x in c: c a list or a tuple of data without dicts -/
def rInT (K : PySem.W.Frag) (neg : Bool) : R2 := fun x y H Q => ∃ ds, (Dp K H y (.list ds) ∨ Dp K H y (.tuple ds)) ∧ PyData.plainAll ds = true ∧ ((∃ d, Dp K H x d ∧ Pl d ∧ Q (.bl (neg != ds.any fun z => PyData.eqv z d)) H) ∨ ∃ a, x = .ref a ∧ DcAt H a ∧ Q (.bl neg) H)
theorem op_inT (hu : X.A.units + 65 < cLine) : OpR X (compareOp .In) (rInT X.K false) := by
  intro pins s σ H x y v u Q I rx ry h
  obtain ⟨ds, hy, pd, h⟩ := h
  rcases hy with hy | hy
  · obtain ⟨bs, r2⟩ := Dp.reads I (.list ds) y u hy ry
    rcases h with ⟨d, hd, hp, q⟩ | ⟨a, rfl, ha, q⟩
    · obtain ⟨as, r1⟩ := Dp.reads I d x v hd rx
      exact SeqAt.in_list_data r2 r1 pd hp.1 (by have := Nat.min_le_right (PyData.depthAll ds) d.depth; have := hp.2; omega) ⟨.bl _, H, I, rfl, by rw [Bool.false_bne] at q; exact q⟩
    · cases rx
      cases r2 with
      | list h1 h2 h3 h4 =>
        refine SeqAt.in_listAt (fun _ => false) ⟨_, h1, h2, _, h3⟩ (fun z hz => ?_) ⟨.bl _, H, I, rfl, by rw [show (Array.any _ fun _ => false) = false by rw [← Array.any_toList]; exact List.any_eq_false.mpr fun _ _ => Bool.noConfusion]; exact q⟩
        obtain ⟨dz, cs, rz, hcz, _⟩ := SeqAt.readsAll_mem_plain ds _ _ pd h4 z (by simpa using hz)
        exact reads_eq_dict rz hcz (ha.is I) (show X.A.units + 1 < cLine by omega)
  · obtain ⟨bs, r2⟩ := Dp.reads I (.tuple ds) y u hy ry
    rcases h with ⟨d, hd, hp, q⟩ | ⟨a, rfl, ha, q⟩
    · obtain ⟨as, r1⟩ := Dp.reads I d x v hd rx
      exact SeqAt.in_tuple_data r2 r1 pd hp.1 (by have := Nat.min_le_right (PyData.depthAll ds) d.depth; have := hp.2; omega) ⟨.bl _, H, I, rfl, by rw [Bool.false_bne] at q; exact q⟩
    · cases rx
      cases r2 with
      | tuple h1 h2 h3 h4 =>
        refine SeqAt.in_tupleAt (fun _ => false) ⟨_, h1, h2, _, h3⟩ (fun z hz => ?_) ⟨.bl _, H, I, rfl, by rw [show (Array.any _ fun _ => false) = false by rw [← Array.any_toList]; exact List.any_eq_false.mpr fun _ _ => Bool.noConfusion]; exact q⟩
        obtain ⟨dz, cs, rz, hcz, _⟩ := SeqAt.readsAll_mem_plain ds _ _ pd h4 z (by simpa using hz)
        exact reads_eq_dict rz hcz (ha.is I) (show X.A.units + 1 < cLine by omega)
end
end L2.Wb
set_option Elab.async false
set_option linter.all false
set_option maxRecDepth 100000
set_option maxHeartbeats 4000000
namespace L2
open PySem PySem.Spec PyProof.Rows
theorem tuple_mul1 (l : Addr) (items : Array Value) (n : Nat) (dd : Option Addr) (sl : Array (Option Value)) (x : Int) (u : Tok) (c0 : (decide (x < -(2 ^ 63)) || decide (x ≥ 2 ^ 63)) = false) (c1 : (items.isEmpty || x == 1) = true) :
    Meets (Builtin.«tuple.__mul__» ⟨[.ref l, .int x u], []⟩) (fun _ R s => s.heap.get? l = some { cls := .type "tuple", dict := dd, data := .seq items n, slots := sl } ∧ R (.ok (.ret (Value.ref l))) s) :=
  .of_wp fun prog w A R s h => by
    obtain ⟨hp, g, d, tk, os⟩ := s
    obtain ⟨hl, h⟩ := h
    have f1 := AutoSeq1.idx_int
    wp_walk using wpAny_loadPart' hl
    repeat (first
      | (refine wpAny_ite_false (decide_eq_false (by rw [c0]; exact Bool.false_ne_true)) ?_; wp_walk using wpAny_loadPart' hl)
      | (refine wpAny_ite_true (decide_eq_true c1) ?_; wp_walk using wpAny_loadPart' hl))
    exact ⟨_, rfl, h⟩
def rRepS (K : PySem.W.Frag) : R2 := fun x y H Q => ∃ l k xs, x = .ref l ∧ y = .int k ∧ SqT K H l xs ∧ (xs = [] ∨ k = 1) ∧ -1000000 ≤ k ∧ k ≤ 1000000 ∧ Q (.ref l) H
section
variable {X : Cx}
theorem op_repS : OpR X (binaryOp .Mult) (rRepS X.K) := by
  intro pins s σ H x y v u Q I rx ry h
  obtain ⟨l, k, xs, rfl, rfl, hT, he, h1, h2, q⟩ := h
  cases rx
  obtain ⟨t, rfl⟩ := ry
  obtain ⟨its, r, ⟨⟨cls, dd, data, sl⟩, ho, hc, n, hd⟩, hs⟩ := I.tuple hT
  simp only at hc hd
  subst hc hd
  have hle : its.length = xs.length := r.length.symm
  have c0 : (decide (k < -(2 ^ 63)) || decide (k ≥ 2 ^ 63)) = false := by
    rw [decide_eq_false (by omega), decide_eq_false (by omega)] <;> rfl
  have c1 : (its.toArray.isEmpty || k == 1) = true := by
    rcases he with e | e
    · rw [e] at hle
      rw [List.eq_nil_of_length_eq_zero hle]; rfl
    · rw [e]; simp
  refine wpAny_binaryOp_repeat_ref (T := "tuple") (U := "int") (by decide) ⟨_, ho, rfl⟩ (fun s' => typeIs_int s' k t) noFill_tuple_mul F.fills_int_mul F.slot_int_rmul repeat_tuple F.slot_int_index.lookup
    (call_meets F.slot_int_rmul (typeIs_int s k t) F.entry_int_rmul (F.args_int_rmul_2 _ _) (int_rmul_tuple k t l its.toArray n dd sl)
      ⟨ho, rfl, ⟨_, ho, rfl⟩, call_meets F.slot_tuple_mul ⟨_, ho, rfl⟩ F.entry_tuple_mul (F.args_tuple_mul_2 _ _) (tuple_mul1 l its.toArray n dd sl k t c0 c1) ⟨ho, ?_⟩⟩)
  exact ⟨.ref l, H, I, rfl, q⟩
end
end L2
set_option Elab.async false
set_option linter.all false
set_option maxRecDepth 100000
set_option maxHeartbeats 4000000
namespace L2.Q
open PySem PySem.Spec PyProof.Rows L2 L2.Wb
section
variable {Θ : Th} {X : Cx} {pos : Pos}
theorem Rp.intE {C : Cn} {H : Hp} {v : V} {i : Int} (h : Rp C H v (.int i)) : v = .int i := by cases h; rfl
theorem Rp.strE {C : Cn} {H : Hp} {v : V} {x : Str} (h : Rp C H v (.str x)) : v = .str x := by cases h; rfl
theorem Rp.blE {C : Cn} {H : Hp} {v : V} {b : Bool} (h : Rp C H v (.bl b)) : v = .bl b := by cases h; rfl
theorem Rp.lstE {C : Cn} {N : Addr → Prop} {H : Hp} {v : V} {ds : List D} (h : Rp C (cut N H) v (.lst ds)) : ∃ a xs, v = .ref a ∧ H a = some (.lst xs) ∧ RpA C (cut N H) xs ds := by
  cases h with
  | lst h1 h2 => exact ⟨_, _, rfl, (cut_in h1).2, h2⟩
theorem Rp.tupE {C : Cn} {N : Addr → Prop} {H : Hp} {v : V} {ds : List D} (h : Rp C (cut N H) v (.tup ds)) : ∃ a xs, v = .ref a ∧ H a = some (.tup xs) ∧ RpA C (cut N H) xs ds := by
  cases h with
  | tup h1 h2 => exact ⟨_, _, rfl, (cut_in h1).2, h2⟩
theorem RpA.nilE {C : Cn} {H : Hp} {xs : List V} {ds : List D} (h : RpA C H xs ds) : xs = [] ↔ ds = [] := by
  cases h with
  | nil => simp
  | cons _ _ => simp
def addF : F2 := fun x y k => match x, y with
  | .int a, .int b => k (.int (a + b)) false
  | .lst a, .lst b => a.length + b.length ≤ 1000000 ∧ k (.lst (a ++ b)) true
  | .tup a, .tup b => a.length + b.length ≤ 1000000 ∧ k (.tup (a ++ b)) false
  | .str a, .str b => a.length + b.length ≤ 1000000 ∧ k (.str (a ++ b)) false
  | _, _ => False
theorem oq_add : OpQ X Θ (binaryOp .Add) addF := by
  refine ⟨_, OpR.or op_add (OpR.or op_cat (OpR.or op_catA op_add_str)), fun σ H e v w x y k Q E rx ry h K => ?_⟩
  match x, y, h with
  | .int a, .int b, h =>
    rw [rx.intE, ry.intE]
    exact .inl ⟨a, b, rfl, rfl, K _ _ _ _ (Res.mk E (.int _)) h⟩
  | .lst a, .lst b, ⟨hl, h⟩ =>
    obtain ⟨l, xs, rfl, h1, r1⟩ := rx.lstE
    obtain ⟨m, ys, rfl, h2, r2⟩ := ry.lstE
    exact .inr (.inl ⟨l, m, xs, ys, rfl, rfl, h1, h2, by rw [r1.len, r2.len]; exact mil hl, fun p hp => K _ _ _ _ (Res.newL E hp (r1.app r2)) h⟩)
  | .tup a, .tup b, ⟨hl, h⟩ =>
    obtain ⟨l, xs, rfl, h1, r1⟩ := rx.tupE
    obtain ⟨m, ys, rfl, h2, r2⟩ := ry.tupE
    refine .inr (.inr (.inl ⟨l, m, xs, ys, rfl, rfl, SqT.of h1, SqT.of h2, by rw [r1.len, r2.len]; exact mil hl, fun z => ?_, fun _ z => ?_, fun _ _ p hp => K _ _ _ _ (Res.newT E hp (r1.app r2)) h⟩))
    · rw [r1.nilE.mp z] at h
      exact K _ _ _ _ (Res.mk E ry) h
    · rw [r2.nilE.mp z, List.append_nil] at h
      exact K _ _ _ _ (Res.mk E rx) h
  | .str a, .str b, ⟨hl, h⟩ =>
    rw [rx.strE, ry.strE]
    exact .inr (.inr (.inr ⟨a, b, rfl, rfl, mil hl, K _ _ _ _ (Res.mk E (.str _)) h⟩))
def subF : F2 := fun x y k => match x, y with
  | .int a, .int b => k (.int (a - b)) false
  | _, _ => False
theorem oq_sub : OpQ X Θ (binaryOp .Sub) subF := by
  refine ⟨_, op_sub, fun σ H e v w x y k Q E rx ry h K => ?_⟩
  match x, y, h with
  | .int a, .int b, h =>
    rw [rx.intE, ry.intE]
    exact ⟨a, b, rfl, rfl, K _ _ _ _ (Res.mk E (.int _)) h⟩
def mulF : F2 := fun x y k => match x, y with
  | .int a, .int b => ((-(2 ^ 64) < a ∧ a < 2 ^ 64) ∨ (-(2 ^ 64) < b ∧ b < 2 ^ 64)) ∧ k (.int (a * b)) false
  | .lst a, .int b => -1000000 ≤ b ∧ b ≤ 1000000 ∧ a.length * b.toNat ≤ 1000000 ∧ k (.lst (List.replicate b.toNat a).flatten) true
  | .tup a, .int b => -1000000 ≤ b ∧ b ≤ 1000 ∧ a.length ≤ 1000 ∧ (b ≤ 0 → a = []) ∧ k (.tup (List.replicate b.toNat a).flatten) false
  | _, _ => False
theorem RpA.rep {C : Cn} {H : Hp} {xs : List V} {ds : List D} (h : RpA C H xs ds) : ∀ n : Nat, RpA C H (List.replicate n xs).flatten (List.replicate n ds).flatten
  | 0 => .nil
  | n + 1 => by
    rw [List.replicate_succ, List.replicate_succ, List.flatten_cons, List.flatten_cons]
    exact h.app (RpA.rep h n)
theorem oq_mul : OpQ X Θ (binaryOp .Mult) mulF := by
  refine ⟨_, OpR.or op_mul (OpR.or op_rep (OpR.or op_repS op_repT)), fun σ H e v w x y k Q E rx ry h K => ?_⟩
  match x, y, h with
  | .int a, .int b, ⟨c, h⟩ =>
    rw [rx.intE, ry.intE]
    exact .inl ⟨a, b, rfl, rfl, c, K _ _ _ _ (Res.mk E (.int _)) h⟩
  | .tup a, .int b, ⟨c1, c2, c3, c4, h⟩ =>
    obtain ⟨l, xs, rfl, h1, r1⟩ := rx.tupE
    rw [ry.intE]
    have hl : xs.length = a.length := r1.len
    by_cases c : a = [] ∨ b = 1
    · have e : (List.replicate b.toNat a).flatten = a := by
        rcases c with c | c
        · rw [c]
          induction b.toNat with
          | zero => rfl
          | succ n ih => rw [List.replicate_succ, List.flatten_cons, ih]; rfl
        · rw [c]
          show (a ++ []) = a
          exact List.append_nil _
      rw [e] at h
      exact .inr (.inr (.inl ⟨l, b, xs, rfl, rfl, SqT.of h1, c.imp (fun z => r1.nilE.mpr z) id, by omega, by omega, K _ _ _ _ (Res.mk E rx) h⟩))
    · have n1 : a ≠ [] := fun z => c (.inl z)
      have n2 : b ≠ 1 := fun z => c (.inr z)
      have b0 : ¬ b ≤ 0 := fun z => n1 (c4 z)
      exact .inr (.inr (.inr ⟨l, b, xs, rfl, rfl, SqT.of h1, fun z => n1 (r1.nilE.mp z), by omega, by omega, by omega, fun p hp => K _ _ _ _ (Res.newT E hp (r1.rep _)) h⟩))
  | .lst a, .int b, ⟨c1, c2, c3, h⟩ =>
    obtain ⟨l, xs, rfl, h1, r1⟩ := rx.lstE
    rw [ry.intE]
    exact .inr (.inl ⟨l, b, xs, rfl, rfl, h1, by omega, by omega, by rw [r1.len]; exact mil c3, fun p hp => K _ _ _ _ (Res.newL E hp (r1.rep _)) h⟩)
def divF : F2 := fun x y k => match x, y with
  | .int a, .int b => 0 < b ∧ b < 1073741824 ∧ k (.int (a / b)) false
  | _, _ => False
def modF : F2 := fun x y k => match x, y with
  | .int a, .int b => 0 < b ∧ k (.int (a % b)) false
  | _, _ => False
theorem oq_mod : OpQ X Θ (binaryOp .Mod) modF := by
  refine ⟨_, op_mod, fun σ H e v w x y k Q E rx ry h K => ?_⟩
  match x, y, h with
  | .int a, .int b, ⟨c1, h⟩ =>
    rw [rx.intE, ry.intE]
    exact ⟨a, b, rfl, rfl, c1, K _ _ _ _ (Res.mk E (.int _)) h⟩
def powF : F2 := fun x y k => match x, y with
  | .int a, .int b => (0 ≤ b ∧ b ≤ 1000000 ∧ a.natAbs < 2 ^ 64) ∧ k (.int (a ^ b.toNat)) false
  | _, _ => False
theorem oq_pow : OpQ X Θ (binaryOp .Pow) powF := by
  refine ⟨_, op_pow, fun σ H e v w x y k Q E rx ry h K => ?_⟩
  match x, y, h with
  | .int a, .int b, ⟨c1, h⟩ =>
    rw [rx.intE, ry.intE]
    exact ⟨a, b, rfl, rfl, c1, K _ _ _ _ (Res.mk E (.int _)) h⟩
/-- - a -/
def gNeg (g : GE) : GE := fun e Q => g e fun d _ e1 => match d with
  | .int a => Q (.int (-a)) false e1
  | _ => False
theorem q_neg {a : Expr} {g : GE} (ha : PE X a (tOf Θ g)) : PE X (.UnaryOp .USub a pos) (tOf Θ (gNeg g)) := pe_conv (pe_un un_neg ha) fun σ H Q ⟨e, Qp, E, h, k⟩ => by
  refine ⟨e, _, E, h, fun v d fr H1 e1 r1 h1 => ?_⟩
  have rp := r1.rp
  match d, rp, h1 with
  | .int a, rp, h1 => exact ⟨a, rp.intE, k _ _ _ _ _ (Res.from r1.le (Res.mk r1.er (.int _))) h1⟩
def cmpF (f : Int → Int → Bool) : F2 := fun x y k => match x, y with
  | .int a, .int b => k (.bl (f a b)) false
  | _, _ => False
theorem oq_cmp {op : CmpOp} {f : Int → Int → Bool} (h : OpR X (compareOp op) (rI0 fun i j => .bl (f i j))) : OpQ X Θ (compareOp op) (cmpF f) := by
  refine ⟨_, h, fun σ H e v w x y k Q E rx ry h K => ?_⟩
  match x, y, h with
  | .int a, .int b, h =>
    rw [rx.intE, ry.intE]
    exact ⟨a, b, rfl, rfl, K _ _ _ _ (Res.mk E (.bl _)) h⟩
def ltF : F2 := cmpF fun i j => decide (i < j)
def leF : F2 := cmpF fun i j => decide (i ≤ j)
def gtF : F2 := cmpF fun i j => decide (j < i)
def geF : F2 := cmpF fun i j => decide (j ≤ i)
theorem oq_lt : OpQ X Θ (compareOp .Lt) ltF := oq_cmp op_lt
theorem oq_le : OpQ X Θ (compareOp .LtE) leF := oq_cmp op_le
theorem oq_gt : OpQ X Θ (compareOp .Gt) gtF := oq_cmp op_gt
theorem oq_ge : OpQ X Θ (compareOp .GtE) geF := oq_cmp op_ge
def isNon : D → Option Bool
  | .non => some true
  | .raw _ => none
  | _ => some false
def isF : F2 := fun x y k => match y with
  | .non => ∃ b, isNon x = some b ∧ k (.bl b) false
  | _ => False
def isntF : F2 := fun x y k => match y with
  | .non => ∃ b, isNon x = some b ∧ k (.bl (!b)) false
  | _ => False
theorem isNon_ok {C : Cn} {H : Hp} {v : V} {x : D} {b : Bool} (h : Rp C H v x) (e : isNon x = some b) : decide (v = .non) = b := by
  cases h with
  | non => cases e; rfl
  | raw v => cases e
  | _ => cases e; exact decide_eq_false fun q => nomatch q
theorem oq_is : OpQ X Θ (compareOp .Is) isF := by
  refine ⟨_, op_isN, fun σ H e v w x y k Q E rx ry h K => ?_⟩
  match y, ry, h with
  | .non, ry, ⟨b, hb, h⟩ =>
    cases ry
    refine ⟨rfl, ?_⟩
    rw [isNon_ok rx hb]
    exact K _ _ _ _ (Res.mk E (.bl _)) h
def kP : Key → PyData
  | .inl i => .int i
  | .inr x => .str x
mutual
def toPy : D → PyData
  | .non => .none
  | .bl b => .bool b
  | .int i => .int i
  | .str x => .str x
  | .lst ds => .list (toPyA ds)
  | .tup ds => .tuple (toPyA ds)
  | .dct ks ds => .dict ((ks.map kP).zip (toPyA ds))
  | _ => .none
def toPyA : List D → List PyData
  | [] => []
  | d :: ds => toPy d :: toPyA ds
end
theorem toPyA_map : ∀ ds : List D, toPyA ds = ds.map toPy
  | [] => rfl
  | d :: ds => by show toPy d :: toPyA ds = _; rw [toPyA_map ds]; rfl
mutual
/-- lists, tuples and what is flat, to a depth -/
def nd : Nat → D → Bool
  | _, .non => true
  | _, .bl _ => true
  | _, .int _ => true
  | _, .str _ => true
  | k + 1, .lst ds => ndA k ds
  | k + 1, .tup ds => ndA k ds
  | _, _ => false
def ndA : Nat → List D → Bool
  | _, [] => true
  | k, d :: ds => nd k d && ndA k ds
end
mutual
theorem Rp.dp {C : Cn} {H : Hp} : ∀ {k : Nat} {v : V} {d : D}, Rp C H v d → nd k d = true → Dp C.K H v (toPy d)
  | k, _, _, .non, _ => .non
  | k, _, _, .bl b, _ => .bl b
  | k, _, _, .int b, _ => .int b
  | k, _, _, .str b, _ => .str b
  | k + 1, _, _, .lst h a, e => .lst (SqL.of h) (RpA.dp a e)
  | k + 1, _, _, .tup h a, e => .tup (SqT.of h) (RpA.dp a e)
  | 0, _, _, .lst h a, e => nomatch e
  | 0, _, _, .tup h a, e => nomatch e
  | k, _, _, .dct h q a, e => by unfold nd at e; cases e
  | k, _, _, .dcT h q a, e => by unfold nd at e; cases e
  | k, _, _, .ins h q a, e => by unfold nd at e; cases e
  | k, _, _, .st, e => by unfold nd at e; cases e
  | k, _, _, .raw v, e => by unfold nd at e; cases e
theorem RpA.dp {C : Cn} {H : Hp} : ∀ {k : Nat} {vs : List V} {ds : List D}, RpA C H vs ds → ndA k ds = true → DpAll C.K H vs (toPyA ds)
  | _, _, _, .nil, _ => .nil
  | k, _, _, .cons a b, e => .cons (Rp.dp a (Bool.and_eq_true_iff.mp e).1) (RpA.dp b (Bool.and_eq_true_iff.mp e).2)
end
mutual
theorem nd_can : ∀ {k : Nat} {d : D}, nd k d = true → (toPy d).plain = true ∧ (toPy d).depth ≤ k
  | _, .non, _ => ⟨rfl, Nat.zero_le _⟩
  | _, .bl _, _ => ⟨rfl, Nat.zero_le _⟩
  | _, .int _, _ => ⟨rfl, Nat.zero_le _⟩
  | _, .str _, h => ⟨rfl, Nat.zero_le _⟩
  | k + 1, .lst ds, h => ⟨(ndA_can (k := k) (ds := ds) h).1, Nat.succ_le_succ (ndA_can (k := k) (ds := ds) h).2⟩
  | k + 1, .tup ds, h => ⟨(ndA_can (k := k) (ds := ds) h).1, Nat.succ_le_succ (ndA_can (k := k) (ds := ds) h).2⟩
  | 0, .lst ds, h => nomatch h
  | 0, .tup ds, h => nomatch h
  | _, .dct _ _, h => by unfold nd at h; cases h
  | _, .dcT _ _, h => by unfold nd at h; cases h
  | _, .ins _ _ _, h => by unfold nd at h; cases h
  | _, .st, h => by unfold nd at h; cases h
  | _, .raw _, h => by unfold nd at h; cases h
theorem ndA_can : ∀ {k : Nat} {ds : List D}, ndA k ds = true → PyData.plainAll (toPyA ds) = true ∧ PyData.depthAll (toPyA ds) ≤ k
  | _, [], _ => ⟨rfl, Nat.zero_le _⟩
  | k, d :: ds, h => by
    obtain ⟨h1, h2⟩ := Bool.and_eq_true_iff.mp h
    obtain ⟨a1, a2⟩ := nd_can h1
    obtain ⟨b1, b2⟩ := ndA_can h2
    exact ⟨Bool.and_eq_true_iff.mpr ⟨a1, b1⟩, Nat.max_le.mpr ⟨a2, b2⟩⟩
end
theorem nd_pl {d : D} (h : nd 64 d = true) : Wb.Pl (toPy d) := nd_can h
def eqD (x y : D) : Bool := PyData.eqv (toPy x) (toPy y)
def isDc : D → Bool
  | .dct _ _ => true
  | .dcT _ _ => true
  | _ => false
/-- what == says, where it is known -/
def eqT (x y : D) : Option Bool := if nd 64 x && nd 64 y then some (eqD x y) else if (isDc x && nd 64 y) || (nd 64 x && isDc y) then some false else none
/-- what in says, where it is known: of a list or a tuple -/
def memT (x : D) : D → Option Bool
  | .lst ds => if nd 64 x && ndA 64 ds then some (ds.any fun z => eqD z x) else if isDc x && ndA 64 ds then some false else none
  | .tup ds => if nd 64 x && ndA 64 ds then some (ds.any fun z => eqD z x) else if isDc x && ndA 64 ds then some false else none
  | _ => none
def eqF : F2 := fun x y k => ∃ b, eqT x y = some b ∧ k (.bl b) false
def neF : F2 := fun x y k => nd 64 x = true ∧ nd 64 y = true ∧ k (.bl (!eqD x y)) false
def inF (neg : Bool) : F2 := fun x y k => ∃ b, memT x y = some b ∧ k (.bl (neg != b)) false
theorem dp_go {K : PySem.W.Frag} {H H' : Hp} (l : ∀ a xs, SqL K H' a xs → SqL K H a xs) (t : ∀ a xs, SqT K H' a xs → SqT K H a xs) : (∀ {v : V} {d : PyData}, Dp K H' v d → Dp K H v d) ∧ ∀ {vs : List V} {ds : List PyData}, DpAll K H' vs ds → DpAll K H vs ds := ⟨go l t, goA l t⟩
where
  go {K : PySem.W.Frag} {H H' : Hp} {v : V} {d : PyData} (l : ∀ a xs, SqL K H' a xs → SqL K H a xs) (t : ∀ a xs, SqT K H' a xs → SqT K H a xs) : Dp K H' v d → Dp K H v d
    | .non => .non
    | .bl b => .bl b
    | .int i => .int i
    | .str x => .str x
    | .lst h a => .lst (l _ _ h) (goA l t a)
    | .tup h a => .tup (t _ _ h) (goA l t a)
  goA {K : PySem.W.Frag} {H H' : Hp} {vs : List V} {ds : List PyData} (l : ∀ a xs, SqL K H' a xs → SqL K H a xs) (t : ∀ a xs, SqT K H' a xs → SqT K H a xs) : DpAll K H' vs ds → DpAll K H vs ds
    | .nil => .nil
    | .cons a b => .cons (go l t a) (goA l t b)
theorem dp_cut {K : PySem.W.Frag} {N : Addr → Prop} {H : Hp} {v : V} {d : PyData} (h : Dp K (cut N H) v d) : Dp K H v d := (dp_go (fun a xs h => (cut_same : Same (cut N H) H).seq h) fun a xs h => sameT cut_same h).1 h
theorem dpA_cut {K : PySem.W.Frag} {N : Addr → Prop} {H : Hp} {vs : List V} {ds : List PyData} (h : DpAll K (cut N H) vs ds) : DpAll K H vs ds := (dp_go (fun a xs h => (cut_same : Same (cut N H) H).seq h) fun a xs h => sameT cut_same h).2 h
theorem dc_at {C : Cn} {N : Addr → Prop} {H : Hp} {v : V} {d : D} (r : Rp C (cut N H) v d) (h : isDc d = true) : ∃ a, v = .ref a ∧ Wb.DcAt H a := by
  cases r with
  | dct h1 h2 h3 => exact ⟨_, rfl, .inl ⟨_, (cut_rd h1).2⟩⟩
  | dcT h1 h2 h3 => exact ⟨_, rfl, .inr ⟨_, (cut_rd h1).2⟩⟩
  | _ => exact nomatch h
theorem oq_eq (hu : X.A.units + 65 < cLine) (hK : Θ.C.K = X.K := by rfl) : OpQ X Θ (compareOp .Eq) eqF := by
  refine ⟨_, Wb.op_eqT hu, fun σ H e v w x y k Q E rx ry ⟨b, hb, h⟩ K => ?_⟩
  unfold eqT at hb
  by_cases c : (nd 64 x && nd 64 y) = true
  · rw [if_pos c] at hb
    cases hb
    obtain ⟨sx, sy⟩ := Bool.and_eq_true_iff.mp c
    exact .inl ⟨_, _, dp_cut (hK ▸ rx.dp sx), dp_cut (hK ▸ ry.dp sy), nd_pl sx, nd_pl sy, K _ _ _ _ (Res.mk E (.bl _)) h⟩
  · rw [if_neg c] at hb
    by_cases c2 : ((isDc x && nd 64 y) || (nd 64 x && isDc y)) = true
    · rw [if_pos c2] at hb
      cases hb
      rcases Bool.or_eq_true_iff.mp c2 with c2 | c2
      · obtain ⟨sx, sy⟩ := Bool.and_eq_true_iff.mp c2
        obtain ⟨a, rfl, ha⟩ := dc_at rx sx
        exact .inr (.inl ⟨a, _, rfl, ha, dp_cut (hK ▸ ry.dp sy), nd_pl sy, K _ _ _ _ (Res.mk E (.bl _)) h⟩)
      · obtain ⟨sx, sy⟩ := Bool.and_eq_true_iff.mp c2
        obtain ⟨a, rfl, ha⟩ := dc_at ry sy
        exact .inr (.inr ⟨_, a, dp_cut (hK ▸ rx.dp sx), nd_pl sx, rfl, ha, K _ _ _ _ (Res.mk E (.bl _)) h⟩)
    · rw [if_neg c2] at hb; cases hb
theorem oq_ne (hu : X.A.units + 65 < cLine) (hK : Θ.C.K = X.K := by rfl) : OpQ X Θ (compareOp .NotEq) neF := by
  refine ⟨_, Wb.op_neT hu, fun σ H e v w x y k Q E rx ry ⟨sx, sy, h⟩ K => ?_⟩
  exact ⟨_, _, dp_cut (hK ▸ rx.dp sx), dp_cut (hK ▸ ry.dp sy), nd_pl sx, nd_pl sy, K _ _ _ _ (Res.mk E (.bl _)) h⟩
theorem any_py (x : D) : ∀ ds : List D, ((toPyA ds).any fun z => PyData.eqv z (toPy x)) = ds.any fun z => eqD z x
  | [] => rfl
  | d :: ds => by
    show (PyData.eqv (toPy d) (toPy x) || (toPyA ds).any _) = (eqD d x || ds.any _)
    rw [any_py x ds]; rfl
end
end L2.Q
set_option Elab.async false
set_option linter.all false
set_option maxRecDepth 100000
set_option maxHeartbeats 4000000
namespace L2.Q
open PySem PySem.Spec PyProof.Rows L2 L2.Wb
section
variable {κ : Type} [DecidableEq κ]
def getK : List κ → List D → κ → Option D
  | k :: ks, d :: ds, x => if k = x then some d else getK ks ds x
  | _, _, _ => none
def setK : List κ → List D → κ → D → List D
  | k :: ks, d :: ds, x, y => (if k = x then y else d) :: setK ks ds x y
  | _, ds, _, _ => ds
def putD (ks : List κ) (ds : List D) (x : κ) (y : D) : List κ × List D := if x ∈ ks then (ks, setK ks ds x y) else (ks ++ [x], ds ++ [y])
theorem val_rp {C : Cn} {H : Hp} {x : κ} : ∀ {kvs : List (κ × V)} {ks : List κ} {ds : List D}, kvs.map (·.1) = ks → RpA C H (kvs.map (·.2)) ds →
    (∀ d, getK ks ds x = some d → ∃ v, valV kvs x = some v ∧ Rp C H v d) ∧ (getK ks ds x = none → valV kvs x = none)
  | [], ks, ds, e, r => by
    subst e
    cases r
    exact ⟨fun d h => (nomatch (show (none : Option D) = some d from h)), fun _ => rfl⟩
  | p :: kvs, ks, ds, e, r => by
    subst e
    cases r with
    | cons r1 r2 =>
      rename_i d ds
      obtain ⟨h1, h2⟩ := val_rp (x := x) rfl r2
      by_cases c : p.1 = x
      · have e1 : getK (p.1 :: kvs.map (·.1)) (d :: ds) x = some d := if_pos c
        refine ⟨fun d' h => ?_, fun h => ?_⟩
        · rw [List.map_cons, e1] at h; cases h
          exact ⟨_, valV_pos c, r1⟩
        · rw [List.map_cons, e1] at h; cases h
      · have e1 : getK (p.1 :: kvs.map (·.1)) (d :: ds) x = getK (kvs.map (·.1)) ds x := if_neg c
        refine ⟨fun d' h => ?_, fun h => ?_⟩
        · rw [List.map_cons, e1] at h
          rw [valV_neg c]
          exact h1 d' h
        · rw [List.map_cons, e1] at h
          rw [valV_neg c]
          exact h2 h
theorem any_mem {x : κ} (kvs : List (κ × V)) : (kvs.any fun kv => decide (kv.1 = x)) = true ↔ x ∈ kvs.map (·.1) := by
  rw [List.any_eq_true, List.mem_map]
  constructor
  · rintro ⟨p, h1, h2⟩; exact ⟨p, h1, of_decide_eq_true h2⟩
  · rintro ⟨p, h1, h2⟩; exact ⟨p, h1, decide_eq_true h2⟩
theorem set_rp {C : Cn} {H : Hp} {x : κ} {v : V} {y : D} (r : Rp C H v y) : ∀ {kvs : List (κ × V)} {ds : List D}, RpA C H (kvs.map (·.2)) ds →
    (kvs.map fun kv => if kv.1 = x then (kv.1, v) else kv).map (·.1) = kvs.map (·.1) ∧ RpA C H ((kvs.map fun kv => if kv.1 = x then (kv.1, v) else kv).map (·.2)) (setK (kvs.map (·.1)) ds x y)
  | [], ds, h => by cases h; exact ⟨rfl, .nil⟩
  | p :: kvs, ds, h => by
    cases h with
    | cons h1 h2 =>
      rename_i d ds
      obtain ⟨a, b⟩ := set_rp (x := x) r h2
      by_cases c : p.1 = x
      · refine ⟨by rw [List.map_cons, List.map_cons, if_pos c, a]; rfl, ?_⟩
        show RpA C H (List.map (·.2) ((if p.1 = x then (p.1, v) else p) :: _)) ((if p.1 = x then y else d) :: setK _ ds x y)
        rw [if_pos c, if_pos c]
        exact .cons r b
      · refine ⟨by rw [List.map_cons, List.map_cons, if_neg c, a]; rfl, ?_⟩
        show RpA C H (List.map (·.2) ((if p.1 = x then (p.1, v) else p) :: _)) ((if p.1 = x then y else d) :: setK _ ds x y)
        rw [if_neg c, if_neg c]
        exact .cons h1 b
theorem put_rp {C : Cn} {H : Hp} {x : κ} {v : V} {y : D} {kvs : List (κ × V)} {ks : List κ} {ds : List D} (r : Rp C H v y) (e : kvs.map (·.1) = ks) (h : RpA C H (kvs.map (·.2)) ds) :
    (putK kvs x v).map (·.1) = (putD ks ds x y).1 ∧ RpA C H ((putK kvs x v).map (·.2)) (putD ks ds x y).2 := by
  subst e
  unfold putK putD
  by_cases c : x ∈ kvs.map (·.1)
  · rw [if_pos ((any_mem kvs).mpr c), if_pos c]
    exact set_rp r h
  · rw [if_neg fun z => c ((any_mem kvs).mp z), if_neg c]
    exact ⟨by rw [List.map_append]; rfl, by rw [List.map_append]; exact h.snoc r⟩
end
def keyOf : D → Option Key
  | .int i => some (.inl i)
  | .str x => some (.inr x)
  | _ => none
def keysOf : List D → Option (List Key)
  | [] => some []
  | d :: ds => match keyOf d, keysOf ds with
    | some k, some ks => some (k :: ks)
    | _, _ => none
theorem key_rp {C : Cn} {H : Hp} {v : V} {d : D} {k : Key} (h : Rp C H v d) (e : keyOf d = some k) : v = kV k := by
  cases h with
  | int i => cases e; rfl
  | str x => cases e; rfl
  | _ => cases e
theorem keys_rp {C : Cn} {H : Hp} : ∀ {vs : List V} {ds : List D} {ks : List Key}, RpA C H vs ds → keysOf ds = some ks → vs = ks.map kV
  | _, _, _, .nil, e => by cases e; rfl
  | _, _, ks, .cons (d := d) (ds := ds) a b, e => by
    have e' : (match keyOf d, keysOf ds with
      | some k, some ks => some (k :: ks)
      | _, _ => none) = some ks := e
    cases e1 : keyOf d with
    | none => rw [e1] at e'; cases e'
    | some k =>
      cases e2 : keysOf ds with
      | none => rw [e1, e2] at e'; cases e'
      | some ks' =>
        rw [e1, e2] at e'
        cases e'
        rw [key_rp a e1, keys_rp b e2]
        rfl
/-- d[y] -/
def getD (x y : D) : Option (Option D) := match x, y with
  | .dct ks ds, .int i => some (getK ks ds (.inl i))
  | .dct ks ds, .str z => some (getK ks ds (.inr z))
  | .dcT ks ds, .tup es => (keysOf es).map (getK ks ds)
  | _, _ => none
/-- what is read of: it stands in H, its items in Hc -/
inductive Con (C : Cn) (Hc H : Hp) : V → D → Prop
  | lst {a : Addr} {xs : List V} {ds : List D} : H a = some (.lst xs) → RpA C Hc xs ds → Con C Hc H (.ref a) (.lst ds)
  | tup {a : Addr} {xs : List V} {ds : List D} : Hc a = some (.tup xs) → H a = some (.tup xs) → RpA C Hc xs ds → Con C Hc H (.ref a) (.tup ds)
  | dct {a : Addr} {kvs : List (Key × V)} {ks : List Key} {ds : List D} : L2.Rd H a (.dK kvs) → kvs.map (·.1) = ks → RpA C Hc (kvs.map (·.2)) ds → Con C Hc H (.ref a) (.dct ks ds)
  | dcT {a : Addr} {kvs : List (List Key × V)} {ks : List (List Key)} {ds : List D} : L2.Rd H a (.dT kvs) → kvs.map (·.1) = ks → RpA C Hc (kvs.map (·.2)) ds → Con C Hc H (.ref a) (.dcT ks ds)
  | str (x : Str) : Con C Hc H (.str x) (.str x)
  | oth {v : V} {d : D} : (match d with
    | .lst _ => False
    | .tup _ => False
    | .dct _ _ => False
    | .dcT _ _ => False
    | .str _ => False
    | _ => True) → Con C Hc H v d
theorem Con.of {C : Cn} {N : Addr → Prop} {H : Hp} {v : V} {d : D} (h : Rp C (cut N H) v d) : Con C (cut N H) H v d := by
  cases h with
  | lst h1 h2 => exact .lst (cut_in h1).2 h2
  | tup h1 h2 => exact .tup h1 (cut_in h1).2 h2
  | dct h1 h2 h3 => exact .dct (cut_rd h1).2 h2 h3
  | dcT h1 h2 h3 => exact .dcT (cut_rd h1).2 h2 h3
  | str x => exact .str x
  | _ => exact .oth trivial
theorem Con.own {C : Cn} {Hc H : Hp} {a : Addr} {d : D} (h : OwnAt C Hc H a d) : Con C Hc H (.ref a) d := by
  cases h with
  | lst h1 h2 => exact .lst h1 h2
  | dct h1 h2 h3 => exact .dct (.inl h1) h2 h3
  | dcT h1 h2 h3 => exact .dcT (.inl h1) h2 h3
inductive RpO (C : Cn) (H : Hp) : Option V → Option D → Prop
  | none : RpO C H none none
  | some {v : V} {d : D} : Rp C H v d → RpO C H (some v) (some d)
theorem valO {κ : Type} [DecidableEq κ] {C : Cn} {H : Hp} {x : κ} {kvs : List (κ × V)} {ks : List κ} {ds : List D} (e : kvs.map (·.1) = ks) (r : RpA C H (kvs.map (·.2)) ds) : RpO C H (valV kvs x) (getK ks ds x) := by
  obtain ⟨a1, a2⟩ := val_rp (x := x) e r
  cases q : getK ks ds x with
  | none => rw [a2 q]; exact .none
  | some d =>
    obtain ⟨v, e1, e2⟩ := a1 d q
    rw [e1]; exact .some e2
/-- what a dict holds at a key -/
theorem dget_rp {C : Cn} {N : Addr → Prop} {H : Hp} {v w : V} {x y : D} {o : Option D} (hx : Con C (cut N H) H v x) (hy : Rp C (cut N H) w y) (e : getD x y = some o) : ∃ a r, v = .ref a ∧ DGet H a w r ∧ RpO C (cut N H) r o := by
  match x, y, e with
  | .dct ks ds, .int i, e =>
    cases hx with
    | dct h1 h2 h3 =>
      cases hy
      cases e
      exact ⟨_, _, rfl, .inl ⟨_, .inl i, h1, rfl, rfl⟩, valO h2 h3⟩
    | oth h => exact h.elim
  | .dct ks ds, .str z, e =>
    cases hx with
    | dct h1 h2 h3 =>
      cases hy
      cases e
      exact ⟨_, _, rfl, .inl ⟨_, .inr z, h1, rfl, rfl⟩, valO h2 h3⟩
    | oth h => exact h.elim
  | .dcT ks ds, .tup es, e =>
    cases hx with
    | dcT h1 h2 h3 =>
      cases hy with
      | tup g1 g2 =>
        have e' : (keysOf es).map (getK ks ds) = some o := e
        cases q : keysOf es with
        | none => rw [q] at e'; cases e'
        | some k =>
          rw [q] at e'
          cases e'
          exact ⟨_, _, rfl, .inr ⟨_, k, _, h1, rfl, by rw [← keys_rp g2 q]; exact (cut_in g1).2, rfl⟩, valO h2 h3⟩
    | oth h => exact h.elim
section
variable {Θ : Th} {X : Cx} {pos : Pos}
def ixF : F2 := fun x y k => match x, y with
  | .lst ds, .int i => ∃ d, atI ds i = some d ∧ k d false
  | .tup ds, .int i => ∃ d, atI ds i = some d ∧ k d false
  | .str z, .int i => z.length ≤ 1000000 ∧ ∃ c, atI z.cps.toList i = some c ∧ k (.str ⟨#[c]⟩) false
  | _, _ => False
def dixF : F2 := fun x y k => ∃ d, getD x y = some (some d) ∧ k d false
theorem at_rp {C : Cn} {H : Hp} {xs : List V} {ds : List D} {i : Int} {d : D} (h : RpA C H xs ds) (e : atI ds i = some d) : ∃ v, atI xs i = some v ∧ Rp C H v d := by
  unfold atI at e ⊢
  rw [h.len]
  cases q : ixN ds.length i with
  | none => rw [q] at e; cases e
  | some j =>
    rw [q] at e
    exact h.get (show ds[j]? = some d from e)
/-- d[k] by values -/
def rDix : R2 := fun x y H Q => ∃ a v, x = .ref a ∧ DGet H a y (some v) ∧ Q v H
theorem ix_dict (hu : X.A.units + 1 < cLine) : IxR X rDix := by
  intro value slice pins s σ H x y v u Q I rx ry ⟨a, w, ex, g, q⟩ hs
  subst ex
  obtain rfl : v = Value.ref a := rx
  exact PyProof.Rows.tail_any (ops := [.ref a, u]) (dict_typeIs I g) PySem.F.slot_dict_getitem.lookup (d_getItem hu I g ry fun w' s' I' rw' => ⟨w, H, I', rw', q⟩) hs
/-- any subscript -/
def ixAF : F2 := fun x y k => match x with
  | .dct _ _ => dixF x y k
  | .dcT _ _ => dixF x y k
  | _ => ixF x y k
def rIxA (K : PySem.W.Frag) : R2 := fun x y H Q => rIx K x y H Q ∨ rDix x y H Q
theorem ix_any (hu : X.A.units + 1 < cLine) : IxR X (rIxA X.K) := IxR.or ix_seq (ix_dict hu)
theorem ixA_ok {K : PySem.W.Frag} {σ : L2.St} {H : Hp} {e : Env} {v w : V} {x y : D} {k : D → Bool → Prop} {Q : VK} (E : ERep Θ σ H e) (rx : Con Θ.C (cut (Mm Θ XO σ e.sl) H) H v x) (ry : Rp Θ.C (cut (Mm Θ XO σ e.sl) H) w y) (h : ixAF x y k)
    (K' : ∀ u z fr, Res Θ σ H e u z fr H e → k z fr → Q u H) : rIxA K v w H Q := by
  have dict : dixF x y k → rIxA K v w H Q := fun ⟨d, hd, h⟩ => by
    obtain ⟨a, r, rfl, g, ro⟩ := dget_rp rx ry hd
    cases ro with
    | some rp => exact .inr ⟨a, _, rfl, g, K' _ _ _ (Res.mk E rp) h⟩
  match x, h with
  | .dct _ _, h => exact dict h
  | .dcT _ _, h => exact dict h
  | .lst ds, h =>
    match y, h with
    | .int i, ⟨d, hd, h⟩ =>
      cases rx with
      | lst h1 r1 =>
        obtain ⟨u, hu, ru⟩ := at_rp r1 hd
        rw [ry.intE]
        exact .inl (.inl ⟨_, _, i, u, rfl, rfl, SqL.of h1, hu, K' _ _ _ (Res.mk E ru) h⟩)
      | oth h => exact h.elim
  | .tup ds, h =>
    match y, h with
    | .int i, ⟨d, hd, h⟩ =>
      cases rx with
      | tup _ h1 r1 =>
        obtain ⟨u, hu, ru⟩ := at_rp r1 hd
        rw [ry.intE]
        exact .inl (.inr (.inl ⟨_, _, i, u, rfl, rfl, SqT.of h1, hu, K' _ _ _ (Res.mk E ru) h⟩))
      | oth h => exact h.elim
  | .str z, h =>
    match y, h with
    | .int i, ⟨hz, c, hc, h⟩ =>
      cases rx with
      | str =>
        rw [ry.intE]
        exact .inl (.inr (.inr ⟨z, i, c, rfl, rfl, mil hz, hc, K' _ _ _ (Res.mk E (.str _)) h⟩))
      | oth h => exact h.elim
theorem q_ix {a b : Expr} {ga gb : GE} (hu : X.A.units + 1 < cLine) (ha : PE X a (tOf Θ ga)) (hb : PE X b (tOf Θ gb)) (hs : PlainIx b := by exact fun _ _ => rfl) : PE X (.Subscript a b pos) (tOf Θ (g2 ixAF ga gb)) :=
  pe_conv (pe_ix (ix_any hu) ha hb hs) fun σ H Q ⟨e, Qp, E, h, k⟩ => ⟨e, _, E, h, fun v x fr H1 e1 r1 h1 => ⟨e1, _, r1.er, h1, fun w y fr2 H2 e2 r2 h2 => ixA_ok r2.er (Con.of (r1.rp.le r2.le)) r2.rp h2 fun u z fr R hz => k _ _ _ _ _ ((R.from r2.le).from r1.le) hz⟩⟩
/-- a local, as it is -/
theorem slot_con {σ : L2.St} {H : Hp} {e : Env} {i : Nat} {d : D} {b : Bool} (E : ERep Θ σ H e) (h : getS e.sl i = some (d, b)) : ∃ v, σ[i]? = some (some v) ∧ Con Θ.C (cut (Mm Θ XO σ e.sl) H) H v d := by
  cases b with
  | false =>
    obtain ⟨v, h1, h2⟩ := E.sh i d h
    exact ⟨v, h1, Con.of h2⟩
  | true =>
    obtain ⟨a, h1, _, _, h2⟩ := E.ow i d h
    exact ⟨_, h1, Con.own h2⟩
def gIxV (i : Nat) (gb : GE) : GE := fun e Q => (getS e.sl i).isSome = true ∧ gb e fun y _ e1 => match getS e1.sl i with
  | some (d, _) => ixAF d y fun z fr => Q z fr e1
  | none => False
theorem slot_some {σ : L2.St} {H : Hp} {e : Env} {i : Nat} (E : ERep Θ σ H e) (h : (getS e.sl i).isSome = true) : ∃ v, σ[i]? = some (some v) := by
  obtain ⟨⟨d, b⟩, q⟩ := Option.isSome_iff_exists.mp h
  obtain ⟨v, h1, _⟩ := slot_con E q
  exact ⟨v, h1⟩
theorem q_ixV (i : Nat) {x : Str} {b : Expr} {gb : GE} {p : Pos} (hu : X.A.units + 1 < cLine) (hb : PE X b (tOf Θ gb)) (hN : X.N[i]? = some x := by rfl) (hv : Vis X.env.scope x := by first | exact Or.inl rfl | exact Or.inr (Or.inl rfl) | exact Or.inr (Or.inr rfl))
    (hd : (x == ("__debug__" : Str)) = false := by decide) (hcd : (x == ("__classdict__" : Str)) = false := by decide) (hs : PlainIx b := by exact fun _ _ => rfl) : PE X (.Subscript (.Name x p) b pos) (tOf Θ (gIxV i gb)) :=
  pe_conv (pe_ix (ix_any hu) (pe_var hN hv hd hcd) hb hs) fun σ H Q ⟨e, Qp, E, ⟨h0, h⟩, k⟩ => by
    obtain ⟨v, hv⟩ := slot_some E h0
    refine ⟨v, hv, e, _, E, h, fun w y fr2 H2 e2 r2 h2 => ?_⟩
    cases q : getS e2.sl i with
    | none => rw [q] at h2; exact h2.elim
    | some s =>
      obtain ⟨d, b⟩ := s
      rw [q] at h2
      obtain ⟨v', h1, c⟩ := slot_con r2.er q
      rw [hv] at h1
      cases h1
      exact ixA_ok r2.er c r2.rp h2 fun u z fr R hz => k _ _ _ _ _ (R.from r2.le) hz
def cutD (ds : List D) (lo hi : Option Int) : List D := (ds.drop (HT.sIx ds.length 0 lo)).take (HT.sIx ds.length ds.length hi - HT.sIx ds.length 0 lo)
theorem cut_rp {C : Cn} {H : Hp} {xs : List V} {ds : List D} (h : RpA C H xs ds) (lo hi : Option Int) : RpA C H (cutV xs lo hi) (cutD ds lo hi) := by
  unfold cutV cutD
  rw [h.len]
  exact (h.drop _).take _
abbrev GO : Type := Env → (Option Int → Env → Prop) → Prop
def tOfO (Θ : Th) (g : GO) : TO := fun σ H Q => ∃ e Qp, ERep Θ σ H e ∧ g e Qp ∧ ∀ o H' e', Le (cut (Mm Θ XO σ e.sl) H) (cut (Mm Θ XO σ e'.sl) H') → ERep Θ σ H' e' → Qp o e' → Q o H'
theorem po_conv {o : Option Expr} {t t' : TO} (h : PO X o t) (i : ∀ σ H Q, t' σ H Q → t σ H Q) : PO X o t' := ⟨fun pins s σ H Q I q => h.run pins s σ H Q I (i σ H Q q)⟩
def gO0 : GO := fun e Q => Q none e
def gO1 (g : GE) : GO := fun e Q => g e fun d _ e1 => match d with
  | .int i => Q (some i) e1
  | _ => False
theorem qo_none : PO X none (tOfO Θ gO0) := po_conv po_none fun σ H Q ⟨e, Qp, E, h, k⟩ => k _ _ _ (Le.refl _) E h
theorem qo_some {a : Expr} {g : GE} (h : PE X a (tOf Θ g)) : PO X (some a) (tOfO Θ (gO1 g)) := po_conv (po_some h) fun σ H Q ⟨e, Qp, E, h, k⟩ => by
  refine ⟨e, _, E, h, fun v d fr H1 e1 r1 h1 => ?_⟩
  have rp := r1.rp
  match d, rp, h1 with
  | .int i, rp, h1 => exact ⟨i, rp.intE, k _ _ _ r1.le r1.er h1⟩
def slF (d : D) (lo hi : Option Int) (k : D → Bool → Prop) : Prop := match d with
  | .lst ds => k (.lst (cutD ds lo hi)) true
  | .tup ds => k (.tup (cutD ds lo hi)) false
  | _ => False
def gSl (g : GE) (gl gu : GO) : GE := fun e Q => g e fun d _ e1 => gl e1 fun lo e2 => gu e2 fun hi e3 => slF d lo hi fun z fr => Q z fr e3
theorem cutD_all {ds : List D} {lo hi : Option Int} (h : HT.sIx ds.length 0 lo = 0 ∧ HT.sIx ds.length ds.length hi = ds.length) : cutD ds lo hi = ds := by
  unfold cutD
  rw [h.1, h.2]
  simp
def rSlQ (K : PySem.W.Frag) : V → Option Int → Option Int → Hp → VK → Prop := fun x lo hi H Q => rSlL K x lo hi H Q ∨ rSlA K x lo hi H Q
theorem sl_any : SlR X (rSlQ X.K) := by
  intro pins s σ H x v vl vu lo hi sl Q I rx hs pl pu h
  rcases h with h | h
  · exact sl_list pins s σ H x v vl vu lo hi sl Q I rx hs pl pu h
  · exact sl_tupA pins s σ H x v vl vu lo hi sl Q I rx hs pl pu h
theorem sl_okL {K : PySem.W.Frag} {σ : L2.St} {H : Hp} {e : Env} {a : Addr} {xs : List V} {ds : List D} {lo hi : Option Int} {Q : VK} (E : ERep Θ σ H e) (h1 : H a = some (.lst xs)) (r1 : RpA Θ.C (cut (Mm Θ XO σ e.sl) H) xs ds)
    (K' : ∀ u H', Res Θ σ H e u (.lst (cutD ds lo hi)) true H' e → Q u H') : rSlL K (.ref a) lo hi H Q := by
  refine ⟨a, xs, rfl, SqL.of h1, fun p hp => K' (.ref p) (upd H p (.lst (cutV xs lo hi))) ?_⟩
  exact Res.newL E hp (cut_rp r1 lo hi)
theorem sl_okT {K : PySem.W.Frag} {σ : L2.St} {H : Hp} {e : Env} {a : Addr} {xs : List V} {ds : List D} {lo hi : Option Int} {Q : VK} (E : ERep Θ σ H e) (h0 : cut (Mm Θ XO σ e.sl) H a = some (.tup xs)) (h1 : H a = some (.tup xs)) (r1 : RpA Θ.C (cut (Mm Θ XO σ e.sl) H) xs ds)
    (K' : ∀ u H', Res Θ σ H e u (.tup (cutD ds lo hi)) false H' e → Q u H') : rSlA K (.ref a) lo hi H Q := by
  refine ⟨a, xs, rfl, SqT.of h1, fun z => ?_, fun _ p hp => K' (.ref p) (upd H p (.tup (cutV xs lo hi))) (Res.newT E hp (cut_rp r1 lo hi))⟩
  refine K' (.ref a) H ?_
  rw [r1.len] at z
  have c : cutD ds lo hi = ds := cutD_all z
  rw [c]
  exact Res.mk E (.tup h0 r1)
theorem sl_ok {K : PySem.W.Frag} {σ : L2.St} {H : Hp} {e : Env} {v : V} {d : D} {lo hi : Option Int} {k : D → Bool → Prop} {Q : VK} (E : ERep Θ σ H e) (rx : Con Θ.C (cut (Mm Θ XO σ e.sl) H) H v d) (h : slF d lo hi k)
    (K' : ∀ u z fr H', Res Θ σ H e u z fr H' e → k z fr → Q u H') : rSlQ K v lo hi H Q := by
  cases rx with
  | lst h1 r1 => exact .inl (sl_okL E h1 r1 fun u H' r => K' u _ true H' r h)
  | tup h0 h1 r1 => exact .inr (sl_okT E h0 h1 r1 fun u H' r => K' u _ false H' r h)
  | oth g =>
    cases d with
    | lst _ => exact g.elim
    | tup _ => exact g.elim
    | _ => exact h.elim
  | _ => exact h.elim
theorem q_sl {a : Expr} {lo hi : Option Expr} {g : GE} {gl gu : GO} {p2} (ha : PE X a (tOf Θ g)) (hl : PO X lo (tOfO Θ gl)) (hh : PO X hi (tOfO Θ gu)) : PE X (.Subscript a (.Slice lo hi none p2) pos) (tOf Θ (gSl g gl gu)) :=
  pe_conv (pe_slice sl_any ha hl hh) fun σ H Q ⟨e, Qp, E, h, k⟩ => ⟨e, _, E, h, fun v d fr H1 e1 r1 h1 => ⟨e1, _, r1.er, h1, fun o H2 e2 l2 E2 h2 => ⟨e2, _, E2, h2, fun o2 H3 e3 l3 E3 h3 =>
    sl_ok E3 (Con.of ((r1.rp.le l2).le l3)) h3 fun u z fr H' r hz => k _ _ _ _ _ (r.from ((r1.le.trans l2).trans l3)) hz⟩⟩⟩
end
end L2.Q
set_option Elab.async false
set_option linter.all false
set_option maxRecDepth 100000
set_option maxHeartbeats 4000000
namespace L2.Q
open PySem PySem.Spec PyProof.Rows L2 L2.Wb
structure QE where
  nx : Env → Prop
  rt : D → Bool → Nat → Prop
  bk : Env → Prop := fun _ => False
  ct : Env → Prop := fun _ => False
abbrev GS : Type := QE → Env → Prop
/-- what is handed back -/
structure Ret (Θ : Th) (v : V) (d : D) (fr : Bool) (H' : Hp) (n' : Nat) : Prop where
  ls : LSo Θ.C Θ.m n' H'
  kept : ∀ b o, ¬ N3o Θ.C Θ.m b → Θ.H0 b = some o → H' b = some o ∨ (Θ.L b ∧ ∃ ob, H' b = some (.frz ob o))
  val : match fr with
    | false => Rp Θ.C (cut Θ.N H') v d
    | true => ∃ a, v = .ref a ∧ Θ.H0 a = none ∧ OwnAt Θ.C (cut (fun b => Θ.N b ∨ b = a) H') H' a d
theorem Res.ret {Θ : Th} {σ : L2.St} {H : Hp} {e : Env} {v : V} {d : D} {fr : Bool} {H' : Hp} {e' : Env} (h : Res Θ σ H e v d fr H' e') : Ret Θ v d fr H' e'.n := by
  refine ⟨h.er.ls, h.er.kept, ?_⟩
  cases fr with
  | false => exact h.2.2.le (le_mono fun b z => .inl z)
  | true =>
    obtain ⟨a, h1, h0, le, E, ow⟩ := h
    exact ⟨a, h1, h0.1, ow.mono (le_mono fun b z => z.elim .inl fun z => .inr (.inr (.inl z))) fun o q => q⟩
/-- what follows is met -/
structure Met (Θ : Th) (σ : L2.St) (H : Hp) (e : Env) (De : QE) (Dn : Ends) : Prop where
  nx : ∀ σ' H' e', Le (cut (Mm Θ XO σ e.sl) H) (cut (Mm Θ XO σ' e'.sl) H') → ERep Θ σ' H' e' → De.nx e' → Dn.nx σ' H'
  bk : ∀ σ' H' e', Le (cut (Mm Θ XO σ e.sl) H) (cut (Mm Θ XO σ' e'.sl) H') → ERep Θ σ' H' e' → De.bk e' → Dn.bk σ' H'
  ct : ∀ σ' H' e', Le (cut (Mm Θ XO σ e.sl) H) (cut (Mm Θ XO σ' e'.sl) H') → ERep Θ σ' H' e' → De.ct e' → Dn.ct σ' H'
  rt : ∀ v d fr H' n', Ret Θ v d fr H' n' → De.rt d fr n' → Dn.rt v H'
theorem Met.from {Θ : Th} {σ σ1 : L2.St} {H H1 : Hp} {e e1 : Env} {De : QE} {Dn : Ends} (m : Met Θ σ H e De Dn) (l : Le (cut (Mm Θ XO σ e.sl) H) (cut (Mm Θ XO σ1 e1.sl) H1)) : Met Θ σ1 H1 e1 De Dn :=
  ⟨fun σ' H' e' l' => m.nx σ' H' e' (l.trans l'), fun σ' H' e' l' => m.bk σ' H' e' (l.trans l'), fun σ' H' e' l' => m.ct σ' H' e' (l.trans l'), m.rt⟩
def tOfS (Θ : Th) (g : GS) : TS := fun Dn σ H => ∃ e De, ERep Θ σ H e ∧ g De e ∧ Met Θ σ H e De Dn
section
variable {Θ : Th} {X : Cx} {pos : Pos}
def gNext : GS := fun De e => De.nx e
def gSeq (g h : GS) : GS := fun De e => g { De with nx := h De } e
theorem qs_nil : PSs X [] (tOfS Θ gNext) := pss_conv pss_nil fun Dn σ H ⟨e, De, E, h, m⟩ => m.nx σ H e (Le.refl _) E h
theorem qs_cons {st : Stmt} {rest : List Stmt} {g h : GS} (h1 : PS X st (tOfS Θ g)) (h2 : PSs X rest (tOfS Θ h)) : PSs X (st :: rest) (tOfS Θ (gSeq g h)) :=
  pss_conv (pss_cons h1 h2) fun Dn σ H ⟨e, De, E, hh, m⟩ => ⟨e, { De with nx := h De }, E, hh, ⟨fun σ' H' e' l E' q => ⟨e', De, E', q, m.from l⟩, m.bk, m.ct, m.rt⟩⟩
theorem qs_one {st : Stmt} {g : GS} (h1 : PS X st (tOfS Θ g)) : PSs X [st] (tOfS Θ g) := pss_one h1
def gBreak : GS := fun De e => De.bk e
def gCont : GS := fun De e => De.ct e
def gDrop (g : GE) : GS := fun De e => g e fun _ _ e1 => De.nx e1
theorem q_drop {a : Expr} {g : GE} (h : PE X a (tOf Θ g)) (hs : swapsWith a none pos.line X.env = pure false := by rfl) : PS X (.Expr a pos) (tOfS Θ (gDrop g)) :=
  ps_conv (ps_expr h hs) fun Dn σ H ⟨e, De, E, h, m⟩ => ⟨e, _, E, h, fun v d fr H1 e1 r h1 => m.nx σ H1 e1 r.le r.er h1⟩
def gRet (g : GE) : GS := fun De e => g e fun d fr e1 => De.rt d fr e1.n
theorem q_ret {a : Expr} {g : GE} (h : PE X a (tOf Θ g)) : PS X (.Return (some a) pos) (tOfS Θ (gRet g)) :=
  ps_conv (ps_ret h) fun Dn σ H ⟨e, De, E, h, m⟩ => ⟨e, _, E, h, fun v d fr H1 e1 r h1 => m.rt v d fr H1 e1.n r.ret h1⟩
def gRetN : GS := fun De e => De.rt .non false e.n
/-- a local of one's own is handed back -/
def gRetV (i : Nat) : GS := fun De e => match getS e.sl i with
  | some (d, b) => De.rt d b e.n
  | none => False
theorem q_retV (i : Nat) {x : Str} {p : Pos} (hN : X.N[i]? = some x := by rfl) (hv : Vis X.env.scope x := by first | exact Or.inl rfl | exact Or.inr (Or.inl rfl) | exact Or.inr (Or.inr rfl)) (hd : (x == ("__debug__" : Str)) = false := by decide)
    (hcd : (x == ("__classdict__" : Str)) = false := by decide) : PS X (.Return (some (.Name x p)) pos) (tOfS Θ (gRetV i)) := ps_conv (ps_ret (pe_var hN hv hd hcd)) fun Dn σ H ⟨e, De, E, h, m⟩ => by
  unfold gRetV at h
  cases q : getS e.sl i with
  | none => rw [q] at h; exact h.elim
  | some s =>
    obtain ⟨d, b⟩ := s
    rw [q] at h
    cases b with
    | false =>
      obtain ⟨v, h1, h2⟩ := E.sh i d q
      exact ⟨v, h1, m.rt v d false H e.n ⟨E.ls, E.kept, h2.le (le_mono fun b z => .inl z)⟩ h⟩
    | true =>
      obtain ⟨a, h1, h2, h3, h4⟩ := E.ow i d q
      refine ⟨.ref a, h1, m.rt (.ref a) d true H e.n ⟨E.ls, E.kept, a, rfl, h2, h4.mono (le_mono fun b z => z.elim .inl fun z => ?_) fun o q => q⟩ h⟩
      rw [z]
      exact .inr (.inl ⟨i, d, q, h1⟩)
def gIfS (t : GT) (g h : GS) : GS := fun De e => t e fun b e1 => (b = true → g De e1) ∧ (b = false → h De e1)
theorem q_ifS {c : Expr} {a b : List Stmt} {t : GT} {g h : GS} (hc : PT X c (tOfT Θ t)) (ha : PSs X a (tOfS Θ g)) (hb : PSs X b (tOfS Θ h)) : PS X (.If c a b pos) (tOfS Θ (gIfS t g h)) := ps_conv (ps_if hc ha hb) fun Dn σ H ⟨e, De, E, h, m⟩ => by
  refine ⟨e, _, E, h, fun b H1 e1 l1 E1 h1 => ?_⟩
  cases b with
  | true => exact iteT ⟨e1, De, E1, h1.1 rfl, m.from l1⟩
  | false => exact iteF ⟨e1, De, E1, h1.2 rfl, m.from l1⟩
theorem setS_far : ∀ {l : List Sl} {i : Nat} {x : Sl}, ¬ i < l.length → setS l i x = l
  | [], _, _, _ => rfl
  | _ :: r, 0, _, h => absurd (Nat.succ_pos _) h
  | s :: r, i + 1, x, h => by
    show s :: setS r i x = s :: r
    rw [setS_far fun z => h (Nat.succ_lt_succ z)]
theorem store_go {σ : L2.St} {H : Hp} {e : Env} {i : Nat} {v : V} {d : D} {fr : Bool} {H' : Hp} {e' : Env} (h : Res Θ σ H e v d fr H' e') : ERep Θ (σ.set i (some v)) H' (e'.set i d fr) ∧ Le (cut (Mm Θ XO σ e.sl) H) (cut (Mm Θ XO (σ.set i (some v)) (e'.set i d fr).sl) H') := by
  by_cases hi : i < e'.sl.length
  · cases fr with
    | false =>
      obtain ⟨le, E, r⟩ := h
      obtain ⟨a, b⟩ := E.put hi r
      exact ⟨a, le.trans b⟩
    | true =>
      obtain ⟨a, rfl, h0, le, E, ow⟩ := h
      obtain ⟨x, y⟩ := E.putOwn hi h0 ow
      exact ⟨x, le.trans y⟩
  · have e1 : e'.set i d fr = e' := by
      show (⟨setS e'.sl i (some (d, fr)), e'.n⟩ : Env) = e'
      rw [setS_far hi]
    have e2 : σ.set i (some v) = σ := List.set_eq_of_length_le (by rw [h.er.len]; omega)
    rw [e1, e2]
    exact ⟨h.er, h.le⟩
def gSet (i : Nat) (g : GE) : GS := fun De e => g e fun d fr e1 => De.nx (e1.set i d fr)
theorem q_set {i : Nat} {x : Str} {a : Expr} {g : GE} {p : Pos} (hN : X.N.Nodup) (hi : X.N[i]? = some x) (hx : Loc X.env.scope x) (ha : PE X a (tOf Θ g)) (hs : swapsWith a (some (.Name x p)) pos.line X.env = pure false := by rfl)
    (hf : X.fn x = true ∨ X.env.scope.names.lookup x = some .local := by first | exact .inl rfl | exact .inr rfl | assumption) : PS X (.Assign [.Name x p] a pos) (tOfS Θ (gSet i g)) :=
  ps_conv (ps_set hN hi hx ha hs hf) fun Dn σ H ⟨e, De, E, h, m⟩ => ⟨e, _, E, h, fun v d fr H1 e1 r h1 => by
    obtain ⟨E', le⟩ := store_go (i := i) r
    exact m.nx _ _ _ le E' h1⟩
abbrev GG : Type := D → Env → (Env → Prop) → Prop
abbrev GGs : Type := List D → Env → (Env → Prop) → Prop
/-- other slots stay -/
def Out (S : List Nat) (σ σ' : L2.St) : Prop := σ'.length = σ.length ∧ ∀ i, i ∉ S → σ'[i]? = σ[i]?
theorem Out.trans {S T : List Nat} {σ σ1 σ2 : L2.St} (a : Out S σ σ1) (b : Out T σ1 σ2) : Out (S ++ T) σ σ2 := ⟨b.1.trans a.1, fun i h => (b.2 i fun z => h (List.mem_append_right _ z)).trans (a.2 i fun z => h (List.mem_append_left _ z))⟩
def tOfG (Θ : Th) (S : List Nat) (g : GG) : TG := fun v σ H Q => ∃ d e Qp, ERep Θ σ H e ∧ Rp Θ.C (cut (Mm Θ XO σ e.sl) H) v d ∧ g d e Qp ∧ ∀ σ' H' e', Le (cut (Mm Θ XO σ e.sl) H) (cut (Mm Θ XO σ' e'.sl) H') → ERep Θ σ' H' e' → Out S σ σ' → Qp e' → Q σ' H'
def tOfGs (Θ : Th) (S : List Nat) (g : GGs) : TGs := fun vs σ H Q => ∃ ds e Qp, ERep Θ σ H e ∧ RpA Θ.C (cut (Mm Θ XO σ e.sl) H) vs ds ∧ g ds e Qp ∧ ∀ σ' H' e', Le (cut (Mm Θ XO σ e.sl) H) (cut (Mm Θ XO σ' e'.sl) H') → ERep Θ σ' H' e' → Out S σ σ' → Qp e' → Q σ' H'
theorem pg_conv {x : Expr} {t t' : TG} (h : PG X x t) (i : ∀ v σ H Q, t' v σ H Q → t v σ H Q) : PG X x t' := ⟨fun pins s σ H v u Q I r q => h.run pins s σ H v u Q I r (i v σ H Q q)⟩
theorem pgs_conv {x : List Expr} {t t' : TGs} (h : PGs X x t) (i : ∀ v σ H Q, t' v σ H Q → t v σ H Q) : PGs X x t' := ⟨fun pins s σ H v u Q I r q => h.run pins s σ H v u Q I r (i v σ H Q q)⟩
def ggName (i : Nat) : GG := fun d e Q => Q (e.set i d false)
theorem qg_name {i : Nat} {x : Str} (hN : X.N.Nodup) (hi : X.N[i]? = some x) (hx : Loc X.env.scope x) (hf : X.fn x = true ∨ X.env.scope.names.lookup x = some .local := by first | exact .inl rfl | exact .inr rfl | assumption) : PG X (.Name x pos) (tOfG Θ [i] (ggName i)) :=
  pg_conv (pg_name hN hi hx hf) fun v σ H Q ⟨d, e, Qp, E, r, h, k⟩ => by
    obtain ⟨E', le⟩ := store_go (i := i) (Res.mk E r)
    exact k _ _ _ le E' ⟨List.length_set, fun j hj => List.getElem?_set_ne fun z => hj (by rw [z]; exact List.mem_singleton.mpr rfl)⟩ h
def ggNil : GGs := fun ds e Q => ds = [] ∧ Q e
def ggCons (g : GG) (h : GGs) : GGs := fun ds e Q => match ds with
  | [] => False
  | d :: r => g d e fun e1 => h r e1 Q
theorem qgs_nil : PGs X [] (tOfGs Θ [] ggNil) := pgs_conv pgs_nil fun vs σ H Q ⟨ds, e, Qp, E, r, h, k⟩ => by
  obtain ⟨rfl, h⟩ := h
  cases r
  exact ⟨rfl, k _ _ _ (Le.refl _) E ⟨rfl, fun _ _ => rfl⟩ h⟩
theorem qgs_cons {a : Expr} {es : List Expr} {g : GG} {h : GGs} {S T : List Nat} (h1 : PG X a (tOfG Θ S g)) (h2 : PGs X es (tOfGs Θ T h))
    (hs : (assignEach (a :: es) X.env).map (·.2) = assign a X.env :: (assignEach es X.env).map (·.2) := by rfl) : PGs X (a :: es) (tOfGs Θ (S ++ T) (ggCons g h)) := pgs_conv (pgs_cons h1 h2 hs) fun vs σ H Q ⟨ds, e, Qp, E, r, h, k⟩ => by
  cases r with
  | nil => exact h.elim
  | cons r1 r2 => exact ⟨_, _, rfl, _, e, _, E, r1, h, fun σ' H' e' l E' o h' => ⟨_, e', _, E', r2.le l, h', fun σ2 H2 e2 l2 E2 o2 h2 => k _ _ _ (l.trans l2) E2 (o.trans o2) h2⟩⟩
/-- a, b, .. = a tuple -/
def ggTup (n : Nat) (g : GGs) : GG := fun d e Q => match d with
  | .tup ds => ds.length = n ∧ g ds e Q
  | _ => False
theorem qg_tup {es : List Expr} {kk : Nat} {g : GGs} {n : Nat} {S : List Nat} (hc : X.calm = true) (h : PGs X es (tOfGs Θ S g)) (hn : (assignEach es X.env).length = n := by rfl) (hst : (assignEach es X.env).findIdx? (·.1) = none := by rfl) : PG X (.Tuple es kk pos) (tOfG Θ S (ggTup n g)) :=
  pg_conv (pg_tup hc h hn hst) fun v σ H Q ⟨d, e, Qp, E, r, h, k⟩ => by
    match d, r, h with
    | .tup ds, r, ⟨hl, h⟩ =>
      obtain ⟨a, xs, rfl, h1, r1⟩ := r.tupE
      exact ⟨a, xs, rfl, SqT.of h1, by rw [r1.len]; exact hl, ds, e, Qp, E, r1, h, k⟩
/-- a, b, .. = a list -/
def ggLst (n : Nat) (g : GGs) : GG := fun d e Q => match d with
  | .lst ds => ds.length = n ∧ g ds e Q
  | _ => False
def gAsg (g : GE) (t : GG) : GS := fun De e => g e fun d _ e1 => t d e1 De.nx
theorem q_asg {tg a : Expr} {g : GE} {t : GG} {S : List Nat} (ha : PE X a (tOf Θ g)) (hg : PG X tg (tOfG Θ S t)) (hs : swapsWithSole [tg] a pos.line X.env = pure false := by rfl) (hw : swappedStores [tg] a X.env = pure none := by rfl)
    (h1 : (assignEach [tg] X.env).map (·.2) = [assign tg X.env] := by rfl) : PS X (.Assign [tg] a pos) (tOfS Θ (gAsg g t)) :=
  ps_conv (ps_asg ha hg hs hw h1) fun Dn σ H ⟨e, De, E, h, m⟩ => ⟨e, _, E, h, fun v d fr H1 e1 r h1 => ⟨d, e1, _, r.er, r.rp, h1, fun σ' H' e' l E' _ h' => m.nx _ _ _ (r.le.trans l) E' h'⟩⟩
abbrev GI : Type := Env → (List D → Env → Prop) → Prop
/-- the items of ds come, one behind another, as long as what stands stays -/
def SameB (Θ Θ0 : Th) : Prop := Θ.C = Θ0.C ∧ Θ.H0 = Θ0.H0 ∧ Θ.L = Θ0.L ∧ Θ.m = Θ0.m
structure Wlk (Θ0 : Th) (J : It) (G : Hp) (ds : List D) : Prop where
  go : ∀ (Θ : Th) i d σ H e, SameB Θ Θ0 → ds[i]? = some d → ERep Θ σ H e → Le G (cut (Mm Θ XO σ e.sl) H) → J.go i H ∧ ∀ x H', J.yld i H x H' → ERep Θ σ H' e ∧ Le (cut (Mm Θ XO σ e.sl) H) (cut (Mm Θ XO σ e.sl) H') ∧ Rp Θ.C (cut (Mm Θ XO σ e.sl) H') x d
  stop : ∀ (Θ : Th) σ H e, SameB Θ Θ0 → ERep Θ σ H e → Le G (cut (Mm Θ XO σ e.sl) H) → J.stop ds.length H
def tOfI (Θ : Th) (g : GI) : TI := fun σ H R => ∃ e Qp, ERep Θ σ H e ∧ g e Qp ∧ ∀ J H1 e1 ds, Le (cut (Mm Θ XO σ e.sl) H) (cut (Mm Θ XO σ e1.sl) H1) → ERep Θ σ H1 e1 → Wlk Θ J (cut (Mm Θ XO σ e1.sl) H1) ds → Qp ds e1 → R J H1
theorem pi_conv {tg x : Expr} {t t' : TI} (h : PI X tg x t) (i : ∀ σ H R, t' σ H R → t σ H R) : PI X tg x t' := ⟨fun pins s σ H R I q => h.run pins s σ H R I (i σ H R q)⟩
def gFor (gi : GI) (t : GG) (b : GS) : GS := fun De e => gi e fun ds e1 => ∃ P : Nat → Env → Prop, P 0 e1 ∧ (∀ i d e, ds[i]? = some d → P i e → t d e fun e2 => b { nx := P (i + 1), ct := P (i + 1), bk := De.nx, rt := De.rt } e2) ∧ ∀ e, P ds.length e → De.nx e
theorem q_for {tg iter : Expr} {body : List Stmt} {gi : GI} {t : GG} {b : GS} {S : List Nat} (hp : PassesOwn (model X.prog X.w) X.A X.env X.xe) (hc : X.calm = true) (hi : PI X tg iter (tOfI Θ gi)) (hg : PG X tg (tOfG Θ S t)) (hb : PSs X body (tOfS Θ b))
    (hs : ∀ x, foldedSetIterable iter X.env x = pure x := by intro _; rfl) : PS X (.For tg iter body [] pos) (tOfS Θ (gFor gi t b)) := ps_conv (ps_for hp hc hi hg hb hs) fun Dn σ H ⟨e, De, E, h, m⟩ => by
  refine ⟨e, _, E, h, fun J H1 e1 ds l1 E1 wk ⟨P, p0, ps, pe⟩ => ?_⟩
  have m1 := m.from l1
  refine ⟨fun i k σ' H' => k = ds.length - i ∧ i ≤ ds.length ∧ ∃ e', ERep Θ σ' H' e' ∧ P i e' ∧ Le (cut (Mm Θ XO σ e1.sl) H1) (cut (Mm Θ XO σ' e'.sl) H'), ⟨_, rfl, Nat.zero_le _, e1, E1, p0, Le.refl _⟩, ?_⟩
  rintro i k σ' H' ⟨rfl, hi, e', E', p, l⟩
  by_cases c : i < ds.length
  · obtain ⟨d, hd⟩ : ∃ d, ds[i]? = some d := ⟨ds[i], List.getElem?_eq_getElem c⟩
    obtain ⟨g1, g2⟩ := wk.go Θ i d σ' H' e' ⟨rfl, rfl, rfl, rfl⟩ hd E' l
    refine .inr ⟨g1, fun σ2 H2 => ∃ e2, ERep Θ σ2 H2 e2 ∧ P (i + 1) e2 ∧ Le (cut (Mm Θ XO σ e1.sl) H1) (cut (Mm Θ XO σ2 e2.sl) H2), fun σ2 H2 ⟨e2, x1, x2, x3⟩ => ⟨ds.length - (i + 1), by omega, rfl, c, e2, x1, x2, x3⟩, fun x H2 hy => ?_⟩
    obtain ⟨E2, l2, r2⟩ := g2 x H2 hy
    refine ⟨d, e', _, E2, r2, ps i d e' hd p, fun σ3 H3 e3 l3 E3 _ h3 => ⟨e3, _, E3, h3, ?_⟩⟩
    have l03 := (l.trans l2).trans l3
    exact ⟨fun σ4 H4 e4 l4 E4 q => ⟨e4, E4, q, l03.trans l4⟩, fun σ4 H4 e4 l4 E4 q => m1.nx σ4 H4 e4 (l03.trans l4) E4 q, fun σ4 H4 e4 l4 E4 q => ⟨e4, E4, q, l03.trans l4⟩, m.rt⟩
  · have hi' : i = ds.length := by omega
    subst hi'
    exact .inl ⟨wk.stop Θ σ' H' e' ⟨rfl, rfl, rfl, rfl⟩ E' l, m1.nx σ' H' e' l E' (pe e' p)⟩
end
end L2.Q
set_option Elab.async false
set_option linter.all false
set_option maxRecDepth 100000
set_option maxHeartbeats 4000000
namespace L2.Q
open PySem PySem.Spec PyProof.Rows L2 L2.Wb
/-- a promise: the arguments, the draws so far, what is wanted of the value (data, whether it is new, the draws then), of an exception (its class, its fields) -/
abbrev PSp : Type := List D → Nat → (D → Bool → Nat → Prop) → (Str → List Str → List D → Nat → Prop) → Prop
/-- a value that a def hands back -/
def Giv (C : Cn) (N : Addr → Prop) (H H' : Hp) (v : V) (d : D) : Bool → Prop
  | false => Rp C (cut N H') v d
  | true => ∃ a, v = .ref a ∧ H a = none ∧ OwnAt C (cut (fun b => N b ∨ b = a) H') H' a d
/-- an exception that a def lets out -/
def ExR (C : Cn) (N : Addr → Prop) (H' : Hp) (c : Str) (ks : List Str) (ds : List D) (cls : Value) (od : Option Addr) : Prop :=
  cls = .ref (C.cA c) ∧ match od with
    | none => ks = [] ∧ ds = []
    | some d => ∃ fs, cut N H' d = some (.xd fs) ∧ fs.map (·.1) = ks ∧ RpA C (cut N H') (fs.map (·.2)) ds
def spOf (C : Cn) (p : PSp) : Sp := fun vs H Q E => ∃ (m : Dr) (N : Addr → Prop) (ds : List D) (n : Nat) (R : D → Bool → Nat → Prop) (Y : Str → List Str → List D → Nat → Prop),
  (∀ b, N b → ∃ o, H b = some o ∧ NoTup o) ∧ (∀ b, N3o C m b → N b) ∧ (∃ gl cl, m = some (C.sa, gl, cl)) ∧ LSo C m n H ∧ RpA C (cut N H) vs ds ∧ p ds n R Y ∧
  (∀ v d fr n' H', Kept (N3o C m) H H' → LSo C m n' H' → Giv C N H H' v d fr → R d fr n' → Q v H') ∧
  (∀ c ks es n' cls od H', Kept (N3o C m) H H' → LSo C m n' H' → ExR C N H' c ks es cls od → Y c ks es n' → E cls od H')
def initS (L : Nat) (ds : List D) : List Sl := ds.map (fun d => some (d, false)) ++ List.replicate (L - ds.length) none
theorem initS_get : ∀ (ds : List D) (i k : Nat) {d : D} {b : Bool}, getS (ds.map (fun d => some (d, false)) ++ List.replicate k none) i = some (d, b) → b = false ∧ ds[i]? = some d
  | [], i, k, d, b, h => by
    exfalso
    have : ∀ (k i : Nat), getS (List.replicate k (none : Sl)) i = none := fun k => by
      induction k with
      | zero => intro i; rfl
      | succ k ih => intro i; cases i with
        | zero => rfl
        | succ i => exact ih i
    rw [List.map_nil, List.nil_append, this] at h
    cases h
  | x :: ds, 0, k, d, b, h => by
    have h' : some (x, false) = some (d, b) := h
    cases h'
    exact ⟨rfl, rfl⟩
  | x :: ds, i + 1, k, d, b, h => initS_get ds i k h
def mkTh (C : Cn) (m : Dr) (N : Addr → Prop) (H : Hp) (std : ∀ b, N b → ∃ o, H b = some o ∧ NoTup o) (n3 : ∀ b, N3o C m b → N b) (ms : ∃ gl cl, m = some (C.sa, gl, cl)) (Z : Str → List Str → List D → Env → Prop) : Th := ⟨C, m, N, H, fun _ => False, std, n3, ms, fun _ => none, fun _ _ z => (nomatch z), Z⟩
theorem start_er {C : Cn} {m : Dr} {N : Addr → Prop} {H : Hp} {std : ∀ b, N b → ∃ o, H b = some o ∧ NoTup o} {n3 : ∀ b, N3o C m b → N b} {ms : ∃ gl cl, m = some (C.sa, gl, cl)} {Z : Str → List Str → List D → Env → Prop} {NN : List Str} {vs : List V} {ds : List D} {n : Nat}
    (ls : LSo C m n H) (r : RpA C (cut N H) vs ds) : ERep (mkTh C m N H std n3 ms Z) (start NN vs) H ⟨initS NN.length ds, n⟩ := by
  have no : ∀ b, ¬ owns (start NN vs) (initS NN.length ds) b := fun b ⟨i, d, h1, _⟩ => Bool.noConfusion (initS_get ds i _ h1).1
  have le : Le (cut N H) (cut (Mm (mkTh C m N H std n3 ms Z) XO (start NN vs) (initS NN.length ds)) H) := le_mono fun b z => z.elim (fun z => z) fun z => z.elim (fun z => (no b z).elim) fun z => z.elim (fun z => z.elim) fun ⟨o, z⟩ => nomatch z
  refine ⟨ls, fun b o _ z => .inl z, ?_, fun i d h => ?_, fun i d h => (Bool.noConfusion (initS_get ds i _ h).1), fun i j d d' a h => (Bool.noConfusion (initS_get ds i _ h).1), fun b o z => nomatch z⟩
  · show (vs.map some ++ List.replicate (NN.length - vs.length) none).length = (ds.map (fun d => some (d, false)) ++ List.replicate (NN.length - ds.length) none).length
    rw [List.length_append, List.length_append, List.length_map, List.length_map, List.length_replicate, List.length_replicate, r.len]
  · obtain ⟨_, q⟩ := initS_get ds i _ h
    obtain ⟨v, h1, h2⟩ := r.get q
    refine ⟨v, ?_, h2.le le⟩
    show (vs.map some ++ List.replicate (NN.length - vs.length) none)[i]? = some (some v)
    have hi := (List.getElem?_eq_some_iff.mp h1).1
    rw [List.getElem?_append_left (by rw [List.length_map]; exact hi), List.getElem?_map, h1]
    rfl
theorem Ret.giv {C : Cn} {m : Dr} {N : Addr → Prop} {H : Hp} {std : ∀ b, N b → ∃ o, H b = some o ∧ NoTup o} {n3 : ∀ b, N3o C m b → N b} {ms : ∃ gl cl, m = some (C.sa, gl, cl)} {Z : Str → List Str → List D → Env → Prop} {v : V} {d : D} {fr : Bool} {H' : Hp} {n' : Nat}
    (h : Ret (mkTh C m N H std n3 ms Z) v d fr H' n') : Kept (N3o C m) H H' ∧ LSo C m n' H' ∧ Giv C N H H' v d fr := by
  refine ⟨fun b o nb z => ?_, h.ls, ?_⟩
  · rcases h.kept b o nb z with q | ⟨q, _⟩
    · exact q
    · exact q.elim
  · have hv := h.val
    cases fr with
    | false => exact hv
    | true => exact hv
section
variable {P : Program} {w : World} {K : PySem.W.Frag} {mg : Str → Option Value} {base : Heap}
/-- an exception leaves -/
def wOf (Θ : Th) : WX := fun cls od σ H => ∃ e c ks es, ERep Θ σ H e ∧ ExR Θ.C (Mm Θ XO σ e.sl) H c ks es cls od ∧ Θ.Z c ks es e
theorem ExR.low {C : Cn} {N M : Addr → Prop} {H : Hp} {c : Str} {ks : List Str} {ds : List D} {cls : Value} {od : Option Addr} (h : ExR C M H c ks ds cls od) (i : ∀ b, N b → M b) : ExR C N H c ks ds cls od := by
  obtain ⟨h1, h2⟩ := h
  refine ⟨h1, ?_⟩
  cases od with
  | none => exact h2
  | some d => obtain ⟨fs, a, b, r⟩ := h2; exact ⟨fs, (le_mono i).x _ _ a, b, r.le (le_mono i)⟩
/-- THE RULE for a def: its body as a term of rules, and what it comes to -/
theorem q_fun {x qual : Str} {st : Stmt} {f : Addr} {fd : FuncData} {N prm : List Str} {k : Nat} {p : PSp} (F : Fun K x qual st f fd) (S : FnScope N prm (defScope st)) (C : Cn) (len : ∀ ds n R Y, p ds n R Y → ds.length = prm.length)
    (body : ∀ (m : Dr) (M : Addr → Prop) (H : Hp) (std : ∀ b, M b → ∃ o, H b = some o ∧ NoTup o) (n3 : ∀ b, N3o C m b → M b) (ms : ∃ gl cl, m = some (C.sa, gl, cl)) (Y : Str → List Str → List D → Nat → Prop) (cdv : Value) (A : Around) (outer : List PySem.Env) (s : Shared) (E : XK),
      Room k (A.deeper (envOfC qual (defScope st) s.heap.objs.size f cdv)) → Takes (cxOf (L2.CX P w) P w K mg base N qual (defScope st) f cdv A outer s H E) (wOf (mkTh C m M H std n3 ms fun c ks es e => Y c ks es e.n)) →
      ∃ g, PSs (cxOf (L2.CX P w) P w K mg base N qual (defScope st) f cdv A outer s H E) (defBody st) (tOfS (mkTh C m M H std n3 ms fun c ks es e => Y c ks es e.n) g) ∧
      ∀ ds n R, p ds n R Y → g { nx := fun e => R .non false e.n, rt := R } ⟨initS N.length ds, n⟩) : FnOk P w K mg base (L2.CX P w) (k + 1) f fd prm (spOf C p) := by
  refine F.okX S (fun vs H Q E h => ?_) (fun cdv A outer s H vs Q E hr h => ?_)
  · obtain ⟨m, M, ds, n, R, Y, _, _, _, _, r, hp, _⟩ := h
    rw [r.len]; exact len _ _ _ _ hp
  · obtain ⟨m, M, ds, n, R, Y, std, n3, ms, ls, r, hp, hq, hx⟩ := h
    have tk : Takes (cxOf (L2.CX P w) P w K mg base N qual (defScope st) f cdv A outer s H E) (wOf (mkTh C m M H std n3 ms fun c ks es e => Y c ks es e.n)) := Takes.imp (takes_of (E := E) rfl rfl rfl rfl) fun cls od σ H' ⟨e, c, ks, es, E', xr, z⟩ => by
      refine hx c ks es e.n cls od H' (fun b o nb q => ?_) E'.ls (xr.low fun b z => .inl z) z
      rcases E'.kept b o nb q with q | ⟨q, _⟩
      · exact q
      · exact q.elim
    obtain ⟨g, ht, hg⟩ := body m M H std n3 ms Y cdv A outer s E hr tk
    refine ⟨_, ht, _, _, start_er ls r, hg ds n R hp, ⟨fun σ' H' e' l E' h' => ?_, fun _ _ _ _ _ h' => h'.elim, fun _ _ _ _ _ h' => h'.elim, fun v d fr H' n' q h' => ?_⟩⟩
    · obtain ⟨a, b, c⟩ := (Res.mk E' .non).ret.giv
      exact hq _ _ false _ _ a b c h'
    · obtain ⟨a, b, c⟩ := q.giv
      exact hq v d fr n' H' a b c h'
end
section
variable {Θ : Th} {X : Cx} {pos : Pos}
theorem ERep.std' {σ : L2.St} {H : Hp} {e : Env} (E : ERep Θ σ H e) : ∀ b, Mm Θ XO σ e.sl b → ∃ o, H b = some o ∧ NoTup o := fun b z => by
  rcases z with z | z | z
  · by_cases c : N3o Θ.C Θ.m b
    · exact E.ls.hasN c
    · obtain ⟨o, h, hn⟩ := Θ.std b z
      rcases E.kept b o c h with q | ⟨_, ob, q⟩
      · exact ⟨o, q, hn⟩
      · exact ⟨_, q, trivial⟩
  · obtain ⟨i, d, h1, h2⟩ := z
    obtain ⟨a, h3, h4, h5, h6⟩ := E.ow i d h1
    rw [h2] at h3; cases h3
    exact h6.someN
  · exact z.elim (fun z => z.elim) fun ⟨o, z⟩ => ⟨o, E.fxs _ _ z, (Θ.fx0 _ _ z).2⟩
/-- behind a call: something new may have come -/
theorem ERep.stepNew {σ : L2.St} {H H' : Hp} {e : Env} {n' : Nat} {a : Addr} (E : ERep Θ σ H e) (k : Kept (N3o Θ.C Θ.m) H H') (l : LSo Θ.C Θ.m n' H') (ha : H a = none) :
    ERepX Θ (fun b => b = a) σ H' ⟨e.sl, n'⟩ ∧ Le (cut (Mm Θ XO σ e.sl) H) (cut (Mm Θ (fun b => b = a) σ e.sl) H') := by
  have le : Le (cut (Mm Θ XO σ e.sl) H) (cut (Mm Θ (fun b => b = a) σ e.sl) H') := le_cut fun b u n z => ⟨fun q => q.elim (fun q => n (.inl q)) fun q => q.elim (fun q => n (.inr (.inl q))) fun q => q.elim (ne_of_none z ha) fun q => n (.inr (.inr (.inr q))), k b u (fun q => n (.inl (Θ.n3 b q))) z⟩
  refine ⟨⟨l, fun b u n z => ?_, E.len, fun i d q => ?_, fun i d q => ?_, E.inj, fun b o z => k _ _ (Θ.new3 (Θ.fx0 b o z).1) (E.fxs b o z)⟩, le⟩
  · rcases E.kept b u n z with q | ⟨q, ob, r⟩
    · exact .inl (k _ _ n q)
    · exact .inr ⟨q, ob, k _ _ n r⟩
  · obtain ⟨v, h1, h2⟩ := E.sh i d q
    exact ⟨v, h1, h2.le le⟩
  · obtain ⟨c, h1, h2, h3, h4⟩ := E.ow i d q
    obtain ⟨o', q'⟩ := h4.some
    exact ⟨c, h1, h2, fun z => z.elim (ne_of_none q' ha) fun z => h3 (.inr z), h4.mono le fun o q => k _ _ (Θ.new3 h2) q⟩
/-- what a call gives -/
theorem giv_res {σ : L2.St} {H H' : Hp} {e : Env} {n' : Nat} {v : V} {d : D} {fr : Bool} (E : ERep Θ σ H e) (k : Kept (N3o Θ.C Θ.m) H H') (l : LSo Θ.C Θ.m n' H') (g : Giv Θ.C (Mm Θ XO σ e.sl) H H' v d fr) : Res Θ σ H e v d fr H' ⟨e.sl, n'⟩ := by
  cases fr with
  | false =>
    obtain ⟨E', le⟩ := E.step k l
    exact ⟨le, E', g⟩
  | true =>
    obtain ⟨a, rfl, ha, ow⟩ := g
    obtain ⟨E', le⟩ := E.stepNew k l ha
    exact ⟨a, rfl, E.new0 ha, le, E', ow.mono (le_mono fun b z => z.elim (fun z => .inl (.inl z)) fun z => z.elim (fun z => .inl (.inr (.inl z))) fun z => z.elim .inr fun z => .inl (.inr (.inr (.inr z)))) fun o q => q⟩
theorem passE0 {X : Cx} : Passes (L2.CX X.prog X.w) X E0 := passes_call (W := fun _ _ _ _ => False) takes0 (fun _ _ _ _ h => h)
theorem call_sp {p : PSp} {σ : L2.St} {H : Hp} {e : Env} {vs : List V} {ds : List D} {R : D → Bool → Nat → Prop} {Y : Str → List Str → List D → Nat → Prop} {Q : VK} {Ex : XK} (E : ERep Θ σ H e) (r : RpA Θ.C (cut (Mm Θ XO σ e.sl) H) vs ds) (h : p ds e.n R Y)
    (hq : ∀ v d fr n' H', Res Θ σ H e v d fr H' ⟨e.sl, n'⟩ → R d fr n' → Q v H')
    (hx : ∀ c ks es n' cls od H', Kept (N3o Θ.C Θ.m) H H' → LSo Θ.C Θ.m n' H' → ExR Θ.C (Mm Θ XO σ e.sl) H' c ks es cls od → Y c ks es n' → Ex cls od H') : spOf Θ.C p vs H Q Ex :=
  ⟨Θ.m, Mm Θ XO σ e.sl, ds, e.n, R, Y, E.std', fun b z => .inl (Θ.n3 b z), Θ.ms, E.ls, r, h, fun v d fr n' H' k l g q => hq v d fr n' H' (giv_res E k l g) q, hx⟩
/-- a call, what it raises goes on to Z -/
def gCallX (Z : Str → List Str → List D → Env → Prop) (p : PSp) (ga : GA) : GE := fun e Q => ga e fun ds e1 => p ds e1.n (fun d fr n' => Q d fr ⟨e1.sl, n'⟩) fun c ks es n' => Z c ks es ⟨e1.sl, n'⟩
def noZ : Str → List Str → List D → Env → Prop := fun _ _ _ _ => False
abbrev gCall (p : PSp) (ga : GA) : GE := gCallX noZ p ga
theorem callX_sp {p : PSp} {σ : L2.St} {H : Hp} {e : Env} {vs : List V} {ds : List D} {R : D → Bool → Nat → Prop} {Q : VK} (E : ERep Θ σ H e) (r : RpA Θ.C (cut (Mm Θ XO σ e.sl) H) vs ds) (h : p ds e.n R fun c ks es n' => Θ.Z c ks es ⟨e.sl, n'⟩)
    (hq : ∀ v d fr n' H', Res Θ σ H e v d fr H' ⟨e.sl, n'⟩ → R d fr n' → Q v H') : spOf Θ.C p vs H Q (WE (wOf Θ) σ) :=
  call_sp E r h hq fun c ks es n' cls od H' k l x z => ⟨⟨e.sl, n'⟩, c, ks, es, (E.step k l).1, x, z⟩
section
variable {k : Nat} {f : Addr} {fd : FuncData} {prm : List Str} {p : PSp} {x : Str} {a : Expr} {es : List Expr} {ga : GA} {pp : Pos}
theorem q_call (G : FnOk X.prog X.w X.K X.mg X.base (L2.CX X.prog X.w) k f fd prm (spOf Θ.C p)) (hr : Room k X.A) (hg : Gl X x) (hm : X.mg x = some (.ref f)) (hk : PySem.W.keepIn X.K (.ref f) = true) (hb : Binds X.K fd prm [])
    (ha : PA X (a :: es) (tOfA Θ ga)) (hdb : (x == ("__debug__" : Str)) = false := by decide) (he : starEach (a :: es) X.env = (false, eval a X.env) :: starEach es X.env := by rfl) (hpl : (backTo pos (starEach es X.env)).any (·.1) = false := by rfl) :
    PE X (.Call (.Name x pp) (a :: es) [] pos) (tOf Θ (gCall p ga)) :=
  pe_conv (pe_call (E := E0) G hr hg hm hk hb .nil passE0 ha hdb he hpl) fun σ H Q ⟨e, Qp, E, h, k⟩ => ⟨e, _, E, h, fun vs ds H1 e1 l1 E1 r1 h1 => by
    show spOf Θ.C p (vs ++ []) H1 Q E0
    rw [List.append_nil]
    exact call_sp E1 r1 h1 (fun v d fr n' H' r q => k _ _ _ _ _ (r.from l1) q) (fun _ _ _ _ _ _ _ _ _ _ q => q.elim)⟩
theorem q_callXF (tk : Takes X (wOf Θ)) (G : FnOk X.prog X.w X.K X.mg X.base (L2.CX X.prog X.w) k f fd prm (spOf Θ.C p)) (hr : Room k X.A) (hg : Gl X x) (hm : X.mg x = some (.ref f)) (hk : PySem.W.keepIn X.K (.ref f) = true) (hb : Binds X.K fd prm [])
    (ha : PA X (a :: es) (tOfA Θ ga)) (hdb : (x == ("__debug__" : Str)) = false := by decide) (he : starEach (a :: es) X.env = (false, eval a X.env) :: starEach es X.env := by rfl) (hpl : (backTo pos (starEach es X.env)).any (·.1) = false := by rfl) :
    PE X (.Call (.Name x pp) (a :: es) [] pos) (tOf Θ (gCallX Θ.Z p ga)) :=
  pe_conv (pe_callS (E := WE (wOf Θ)) G hr hg hm hk hb (fun σ => passAt tk σ) ha hdb he hpl) fun σ H Q ⟨e, Qp, E, h, k⟩ => ⟨e, _, E, h, fun vs ds H1 e1 l1 E1 r1 h1 =>
    callX_sp E1 r1 h1 (fun v d fr n' H' r q => k _ _ _ _ _ (r.from l1) q)⟩
end
def CaQ (X : Cx) (Θ : Th) (fv : Value) (f : List D → (D → Bool → Prop) → Prop) : Prop := ∃ r, CallR X fv r ∧ ∀ σ H e vs ds k Q, ERep Θ σ H e → RpA Θ.C (cut (Mm Θ XO σ e.sl) H) vs ds → f ds k → (∀ u z fr H', Res Θ σ H e u z fr H' e → k z fr → Q u H') → r vs H Q
def gB1 (f : List D → (D → Bool → Prop) → Prop) (ga : GA) : GE := fun e Q => ga e fun ds e1 => f ds fun z fr => Q z fr e1
theorem q_bcall {id : String} {x : Str} {a : Expr} {es : List Expr} {ga : GA} {pp : Pos} {f} (hc : CaQ X Θ (.builtin id) f) (hg : Gl X x) (hm : X.mg x = none) (ha : PA X (a :: es) (tOfA Θ ga)) (hv : bootBuiltins x = some (.builtin id) := by decide +kernel) (hn : x ≠ "__name__" := by decide) (hdb : (x == ("__debug__" : Str)) = false := by decide)
    (he : starEach (a :: es) X.env = (false, eval a X.env) :: starEach es X.env := by rfl) (hpl : (backTo pos (starEach es X.env)).any (·.1) = false := by rfl) : PE X (.Call (.Name x pp) (a :: es) [] pos) (tOf Θ (gB1 f ga)) := by
  obtain ⟨r, h1, h2⟩ := hc
  exact pe_conv (pe_callB h1 hg hm hv ha hn hdb he hpl) fun σ H Q ⟨e, Qp, E, h, k⟩ => ⟨e, _, E, h, fun vs ds H1 e1 l1 E1 r1 q1 => h2 σ H1 e1 vs ds _ Q E1 r1 q1 fun u z fr H' R q => k _ _ _ _ _ (R.from l1) q⟩
theorem q_tcall {T : String} {x : Str} {a : Expr} {es : List Expr} {ga : GA} {pp : Pos} {f} (hc : CaQ X Θ (.type T) f) (hg : Gl X x) (hm : X.mg x = none) (ha : PA X (a :: es) (tOfA Θ ga)) (hv : bootBuiltins x = some (.type T) := by decide +kernel) (hn : x ≠ "__name__" := by decide) (hdb : (x == ("__debug__" : Str)) = false := by decide)
    (he : starEach (a :: es) X.env = (false, eval a X.env) :: starEach es X.env := by rfl) (hpl : (backTo pos (starEach es X.env)).any (·.1) = false := by rfl) : PE X (.Call (.Name x pp) (a :: es) [] pos) (tOf Θ (gB1 f ga)) := by
  obtain ⟨r, h1, h2⟩ := hc
  exact pe_conv (pe_callTy h1 hg hm hv ha hn hdb he hpl) fun σ H Q ⟨e, Qp, E, h, k⟩ => ⟨e, _, E, h, fun vs ds H1 e1 l1 E1 r1 q1 => h2 σ H1 e1 vs ds _ Q E1 r1 q1 fun u z fr H' R q => k _ _ _ _ _ (R.from l1) q⟩
theorem RpA.one {C : Cn} {H : Hp} {vs : List V} {d : D} (h : RpA C H vs [d]) : ∃ v, vs = [v] ∧ Rp C H v d := by
  cases h with
  | cons a b => cases b; exact ⟨_, rfl, a⟩
theorem RpA.two {C : Cn} {H : Hp} {vs : List V} {d d' : D} (h : RpA C H vs [d, d']) : ∃ v v', vs = [v, v'] ∧ Rp C H v d ∧ Rp C H v' d' := by
  cases h with
  | cons a b => obtain ⟨v, rfl, r⟩ := b.one; exact ⟨_, _, rfl, a, r⟩
/-- len(d), d a dict that may be walked -/
def rLenQ (K : PySem.W.Frag) : List V → Hp → VK → Prop := fun xs H Q => (∃ p ys, xs = [.ref p] ∧ (SqL K H p ys ∨ SqT K H p ys) ∧ Q (.int ys.length) H) ∨ ∃ a kvs, xs = [V.ref a] ∧ H a = some (.dK kvs) ∧ Q (.int kvs.length) H
theorem call_lenQ : CallR X (.builtin "len") (rLenQ X.K) := CallR.or call_len_seq call_lenD
/-- len(x), x a local -/
def gLenV (i : Nat) : GE := fun e Q => match getS e.sl i with
  | some (.lst ds, _) => Q (.int ds.length) false e
  | some (.tup ds, _) => Q (.int ds.length) false e
  | some (.dct ks ds, true) => Q (.int ks.length) false e
  | _ => False
theorem q_lenV (i : Nat) {x : Str} {pp p2 : Pos} (hm : X.mg "len" = none) (hg : Gl X "len" := by rfl) (hN : X.N[i]? = some x := by rfl) (hv : Vis X.env.scope x := by first | exact Or.inl rfl | exact Or.inr (Or.inl rfl) | exact Or.inr (Or.inr rfl))
    (hd : (x == ("__debug__" : Str)) = false := by decide) (hcd : (x == ("__classdict__" : Str)) = false := by decide) (he : starEach [.Name x p2] X.env = (false, eval (.Name x p2) X.env) :: starEach [] X.env := by rfl) (hpl : (backTo pos (starEach [] X.env)).any (·.1) = false := by rfl) :
    PE X (.Call (.Name "len" pp) [.Name x p2] [] pos) (tOf Θ (gLenV i)) :=
  pe_conv (pe_callB call_lenQ hg hm (by decide +kernel) (pa_cons (pe_var hN hv hd hcd) pa_nil he) (by decide) (by decide) he hpl) fun σ H Q ⟨e, Qp, E, h, k⟩ => by
    unfold gLenV at h
    cases q : getS e.sl i with
    | none => rw [q] at h; exact h.elim
    | some s =>
      obtain ⟨d, b⟩ := s
      rw [q] at h
      match d, b, q, h with
      | .lst ds, b, q, h =>
        obtain ⟨v, h1, c⟩ := slot_con E q
        refine ⟨v, h1, ?_⟩
        cases c with
        | lst g1 g2 => exact .inl ⟨_, _, rfl, .inl (SqL.of g1), by rw [g2.len]; exact k _ _ _ _ _ (Res.mk E (.int _)) h⟩
        | oth g => exact g.elim
      | .tup ds, b, q, h =>
        obtain ⟨v, h1, c⟩ := slot_con E q
        refine ⟨v, h1, ?_⟩
        cases c with
        | tup _ g1 g2 => exact .inl ⟨_, _, rfl, .inr (SqT.of g1), by rw [g2.len]; exact k _ _ _ _ _ (Res.mk E (.int _)) h⟩
        | oth g => exact g.elim
      | .dct ks ds, true, q, h =>
        obtain ⟨a, h1, _, _, ow⟩ := E.ow i _ q
        refine ⟨.ref a, h1, ?_⟩
        cases ow with
        | dct g1 g2 g3 => exact .inr ⟨_, _, rfl, g1, by rw [← List.length_map (f := fun kv : Key × V => kv.1), g2]; exact k _ _ _ _ _ (Res.mk E (.int _)) h⟩
      | .dct ks ds, false, q, h => exact h.elim
def lenSF : List D → (D → Bool → Prop) → Prop := fun ds k => match ds with
  | [.lst ds] => k (.int ds.length) false
  | [.tup ds] => k (.int ds.length) false
  | _ => False
/-- list(x), tuple(x) of a list or a tuple -/
def seqD : D → Option (List D)
  | .lst ds => some ds
  | .tup ds => some ds
  | _ => none
def lstF : List D → (D → Bool → Prop) → Prop := fun ds k => match ds with
  | [.lst ds] => k (.lst ds) true
  | [.tup ds] => k (.lst ds) true
  | _ => False
theorem cq_list : CaQ X Θ (.type "list") lstF := by
  refine ⟨_, call_list_of, fun σ H e vs ds k Q E r h K => ?_⟩
  match ds, r, h with
  | [.lst ds], r, h =>
    obtain ⟨v, rfl, rv⟩ := r.one
    obtain ⟨a, xs, rfl, h1, r1⟩ := rv.lstE
    exact ⟨a, xs, rfl, .inl (SqL.of h1), fun l hl => K _ _ _ _ (Res.newL E hl r1) h⟩
  | [.tup ds], r, h =>
    obtain ⟨v, rfl, rv⟩ := r.one
    obtain ⟨a, xs, rfl, h1, r1⟩ := rv.tupE
    exact ⟨a, xs, rfl, .inr (SqT.of h1), fun l hl => K _ _ _ _ (Res.newL E hl r1) h⟩
def tupF : List D → (D → Bool → Prop) → Prop := fun ds k => match ds with
  | [.lst ds] => k (.tup ds) false
  | [.tup ds] => k (.tup ds) false
  | _ => False
def intF : List D → (D → Bool → Prop) → Prop := fun ds k => match ds with
  | [.int i] => k (.int i) false
  | [.bl b] => k (.int (if b then 1 else 0)) false
  | _ => False
theorem cq_int : CaQ X Θ (.type "int") intF := by
  refine ⟨_, call_int1, fun σ H e vs ds k Q E r h K => ?_⟩
  match ds, r, h with
  | [.int i], r, h =>
    obtain ⟨v, rfl, rv⟩ := r.one
    rw [rv.intE]
    exact .inl ⟨i, rfl, K _ _ _ _ (Res.mk E (.int _)) h⟩
  | [.bl i], r, h =>
    obtain ⟨v, rfl, rv⟩ := r.one
    rw [rv.blE]
    exact .inr ⟨i, rfl, K _ _ _ _ (Res.mk E (.int _)) h⟩
/-- sum of a list of numbers -/
def intsOf : List D → Option (List Int)
  | [] => some []
  | .int i :: ds => (intsOf ds).map (i :: ·)
  | _ :: _ => none
theorem ints_rp {C : Cn} {H : Hp} : ∀ {vs : List V} {ds : List D} {ns : List Int}, RpA C H vs ds → intsOf ds = some ns → vs = ns.map V.int
  | _, _, _, .nil, e => by cases e; rfl
  | _, _, ns, .cons (d := d) (ds := ds) a b, e => by
    match d, a, e with
    | .int i, a, e =>
      have e' : (intsOf ds).map (i :: ·) = some ns := e
      cases q : intsOf ds with
      | none => rw [q] at e'; cases e'
      | some ms =>
        rw [q] at e'
        cases e'
        rw [a.intE, ints_rp b q]
        rfl
/-- all, any of a list of truths -/
def blsOf : List D → Option (List Bool)
  | [] => some []
  | .bl i :: ds => (blsOf ds).map (i :: ·)
  | _ :: _ => none
theorem bls_rp {C : Cn} {H : Hp} : ∀ {vs : List V} {ds : List D} {ns : List Bool}, RpA C H vs ds → blsOf ds = some ns → vs = ns.map V.bl
  | _, _, _, .nil, e => by cases e; rfl
  | _, _, ns, .cons (d := d) (ds := ds) a b, e => by
    match d, a, e with
    | .bl i, a, e =>
      have e' : (blsOf ds).map (i :: ·) = some ns := e
      cases q : blsOf ds with
      | none => rw [q] at e'; cases e'
      | some ms =>
        rw [q] at e'
        cases e'
        rw [a.blE, bls_rp b q]
        rfl
def allF : List D → (D → Bool → Prop) → Prop := fun ds k => match ds with
  | [.lst ds] => ∃ ns, blsOf ds = some ns ∧ k (.bl (ns.all id)) false
  | _ => False
theorem cq_all (hc : X.calm = true) : CaQ X Θ (.builtin "all") allF := by
  refine ⟨_, cr_all hc, fun σ H e vs ds k Q E r h K => ?_⟩
  match ds, r, h with
  | [.lst ds], r, ⟨ns, hn, h⟩ =>
    obtain ⟨v, rfl, rv⟩ := r.one
    obtain ⟨a, xs, rfl, h1, r1⟩ := rv.lstE
    rw [bls_rp r1 hn] at h1
    exact ⟨a, ns, rfl, SqL.of h1, K _ _ _ _ (Res.mk E (.bl _)) h⟩
end
end L2.Q
set_option Elab.async false
set_option linter.all false
set_option maxRecDepth 100000
set_option maxHeartbeats 4000000
namespace L2.Q
open PySem PySem.Spec PyProof.Rows L2 L2.Wb RZ
section
variable {Θ : Th} {X : Cx} {pos : Pos} {tg : Expr}
def iSeq (K : PySem.W.Frag) (te : TE) : TI := fun σ H R => te σ H fun x H1 => ∃ a, x = .ref a ∧ (((∃ xs, SqL K H1 a xs) ∧ R (Itl K a) H1) ∨ ((∃ xs, SqT K H1 a xs) ∧ R (Itt K a) H1))
theorem pi_seq {l : Expr} {tl : TE} (hl : PE X l tl) : PI X tg l (iSeq X.K tl) := by
  refine ⟨fun pins s σ H R I h => ?_⟩
  refine thn (hl.run pins s σ H _ I h) fun v s1 ⟨x, H1, I1, r1, q1⟩ => ?_
  obtain ⟨a, e, q1⟩ := q1
  subst e
  cases r1
  rcases q1 with ⟨⟨xs, hq⟩, q⟩ | ⟨⟨xs, hq⟩, q⟩
  · obtain ⟨its, rv, p, hz⟩ := I1.list hq
    refine wpAny_pyIter_list p.isList ?_
    refine ⟨s1.heap.objs.size, [s1.heap.objs.size], _, _, H1, rfl, I1.kept (t' := s1.toks) fun b o e => Heap.get?_push_of_some _ e, turn_list a _, ⟨_, Heap.get?_push_size _ rfl, rfl, rfl⟩, fun b hb => ?_, q⟩
    have e : b = s1.heap.objs.size := by simpa using hb
    subst e
    exact I1.fpOk (Nat.le_refl _) (I1.hok.fresh (Nat.le_refl _))
  · obtain ⟨its, rv, p, hz⟩ := I1.tuple hq
    refine wpAny_pyIter_tuple (show s1.heap.IsTuple a its.toArray from p) ?_
    refine ⟨s1.heap.objs.size, [s1.heap.objs.size], _, _, H1, rfl, I1.kept (t' := s1.toks) fun b o e => Heap.get?_push_of_some _ e, turn_tuple a _, ⟨_, Heap.get?_push_size _ rfl, rfl, rfl⟩, fun b hb => ?_, q⟩
    have e : b = s1.heap.objs.size := by simpa using hb
    subst e
    exact I1.fpOk (Nat.le_refl _) (I1.hok.fresh (Nat.le_refl _))
theorem wlk_lst {Θ0 : Th} {K : PySem.W.Frag} {G : Hp} {a : Addr} {xs : List V} {ds : List D} (h : G a = some (.lst xs)) (r : RpA Θ0.C G xs ds) : Wlk Θ0 (Itl K a) G ds := by
  refine ⟨fun Θ i d σ H e hC hd E l => ?_, fun Θ σ H e hC E l => ?_⟩
  · have h1 := (cut_in (l.l _ _ h)).2
    obtain ⟨v, hv, rv⟩ := (r.le l).get hd
    refine ⟨⟨xs, v, SqL.of h1, hv⟩, fun x H' ⟨e1, y⟩ => ?_⟩
    subst e1
    have := y xs (SqL.of h1)
    rw [hv] at this; cases this
    rw [hC.1]
    exact ⟨E, Le.refl _, rv⟩
  · exact ⟨xs, SqL.of (cut_in (l.l _ _ h)).2, by rw [r.len]; exact Nat.le_refl _⟩
theorem wlk_tup {Θ0 : Th} {K : PySem.W.Frag} {G : Hp} {a : Addr} {xs : List V} {ds : List D} (h : G a = some (.tup xs)) (r : RpA Θ0.C G xs ds) : Wlk Θ0 (Itt K a) G ds := by
  refine ⟨fun Θ i d σ H e hC hd E l => ?_, fun Θ σ H e hC E l => ?_⟩
  · have h1 := (cut_in (l.t _ _ h)).2
    obtain ⟨v, hv, rv⟩ := (r.le l).get hd
    refine ⟨⟨xs, v, SqT.of h1, hv⟩, fun x H' ⟨e1, y⟩ => ?_⟩
    subst e1
    have := y xs (SqT.of h1)
    rw [hv] at this; cases this
    rw [hC.1]
    exact ⟨E, Le.refl _, rv⟩
  · exact ⟨xs, SqT.of (cut_in (l.t _ _ h)).2, by rw [r.len]; exact Nat.le_refl _⟩
def giSeq (g : GE) : GI := fun e Q => g e fun d _ e1 => match d with
  | .lst ds => Q ds e1
  | .tup ds => Q ds e1
  | _ => False
theorem qi_seq {a : Expr} {g : GE} (h : PE X a (tOf Θ g)) : PI X tg a (tOfI Θ (giSeq g)) := pi_conv (pi_seq h) fun σ H R ⟨e, Qp, E, h, k⟩ => by
  refine ⟨e, _, E, h, fun v d fr H1 e1 r1 h1 => ?_⟩
  have rp := r1.rp
  cases rp with
  | lst g1 g2 => exact ⟨_, rfl, .inl ⟨⟨_, SqL.of (cut_in g1).2⟩, k _ _ _ _ r1.le r1.er (wlk_lst g1 g2) h1⟩⟩
  | tup g1 g2 => exact ⟨_, rfl, .inr ⟨⟨_, SqT.of (cut_in g1).2⟩, k _ _ _ _ r1.le r1.er (wlk_tup g1 g2) h1⟩⟩
  | _ => exact h1.elim
def rangeD (lo : Int) : Nat → List D
  | n => (List.range n).map fun k => .int (lo + (k : Nat))
theorem rangeD_get {lo : Int} {n i : Nat} {d : D} (h : (rangeD lo n)[i]? = some d) : i < n ∧ d = .int (lo + (i : Nat)) := by
  unfold rangeD at h
  rw [List.getElem?_map] at h
  by_cases c : i < n
  · rw [List.getElem?_range c] at h
    exact ⟨c, (Option.some.inj h).symm⟩
  · rw [List.getElem?_eq_none (by rw [List.length_range]; omega)] at h
    cases h
theorem rangeD_len {lo : Int} {n : Nat} : (rangeD lo n).length = n := by unfold rangeD; rw [List.length_map, List.length_range]
theorem wlk_rng {Θ0 : Th} {G : Hp} {lo : Int} {n : Nat} : Wlk Θ0 (Itr lo n) G (rangeD lo n) := by
  refine ⟨fun Θ i d σ H e hC hd E l => ?_, fun Θ σ H e hC E l => ?_⟩
  · obtain ⟨hi, rfl⟩ := rangeD_get hd
    refine ⟨hi, fun x H' ⟨e1, y⟩ => ?_⟩
    subst e1; subst y
    exact ⟨E, Le.refl _, .int _⟩
  · rw [rangeD_len]; exact Nat.le_refl _
def giR1 (ga : GA) : GI := fun e Q => ga e fun ds e1 => match ds with
  | [.int j] => -(2 ^ 62) ≤ j ∧ j < 2 ^ 62 ∧ Q (rangeD 0 j.toNat) e1
  | _ => False
def giR2 (ga : GA) : GI := fun e Q => ga e fun ds e1 => match ds with
  | [.int i, .int j] => (-(2 ^ 62) ≤ i ∧ i < 2 ^ 62 ∧ -(2 ^ 62) ≤ j ∧ j < 2 ^ 62) ∧ Q (rangeD i (j - i).toNat) e1
  | _ => False
theorem qi_range1 {a : Expr} {ga : GA} {p : Pos} (hg : Gl X "range") (hm : X.mg "range" = none) (ha : PA X [a] (tOfA Θ ga)) (hs : starEach [a] X.env = [(false, eval a X.env)] := by rfl) : PI X tg (.Call (.Name "range" p) [a] [] pos) (tOfI Θ (giR1 ga)) :=
  pi_conv (pi_range1 hg hm ha hs) fun σ H R ⟨e, Qp, E, h, k⟩ => ⟨e, _, E, h, fun vs ds H1 e1 l1 E1 r1 h1 => by
    match ds, r1, h1 with
    | [.int j], r1, ⟨a, b, h1⟩ =>
      obtain ⟨v, rfl, rv⟩ := r1.one
      rw [rv.intE]
      exact ⟨j, rfl, a, b, k _ _ _ _ l1 E1 wlk_rng h1⟩⟩
theorem turn_new {Θ' : Th} {σ : L2.St} {H : Hp} {e : Env} {T : Addr} {us : List V} {ds : List D} (E : ERep Θ' σ H e) (hT : H T = none) (r : RpA Θ'.C (cut (Mm Θ' XO σ e.sl) H) us ds) :
    ERep Θ' σ (upd H T (.tup us)) e ∧ Le (cut (Mm Θ' XO σ e.sl) H) (cut (Mm Θ' XO σ e.sl) (upd H T (.tup us))) ∧ Rp Θ'.C (cut (Mm Θ' XO σ e.sl) (upd H T (.tup us))) (.ref T) (.tup ds) := by
  obtain ⟨a, b, c⟩ := Res.newT E hT r
  exact ⟨b, a, c⟩
def enumD (k : Nat) : List D → List D
  | [] => []
  | d :: ds => .tup [.int (k : Nat), d] :: enumD (k + 1) ds
theorem enumD_get : ∀ {ds : List D} {k i : Nat} {d : D}, (enumD k ds)[i]? = some d → ∃ d', ds[i]? = some d' ∧ d = .tup [.int ((k + i : Nat) : Int), d']
  | [], _, _, _, h => by cases h
  | x :: ds, k, 0, d, h => by
    have h' : some (D.tup [.int (k : Nat), x]) = some d := h
    cases h'
    exact ⟨x, rfl, by rw [Nat.add_zero]⟩
  | x :: ds, k, i + 1, d, h => by
    obtain ⟨d', h1, h2⟩ := enumD_get (ds := ds) (k := k + 1) (i := i) (d := d) h
    exact ⟨d', h1, by rw [h2, show k + 1 + i = k + (i + 1) by omega]⟩
theorem enumD_len : ∀ {ds : List D} {k : Nat}, (enumD k ds).length = ds.length
  | [], _ => rfl
  | _ :: ds, k => congrArg Nat.succ (enumD_len (ds := ds))
theorem wlk_enum {Θ0 : Th} {K : PySem.W.Frag} {G : Hp} {a : Addr} {xs : List V} {ds : List D} (h : G a = some (.lst xs)) (r : RpA Θ0.C G xs ds) : Wlk Θ0 (Ite K a) G (enumD 0 ds) := by
  refine ⟨fun Θ i d σ H e hC hd E l => ?_, fun Θ σ H e hC E l => ?_⟩
  · obtain ⟨d', hd', rfl⟩ := enumD_get hd
    have h1 := (cut_in (l.l _ _ h)).2
    obtain ⟨v, hv, rv⟩ := (r.le l).get hd'
    refine ⟨⟨xs, v, SqL.of h1, hv⟩, fun x H' ⟨T, u, e0, hT, e1, y⟩ => ?_⟩
    subst e0; subst e1
    have := y xs (SqL.of h1)
    rw [hv] at this; cases this
    have z := turn_new (us := [.int ((i : Nat) : Int), v]) (ds := [.int ((i : Nat) : Int), d']) E hT (.cons (.int _) (.cons (by rw [hC.1]; exact rv) .nil))
    rw [Nat.zero_add]
    exact z
  · exact ⟨xs, SqL.of (cut_in (l.l _ _ h)).2, by rw [enumD_len, r.len]; exact Nat.le_refl _⟩
def zipD : List D → List D → List D
  | x :: xs, y :: ys => .tup [x, y] :: zipD xs ys
  | _, _ => []
def giZip (ga : GA) : GI := fun e Q => ga e fun ds e1 => match ds with
  | [.lst ds, .lst es] => Q (zipD ds es) e1
  | [.tup ds, .tup es] => Q (zipD ds es) e1
  | _ => False
end
end L2.Q
set_option Elab.async false
set_option linter.all false
set_option maxRecDepth 100000
set_option maxHeartbeats 4000000
namespace L2.Q
open PySem PySem.Spec PyProof.Rows L2 L2.Wb RZ
/-- a new list in a rule's hand -/
def Th.ext (Θ : Th) (a : Addr) (o : HO) (h : Θ.H0 a = none) : Th := ⟨Θ.C, Θ.m, Θ.N, Θ.H0, Θ.L, Θ.std, Θ.n3, Θ.ms, upd Θ.fx a (unT o), fun b u z => by
  by_cases c : b = a
  · rw [c, upd_same] at z
    cases z
    rw [c]; exact ⟨h, unT_no o⟩
  · rw [upd_ne c] at z; exact Θ.fx0 b u z, Θ.Z⟩
section
variable {Θ : Th} {σ : L2.St} {H : Hp} {e : Env} {a : Addr} {o o' : HO} {h : Θ.H0 a = none}
theorem xx_in {b : Addr} (z : Xx (Θ.ext a o h) XO b) : Xx Θ (fun b => b = a) b := z.elim (fun z => z.elim) fun ⟨u, z⟩ => by
  by_cases c : b = a
  · exact .inl c
  · exact .inr ⟨u, by rw [← upd_ne (H := Θ.fx) (o := unT o) c]; exact z⟩
theorem xx_out {b : Addr} (z : Xx Θ (fun b => b = a) b) : Xx (Θ.ext a o h) XO b := by
  by_cases c : b = a
  · exact .inr ⟨unT o, by rw [c]; exact upd_same⟩
  · exact z.elim (fun z => (c z).elim) fun ⟨u, z⟩ => .inr ⟨u, (upd_ne c).trans z⟩
theorem mm_in {sl : List Sl} {b : Addr} (z : Mm (Θ.ext a o h) XO σ sl b) : Mm Θ (fun b => b = a) σ sl b := z.elim .inl fun z => z.elim (fun z => .inr (.inl z)) fun z => .inr (.inr (xx_in z))
theorem mm_out {sl : List Sl} {b : Addr} (z : Mm Θ (fun b => b = a) σ sl b) : Mm (Θ.ext a o h) XO σ sl b := z.elim .inl fun z => z.elim (fun z => .inr (.inl z)) fun z => .inr (.inr (xx_out z))
theorem le_in {sl : List Sl} : Le (cut (Mm Θ (fun b => b = a) σ sl) H) (cut (Mm (Θ.ext a o h) XO σ sl) H) := le_mono fun _ z => mm_in z
theorem le_out {sl : List Sl} : Le (cut (Mm (Θ.ext a o h) XO σ sl) H) (cut (Mm Θ (fun b => b = a) σ sl) H) := le_mono fun _ z => mm_out z
theorem ERepX.toExt (E : ERepX Θ (fun b => b = a) σ H e) (ha : H a = some o) (hu : unT o = o := by rfl) : ERep (Θ.ext a o h) σ H e := by
  refine ⟨E.ls, E.kept, E.len, fun i d q => ?_, fun i d q => ?_, E.inj, fun b u z => ?_⟩
  · obtain ⟨v, h1, h2⟩ := E.sh i d q
    exact ⟨v, h1, h2.le le_in⟩
  · obtain ⟨c, h1, h2, h3, h4⟩ := E.ow i d q
    exact ⟨c, h1, h2, fun z => h3 (xx_in z), h4.mono le_in fun o q => q⟩
  · by_cases c : b = a
    · have z' : upd Θ.fx a (unT o) b = some u := z
      rw [c, upd_same, hu] at z'
      rw [c, ← z']; exact ha
    · have z' : upd Θ.fx a (unT o) b = some u := z
      rw [upd_ne c] at z'
      exact E.fxs b u z'
theorem ERepX.ofExt (E : ERep (Θ.ext a o h) σ H e) (hf : Θ.fx a = none) : ERepX Θ (fun b => b = a) σ H e := by
  refine ⟨E.ls, E.kept, E.len, fun i d q => ?_, fun i d q => ?_, E.inj, fun b u z => ?_⟩
  · obtain ⟨v, h1, h2⟩ := E.sh i d q
    exact ⟨v, h1, h2.le le_out⟩
  · obtain ⟨c, h1, h2, h3, h4⟩ := E.ow i d q
    exact ⟨c, h1, h2, fun z => h3 (xx_out z), h4.mono le_out fun o q => q⟩
  · have c : b ≠ a := fun c => by rw [c, hf] at z; cases z
    exact E.fxs b u ((upd_ne c).trans z)
theorem ERepX.updX (E : ERepX Θ (fun b => b = a) σ H e) (h : Θ.H0 a = none) (hf : Θ.fx a = none) (hna : ∀ u, H a = some u → ¬ isCd a u) : ERepX Θ (fun b => b = a) σ (upd H a o') e ∧ Le (cut (Mm Θ (fun b => b = a) σ e.sl) H) (cut (Mm Θ (fun b => b = a) σ e.sl) (upd H a o')) := by
  have ne : ∀ b, ¬ Mm Θ (fun b => b = a) σ e.sl b → b ≠ a := fun b z c => z (.inr (.inr (.inl c)))
  have le : Le (cut (Mm Θ (fun b => b = a) σ e.sl) H) (cut (Mm Θ (fun b => b = a) σ e.sl) (upd H a o')) := le_cut fun b u n z => ⟨n, (upd_ne (ne b n)).trans z⟩
  refine ⟨⟨E.ls.same fun b u q z => (upd_ne fun c => q.elim (fun q => Θ.new3 h (by rw [← c]; exact q)) fun q => hna u (by rw [← c]; exact z) (by rw [← c]; exact q)).trans z, fun b u n z => ?_, E.len, fun i d q => ?_, fun i d q => ?_, E.inj, fun b u z => ?_⟩, le⟩
  · have c : b ≠ a := fun c => by rw [c, h] at z; cases z
    rw [upd_ne c]
    exact E.kept b u n z
  · obtain ⟨v, h1, h2⟩ := E.sh i d q
    exact ⟨v, h1, h2.le le⟩
  · obtain ⟨c, h1, h2, h3, h4⟩ := E.ow i d q
    exact ⟨c, h1, h2, h3, h4.mono le fun o q => (upd_ne fun c => h3 (.inl c)).trans q⟩
  · have c : b ≠ a := fun c => by rw [c, hf] at z; cases z
    exact (upd_ne c).trans (E.fxs b u z)
theorem ERepX.reExt (E : ERep (Θ.ext a o h) σ H e) (hf : Θ.fx a = none) (hu : unT o' = o' := by rfl) (hna : ∀ q, unT o ≠ LamX.CodeO a q := by intro q z; cases z) : ERep (Θ.ext a o' h) σ (upd H a o') e ∧ Le (cut (Mm (Θ.ext a o h) XO σ e.sl) H) (cut (Mm (Θ.ext a o' h) XO σ e.sl) (upd H a o')) := by
  obtain ⟨x, y⟩ := (ERepX.ofExt E hf).updX (o' := o') h hf fun u hu ⟨q, hq⟩ => hna q (by
    have z : H a = some (unT o) := E.fxs a _ upd_same
    rw [hu] at z
    exact (Option.some.inj z).symm.trans hq)
  exact ⟨x.toExt upd_same hu, (le_out.trans y).trans le_in⟩
end
theorem getS_set' : ∀ {l : List Sl} {i j : Nat} {x : Sl}, getS (setS l i x) j = if j = i ∧ i < l.length then x else getS l j
  | [], i, j, x => by rw [if_neg (fun z => Nat.not_lt_zero _ z.2)]; rfl
  | s :: r, 0, 0, x => by rw [if_pos ⟨rfl, Nat.succ_pos _⟩]; rfl
  | s :: r, 0, j + 1, x => by rw [if_neg (fun z => nomatch z.1)]; rfl
  | s :: r, i + 1, 0, x => by rw [if_neg (fun z => nomatch z.1)]; rfl
  | s :: r, i + 1, j + 1, x => by
    show getS (setS r i x) j = _
    rw [getS_set']
    by_cases c : j = i ∧ i < r.length
    · rw [if_pos c, if_pos ⟨by rw [c.1], Nat.succ_lt_succ c.2⟩]
    · rw [if_neg c, if_neg fun z => c ⟨Nat.succ.inj z.1, Nat.lt_of_succ_lt_succ z.2⟩]; rfl
theorem getS_far : ∀ {l : List Sl} {i : Nat}, ¬ i < l.length → getS l i = none
  | [], _, _ => rfl
  | s :: r, 0, h => absurd (Nat.succ_pos _) h
  | s :: r, i + 1, h => getS_far (l := r) fun z => h (Nat.succ_lt_succ z)
def wipeS (sl : List Sl) : List Nat → List Sl
  | [] => sl
  | v :: vs => setS (wipeS sl vs) v none
def backS (s0 sl : List Sl) : List Nat → List Sl
  | [] => sl
  | v :: vs => setS (backS s0 sl vs) v (getS s0 v)
theorem wipeS_len {sl : List Sl} : ∀ {vs : List Nat}, (wipeS sl vs).length = sl.length
  | [] => rfl
  | v :: vs => setS_len.trans wipeS_len
theorem backS_len {s0 sl : List Sl} : ∀ {vs : List Nat}, (backS s0 sl vs).length = sl.length
  | [] => rfl
  | v :: vs => setS_len.trans backS_len
theorem wipeS_in {sl : List Sl} {i : Nat} : ∀ {vs : List Nat}, i ∈ vs → getS (wipeS sl vs) i = none
  | v :: vs, h => by
    show getS (setS (wipeS sl vs) v none) i = none
    rw [getS_set']
    by_cases c : i = v ∧ v < (wipeS sl vs).length
    · rw [if_pos c]
    · rw [if_neg c]
      rcases List.mem_cons.mp h with e | m
      · exact getS_far fun z => c ⟨e, by rw [← e]; exact z⟩
      · exact wipeS_in m
theorem wipeS_out {sl : List Sl} {i : Nat} : ∀ {vs : List Nat}, i ∉ vs → getS (wipeS sl vs) i = getS sl i
  | [], _ => rfl
  | v :: vs, h => by
    show getS (setS (wipeS sl vs) v none) i = _
    rw [getS_set', if_neg fun c => h (by rw [c.1]; exact List.mem_cons_self), wipeS_out fun m => h (List.mem_cons_of_mem _ m)]
theorem backS_in {s0 sl : List Sl} {i : Nat} (hl : s0.length = sl.length) : ∀ {vs : List Nat}, i ∈ vs → getS (backS s0 sl vs) i = getS s0 i
  | v :: vs, h => by
    show getS (setS (backS s0 sl vs) v (getS s0 v)) i = _
    rw [getS_set']
    by_cases c : i = v ∧ v < (backS s0 sl vs).length
    · rw [if_pos c, c.1]
    · rw [if_neg c]
      rcases List.mem_cons.mp h with e | m
      · have f : ¬ i < (backS s0 sl vs).length := fun z => c ⟨e, by rw [← e]; exact z⟩
        rw [getS_far f, getS_far (by rw [hl]; rw [backS_len] at f; exact f)]
      · exact backS_in hl m
theorem backS_out {s0 sl : List Sl} {i : Nat} : ∀ {vs : List Nat}, i ∉ vs → getS (backS s0 sl vs) i = getS sl i
  | [], _ => rfl
  | v :: vs, h => by
    show getS (setS (backS s0 sl vs) v (getS s0 v)) i = _
    rw [getS_set', if_neg fun c => h (by rw [c.1]; exact List.mem_cons_self), backS_out fun m => h (List.mem_cons_of_mem _ m)]
def wipeE (e : Env) (vs : List Nat) : Env := ⟨wipeS e.sl vs, e.n⟩
def backE (vs : List Nat) (e0 e : Env) : Env := ⟨backS e0.sl e.sl vs, e.n⟩
def NoOwn (vs : List Nat) (e : Env) : Prop := ∀ i, i ∈ vs → ∀ d, getS e.sl i ≠ some (d, true)
theorem wipe_in {σ : L2.St} {i : Nat} : ∀ {vs : List Nat}, i ∈ vs → i < σ.length → (wipe σ vs)[i]? = some none
  | v :: vs, h, hl => by
    unfold wipe
    by_cases c : v = i
    · rw [c, List.getElem?_set_self (by rw [wipe_length]; exact hl)]
    · rw [List.getElem?_set_ne c]
      exact wipe_in ((List.mem_cons.mp h).resolve_left fun z => c z.symm) hl
theorem wipe_eq {σ σ2 : L2.St} {vs S : List Nat} (o : Out S (wipe σ vs) σ2) (hs : ∀ i, i ∈ S → i ∈ vs) : wipe σ2 vs = wipe σ vs := by
  have hl : σ2.length = σ.length := o.1.trans (wipe_length σ vs)
  apply List.ext_getElem?
  intro i
  by_cases c : i ∈ vs
  · by_cases l : i < σ.length
    · rw [wipe_in c (by rw [hl]; exact l), wipe_in c l]
    · rw [List.getElem?_eq_none (by rw [wipe_length]; omega), List.getElem?_eq_none (by rw [wipe_length]; omega)]
  · rw [wipe_out c]
    exact o.2 i fun m => c (hs i m)
section
variable {Θ : Th} {σ σ2 : L2.St} {H : Hp} {e e0 : Env} {vs : List Nat}
theorem ERepX.wipe (E : ERep Θ σ H e) : ERep Θ (L2.wipe σ vs) H (wipeE e vs) ∧ Le (cut (Mm Θ XO σ e.sl) H) (cut (Mm Θ XO (L2.wipe σ vs) (wipeE e vs).sl) H) := by
  have out : ∀ i x, getS (wipeS e.sl vs) i = some x → i ∉ vs ∧ getS e.sl i = some x := fun i x q => by
    by_cases c : i ∈ vs
    · rw [wipeS_in c] at q; cases q
    · rw [wipeS_out c] at q; exact ⟨c, q⟩
  have own : ∀ b, owns (L2.wipe σ vs) (wipeS e.sl vs) b → owns σ e.sl b := fun b ⟨i, d, q1, q2⟩ => by
    obtain ⟨c, q⟩ := out i _ q1
    rw [wipe_out c] at q2
    exact ⟨i, d, q, q2⟩
  have le : Le (cut (Mm Θ XO σ e.sl) H) (cut (Mm Θ XO (L2.wipe σ vs) (wipeS e.sl vs)) H) := le_mono fun b z => z.elim .inl fun z => z.elim (fun z => .inr (.inl (own b z))) fun z => .inr (.inr z)
  refine ⟨⟨E.ls, E.kept, by rw [wipe_length]; exact E.len.trans wipeS_len.symm, fun i d q => ?_, fun i d q => ?_, fun i j d d' b q1 q2 q3 q4 => ?_, E.fxs⟩, le⟩
  · obtain ⟨c, q⟩ := out i _ q
    obtain ⟨v, h1, h2⟩ := E.sh i d q
    exact ⟨v, by rw [wipe_out c]; exact h1, h2.le le⟩
  · obtain ⟨c, q⟩ := out i _ q
    obtain ⟨b, h1, h2, h3, h4⟩ := E.ow i d q
    exact ⟨b, by rw [wipe_out c]; exact h1, h2, h3, h4.mono le fun o q => q⟩
  · obtain ⟨c1, q1⟩ := out i _ q1
    obtain ⟨c2, q2⟩ := out j _ q2
    rw [wipe_out c1] at q3
    rw [wipe_out c2] at q4
    exact E.inj i j d d' b q1 q2 q3 q4
theorem ERepX.unwipe (E : ERep Θ σ2 H e) (no : NoOwn vs e0) (l0 : e0.sl.length = σ.length) (w : L2.wipe σ2 vs = L2.wipe σ vs)
    (sh : ∀ i d, i ∈ vs → getS e0.sl i = some (d, false) → ∃ v, σ[i]? = some (some v) ∧ Rp Θ.C (cut (Mm Θ XO σ2 e.sl) H) v d) : ERep Θ σ H (backE vs e0 e) ∧ Le (cut (Mm Θ XO σ2 e.sl) H) (cut (Mm Θ XO σ (backE vs e0 e).sl) H) := by
  have hl : σ2.length = σ.length := by rw [← wipe_length σ2 vs, w, wipe_length]
  have l1 : e0.sl.length = e.sl.length := by rw [l0, ← hl, E.len]
  have same : ∀ i, i ∉ vs → σ2[i]? = σ[i]? := fun i c => by rw [← wipe_out (σ := σ2) c, w, wipe_out c]
  have out : ∀ i d, getS (backS e0.sl e.sl vs) i = some (d, true) → i ∉ vs ∧ getS e.sl i = some (d, true) := fun i d q => by
    by_cases c : i ∈ vs
    · rw [backS_in l1 c] at q; exact (no i c d q).elim
    · rw [backS_out c] at q; exact ⟨c, q⟩
  have own : ∀ b, owns σ (backS e0.sl e.sl vs) b → owns σ2 e.sl b := fun b ⟨i, d, q1, q2⟩ => by
    obtain ⟨c, q⟩ := out i d q1
    exact ⟨i, d, q, by rw [same i c]; exact q2⟩
  have le : Le (cut (Mm Θ XO σ2 e.sl) H) (cut (Mm Θ XO σ (backS e0.sl e.sl vs)) H) := le_mono fun b z => z.elim .inl fun z => z.elim (fun z => .inr (.inl (own b z))) fun z => .inr (.inr z)
  refine ⟨⟨E.ls, E.kept, ?_, fun i d q => ?_, fun i d q => ?_, fun i j d d' b q1 q2 q3 q4 => ?_, E.fxs⟩, le⟩
  · show σ.length = (backS e0.sl e.sl vs).length
    rw [backS_len, ← l1, l0]
  · have q' : getS (backS e0.sl e.sl vs) i = some (d, false) := q
    by_cases c : i ∈ vs
    · rw [backS_in l1 c] at q'
      obtain ⟨v, h1, h2⟩ := sh i d c q'
      exact ⟨v, h1, h2.le le⟩
    · rw [backS_out c] at q'
      obtain ⟨v, h1, h2⟩ := E.sh i d q'
      exact ⟨v, by rw [← same i c]; exact h1, h2.le le⟩
  · obtain ⟨c, q⟩ := out i d q
    obtain ⟨b, h1, h2, h3, h4⟩ := E.ow i d q
    exact ⟨b, by rw [← same i c]; exact h1, h2, h3, h4.mono le fun o q => q⟩
  · obtain ⟨c1, q1⟩ := out i d q1
    obtain ⟨c2, q2⟩ := out j d' q2
    rw [← same i c1] at q3
    rw [← same j c2] at q4
    exact E.inj i j d d' b q1 q2 q3 q4
end
def gtYes : GT := fun e Q => Q true e
def gLcI (vs : List Nat) (t : GG) (c : GT) (g : GE) (ds : List D) (e1 : Env) (Q : D → Bool → Env → Prop) : Prop := NoOwn vs e1 ∧ ds.length ≤ 1000000 ∧ ∃ P : Nat → List D → Env → Prop, P 0 [] e1 ∧
  (∀ i d acc e2, ds[i]? = some d → P i acc e2 → t d (wipeE e2 vs) fun e3 => c e3 fun b e4 => (b = true → g e4 fun y _ e5 => P (i + 1) (acc ++ [y]) (backE vs e2 e5)) ∧ (b = false → P (i + 1) acc (backE vs e2 e4))) ∧
  ∀ acc e2, P ds.length acc e2 → Q (.lst acc) true e2
def gLc (gi : GI) (vs : List Nat) (t : GG) (c : GT) (g : GE) : GE := fun e Q => gi e fun ds e1 => gLcI vs t c g ds e1 Q
section
variable {Θ : Th} {X : Cx} {pos : Pos}
/-- what the turns keep -/
structure LcW (Θ : Th) (σ : L2.St) (H1 : Hp) (e1 : Env) (vs : List Nat) (P : Nat → List D → Env → Prop) (n : Nat) (A : Addr) (h0 : Θ.H0 A = none) (i m : Nat) (H : Hp) (us : List V) (acc : List D) (e2 : Env) : Prop where
  hm : m = n - i
  hi : i ≤ n
  E : ERep (Θ.ext A (.lst us) h0) σ H e2
  p : P i acc e2
  l : acc.length ≤ i
  r : RpA Θ.C (cut (Mm (Θ.ext A (.lst us) h0) XO σ e2.sl) H) us acc
  le : Le (cut (Mm Θ XO σ e1.sl) H1) (cut (Mm (Θ.ext A (.lst us) h0) XO σ e2.sl) H)
  no : NoOwn vs e2
theorem back_no {vs : List Nat} {e0 e : Env} (hl : e0.sl.length = e.sl.length) (no : NoOwn vs e0) : NoOwn vs (backE vs e0 e) := fun i hi d q => no i hi d (by rw [← backS_in hl hi]; exact q)
theorem lc_go {gi : GI} {vs S : List Nat} {t : GG} {c : GT} {g : GE} (hs : ∀ i, i ∈ S → i ∈ vs) {wi : TI} {gg : TG} {tt : TT} {te : TE}
    {σ : L2.St} {H : Hp} (hi : ∀ R, tOfI Θ gi σ H R → wi σ H R) (hg : ∀ a o h v σ H Q, tOfG (Θ.ext a o h) S t v σ H Q → gg v σ H Q) (ht : ∀ a o h σ H Q, tOfT (Θ.ext a o h) c σ H Q → tt σ H Q) (he : ∀ a o h σ H Q, tOf (Θ.ext a o h) g σ H Q → te σ H Q)
    {Q : VK} (hh : tOf Θ (gLc gi vs t c g) σ H Q) : tLc wi gg tt te vs σ H Q := by
  obtain ⟨e, Qp, E, hh, k⟩ := hh
  refine hi _ ⟨e, _, E, hh, fun J H1 e1 ds l1 E1 wk ⟨no, hlen, P, p0, ps, pe⟩ A hA => ?_⟩
  have hn := E1.new0 hA
  refine ⟨fun i m H' => ∃ us acc e2, LcW Θ σ H1 e1 vs P ds.length A hn.1 i m H' us acc e2, ⟨_, [], [], e1, rfl, Nat.zero_le _, ?_, p0, Nat.le_refl _, .nil, ?_, no⟩, ?_⟩
  · exact (E1.alloc hA).1.toExt upd_same
  · exact (E1.alloc hA).2.trans le_in
  rintro i m H' ⟨us, acc, e2, w⟩
  obtain ⟨rfl, hi', E2, p, hl, r, le, no2⟩ := w
  have hD : H' A = some (.lst us) := E2.fxs A _ upd_same
  by_cases cc : i < ds.length
  · obtain ⟨d, hd⟩ : ∃ d, ds[i]? = some d := ⟨ds[i], List.getElem?_eq_getElem cc⟩
    obtain ⟨g1, g2⟩ := wk.go (Θ.ext A (.lst us) hn.1) i d σ H' e2 ⟨rfl, rfl, rfl, rfl⟩ hd E2 le
    refine .inr ⟨g1, fun H2 => ∃ us acc e3, LcW Θ σ H1 e1 vs P ds.length A hn.1 (i + 1) (ds.length - (i + 1)) H2 us acc e3, fun H2 h2 => ⟨ds.length - (i + 1), by omega, h2⟩, fun x H2 hy => ?_⟩
    obtain ⟨E3, l3, r3⟩ := g2 x H2 hy
    obtain ⟨E4, l4⟩ := ERepX.wipe (vs := vs) E3
    have len2 : e2.sl.length = σ.length := E2.len.symm
    refine hg A (.lst us) hn.1 x _ H2 _ ⟨d, _, _, E4, r3.le l4, ps i d acc e2 hd p, fun σ5 H5 e5 l5 E5 o5 h5 => ⟨wipe_eq o5 hs, ht A (.lst us) hn.1 σ5 H5 _ ⟨e5, _, E5, h5, fun b H6 e6 l6 E6 h6 => ?_⟩⟩⟩
    have w5 := wipe_eq o5 hs
    have l36 := ((l3.trans l4).trans l5).trans l6
    have len6 : e2.sl.length = e6.sl.length := by
      rw [len2, ← E6.len, o5.1, wipe_length]
    have back : ∀ {H7 : Hp} {e7 : Env}, ERep (Θ.ext A (.lst us) hn.1) σ5 H7 e7 → Le (cut (Mm (Θ.ext A (.lst us) hn.1) XO σ5 e6.sl) H6) (cut (Mm (Θ.ext A (.lst us) hn.1) XO σ5 e7.sl) H7) → ERep (Θ.ext A (.lst us) hn.1) σ H7 (backE vs e2 e7) ∧ Le (cut (Mm (Θ.ext A (.lst us) hn.1) XO σ5 e7.sl) H7) (cut (Mm (Θ.ext A (.lst us) hn.1) XO σ (backE vs e2 e7).sl) H7) := fun {H7 e7} E7 l7 =>
      ERepX.unwipe E7 no2 len2 w5 fun j dj hj q => by
        obtain ⟨v, v1, v2⟩ := E2.sh j dj q
        exact ⟨v, v1, v2.le (l36.trans l7)⟩
    cases b with
    | true =>
      refine iteT (he A (.lst us) hn.1 σ5 H6 _ ⟨e6, _, E6, h6.1 rfl, fun y dy fr H7 e7 r7 h7 => ?_⟩)
      have E7 := r7.er
      have l7 := r7.le
      obtain ⟨E8, l8⟩ := back E7 l7
      have len7 : e2.sl.length = e7.sl.length := by rw [len2, ← E7.len, o5.1, wipe_length]
      refine ⟨us, E7.fxs A _ upd_same, by rw [r.len]; exact mil' (by omega), us ++ [y], acc ++ [dy], backE vs e2 e7, ?_⟩
      obtain ⟨E9, l9⟩ := ERepX.reExt (o' := .lst (us ++ [y])) E8 hn.2
      exact ⟨rfl, cc, E9, h7, by rw [List.length_append]; exact Nat.succ_le_succ hl, (r.le (((l36.trans l7).trans l8).trans l9)).snoc (r7.rp.le (l8.trans l9)), le.trans (((l36.trans l7).trans l8).trans l9), back_no len7 no2⟩
    | false =>
      refine iteF ?_
      obtain ⟨E8, l8⟩ := back E6 (Le.refl _)
      exact ⟨us, acc, _, rfl, cc, E8, h6.2 rfl, Nat.le_succ_of_le hl, r.le (l36.trans l8), le.trans (l36.trans l8), back_no len6 no2⟩
  · have hi2 : i = ds.length := by omega
    subst hi2
    refine .inl ⟨wk.stop (Θ.ext A (.lst us) hn.1) σ H' e2 ⟨rfl, rfl, rfl, rfl⟩ E2 le, k (.ref A) (.lst acc) true H' e2 ⟨A, rfl, hn, l1.trans (le.trans le_out), ERepX.ofExt E2 hn.2, .lst hD (r.le le_out)⟩ (pe acc e2 p)⟩
theorem q_lcT {elt tg iter : Expr} {ifs : List Expr} {scope : Scope} {own : List (Str × Nat)} {S : List Nat} {gi : GI} {t : GG} {c : GT} {g : GE} {tt : TT} (hc : X.calm = true) (hN : X.N.Nodup) (hi : PI X tg iter (tOfI Θ gi)) (ok : BlkOk X.N X.env.scope scope own) (hs : ∀ i, i ∈ S → i ∈ own.map (·.2))
    (hg : ∀ a o h (s : Shared) (H : Hp) (C : Addr) (cl : List (Str × Addr)) (fp : List Addr), PG (X.blk s H scope (compEnvC scope cl C X.env) fp) tg (tOfG (Θ.ext a o h) S t))
    (ht : ∀ (s : Shared) (H : Hp) (C : Addr) (cl : List (Str × Addr)) (fp : List Addr), PTs (X.blk s H scope (compEnvC scope cl C X.env) fp) ifs tt) (htt : ∀ a o h σ H Q, tOfT (Θ.ext a o h) c σ H Q → tt σ H Q)
    (he : ∀ a o h (s : Shared) (H : Hp) (C : Addr) (cl : List (Str × Addr)) (fp : List Addr), PE (X.blk s H scope (compEnvC scope cl C X.env) fp) elt (tOf (Θ.ext a o h) g)) (hsf : ∀ x, foldedSetIterable iter X.env x = pure x := by intro _; rfl) :
    PE X (.ListComp elt [⟨tg, iter, ifs, 0⟩] scope pos) (tOf Θ (gLc gi (own.map (·.2)) t c g)) := by
  refine pe_conv (pe_lc (g := fun v σ H Q => ∃ a o h, tOfG (Θ.ext a o h) S t v σ H Q) (te := fun σ H Q => ∃ a o h, tOf (Θ.ext a o h) g σ H Q) hc hN hi ok (fun s H C cl fp => ?_) ht (fun s H C cl fp => ?_) hsf) fun σ H Q h => lc_go hs (fun _ h => h) (fun a o h v σ H Q q => ⟨a, o, h, q⟩) htt (fun a o h σ H Q q => ⟨a, o, h, q⟩) h
  · exact ⟨fun pins s' σ H' v u Q I r ⟨a, o, h, q⟩ => (hg a o h s H C cl fp).run pins s' σ H' v u Q I r q⟩
  · exact ⟨fun pins s' σ H' Q I ⟨a, o, h, q⟩ => (he a o h s H C cl fp).run pins s' σ H' Q I q⟩
/-- [elt for tg in iter] -/
theorem q_lc {elt tg iter : Expr} {scope : Scope} (own : List (Str × Nat)) {S : List Nat} {gi : GI} {t : GG} {g : GE} (hc : X.calm = true) (hN : X.N.Nodup) (ok : BlkOk X.N X.env.scope scope own) (hi : PI X tg iter (tOfI Θ gi))
    (hg : ∀ a o h (s : Shared) (H : Hp) (C : Addr) (cl : List (Str × Addr)) (fp : List Addr), PG (X.blk s H scope (compEnvC scope cl C X.env) fp) tg (tOfG (Θ.ext a o h) S t))
    (he : ∀ a o h (s : Shared) (H : Hp) (C : Addr) (cl : List (Str × Addr)) (fp : List Addr), PE (X.blk s H scope (compEnvC scope cl C X.env) fp) elt (tOf (Θ.ext a o h) g)) (hs : ∀ i, i ∈ S → i ∈ own.map (·.2) := by decide) (hsf : ∀ x, foldedSetIterable iter X.env x = pure x := by intro _; rfl) :
    PE X (.ListComp elt [⟨tg, iter, [], 0⟩] scope pos) (tOf Θ (gLc gi (own.map (·.2)) t gtYes g)) :=
  q_lcT hc hN hi ok hs hg (fun s H C cl fp => pts_nil) (fun a o h σ H Q ⟨e, Qp, E, q, k⟩ => k _ _ _ (Le.refl _) E q) he hsf
/-- name = [..] on one line -/
theorem q_setLcT {i : Nat} {y : Str} {py spos : Pos} {elt tg iter : Expr} {ifs : List Expr} {scope : Scope} {own : List (Str × Nat)} {S : List Nat} {gi : GI} {t : GG} {c : GT} {g : GE} {tt : TT} (hc : X.calm = true) (hN : X.N.Nodup) (hy : X.N[i]? = some y) (hyl : X.env.scope.names.lookup y = some .local)
    (hsw : swapsWith (.ListComp elt [⟨tg, iter, ifs, 0⟩] scope pos) (some (.Name y py)) spos.line X.env = pure true) (hi : PI X tg iter (tOfI Θ gi)) (ok : BlkOk X.N X.env.scope scope own) (hs : ∀ i, i ∈ S → i ∈ own.map (·.2))
    (hg : ∀ a o h (s : Shared) (H : Hp) (C : Addr) (cl : List (Str × Addr)) (fp : List Addr), PG (X.blk s H scope (compEnvC scope cl C X.env) fp) tg (tOfG (Θ.ext a o h) S t))
    (ht : ∀ (s : Shared) (H : Hp) (C : Addr) (cl : List (Str × Addr)) (fp : List Addr), PTs (X.blk s H scope (compEnvC scope cl C X.env) fp) ifs tt) (htt : ∀ a o h σ H Q, tOfT (Θ.ext a o h) c σ H Q → tt σ H Q)
    (he : ∀ a o h (s : Shared) (H : Hp) (C : Addr) (cl : List (Str × Addr)) (fp : List Addr), PE (X.blk s H scope (compEnvC scope cl C X.env) fp) elt (tOf (Θ.ext a o h) g)) (hsf : ∀ x, foldedSetIterable iter X.env x = pure x := by intro _; rfl) :
    PS X (.Assign [.Name y py] (.ListComp elt [⟨tg, iter, ifs, 0⟩] scope pos) spos) (tOfS Θ (gSet i (gLc gi (own.map (·.2)) t c g))) := by
  refine ps_conv (ps_setLc (g := fun v σ H Q => ∃ a o h, tOfG (Θ.ext a o h) S t v σ H Q) (te := fun σ H Q => ∃ a o h, tOf (Θ.ext a o h) g σ H Q) hc hN hy hyl hsw hi ok (fun s H C cl fp => ?_) ht (fun s H C cl fp => ?_) hsf) fun Dn σ H ⟨e, De, E, h, m⟩ => ?_
  · exact ⟨fun pins s' σ H' v u Q I r ⟨a, o, h, q⟩ => (hg a o h s H C cl fp).run pins s' σ H' v u Q I r q⟩
  · exact ⟨fun pins s' σ H' Q I ⟨a, o, h, q⟩ => (he a o h s H C cl fp).run pins s' σ H' Q I q⟩
  · refine lc_go hs (fun _ h => h) (fun a o h v σ H Q q => ⟨a, o, h, q⟩) htt (fun a o h σ H Q q => ⟨a, o, h, q⟩) ⟨e, _, E, h, fun v d fr H1 e1 r h1 => ?_⟩
    obtain ⟨E', le⟩ := store_go (i := i) r
    exact m.nx _ _ _ le E' h1
theorem q_setLc {i : Nat} {y : Str} {py spos : Pos} {elt tg iter : Expr} {scope : Scope} (own : List (Str × Nat)) {S : List Nat} {gi : GI} {t : GG} {g : GE} (hc : X.calm = true) (hN : X.N.Nodup) (hy : X.N[i]? = some y) (ok : BlkOk X.N X.env.scope scope own) (hi : PI X tg iter (tOfI Θ gi))
    (hg : ∀ a o h (s : Shared) (H : Hp) (C : Addr) (cl : List (Str × Addr)) (fp : List Addr), PG (X.blk s H scope (compEnvC scope cl C X.env) fp) tg (tOfG (Θ.ext a o h) S t))
    (he : ∀ a o h (s : Shared) (H : Hp) (C : Addr) (cl : List (Str × Addr)) (fp : List Addr), PE (X.blk s H scope (compEnvC scope cl C X.env) fp) elt (tOf (Θ.ext a o h) g)) (hyl : X.env.scope.names.lookup y = some .local := by rfl) (hsw : swapsWith (.ListComp elt [⟨tg, iter, [], 0⟩] scope pos) (some (.Name y py)) spos.line X.env = pure true := by rfl) (hs : ∀ i, i ∈ S → i ∈ own.map (·.2) := by decide) (hsf : ∀ x, foldedSetIterable iter X.env x = pure x := by intro _; rfl) :
    PS X (.Assign [.Name y py] (.ListComp elt [⟨tg, iter, [], 0⟩] scope pos) spos) (tOfS Θ (gSet i (gLc gi (own.map (·.2)) t gtYes g))) :=
  q_setLcT hc hN hy hyl hsw hi ok hs hg (fun s H C cl fp => pts_nil) (fun a o h σ H Q ⟨e, Qp, E, q, k⟩ => k _ _ _ (Le.refl _) E q) he hsf
theorem q_setLcIf {i : Nat} {y : Str} {py spos : Pos} {elt tg iter cd : Expr} {scope : Scope} (own : List (Str × Nat)) {S : List Nat} {gi : GI} {t : GG} {c : GT} {g : GE} (hc : X.calm = true) (hN : X.N.Nodup) (hy : X.N[i]? = some y) (ok : BlkOk X.N X.env.scope scope own) (hi : PI X tg iter (tOfI Θ gi))
    (hg : ∀ a o h (s : Shared) (H : Hp) (C : Addr) (cl : List (Str × Addr)) (fp : List Addr), PG (X.blk s H scope (compEnvC scope cl C X.env) fp) tg (tOfG (Θ.ext a o h) S t))
    (ht : ∀ a o h (s : Shared) (H : Hp) (C : Addr) (cl : List (Str × Addr)) (fp : List Addr), PT (X.blk s H scope (compEnvC scope cl C X.env) fp) cd (tOfT (Θ.ext a o h) c))
    (he : ∀ a o h (s : Shared) (H : Hp) (C : Addr) (cl : List (Str × Addr)) (fp : List Addr), PE (X.blk s H scope (compEnvC scope cl C X.env) fp) elt (tOf (Θ.ext a o h) g)) (hyl : X.env.scope.names.lookup y = some .local := by rfl) (hsw : swapsWith (.ListComp elt [⟨tg, iter, [cd], 0⟩] scope pos) (some (.Name y py)) spos.line X.env = pure true := by rfl) (hs : ∀ i, i ∈ S → i ∈ own.map (·.2) := by decide) (hsf : ∀ x, foldedSetIterable iter X.env x = pure x := by intro _; rfl) :
    PS X (.Assign [.Name y py] (.ListComp elt [⟨tg, iter, [cd], 0⟩] scope pos) spos) (tOfS Θ (gSet i (gLc gi (own.map (·.2)) t c g))) :=
  q_setLcT (tt := fun σ H Q => ∃ a o h, tOfT (Θ.ext a o h) c σ H Q) hc hN hy hyl hsw hi ok hs hg (fun s H C cl fp => pts_one ⟨fun pins s' σ H' Q I ⟨a, o, h, q⟩ => (ht a o h s H C cl fp).run pins s' σ H' Q I q⟩) (fun a o h σ H Q q => ⟨a, o, h, q⟩) he hsf
/-- where nothing else changes: the items are chosen and mapped -/
theorem lc_map {vs : List Nat} {t : GG} {c : GT} {g : GE} {e1 : Env} {ds : List D} {Q : D → Bool → Env → Prop} (keep : D → Bool) (f : D → D) (no : NoOwn vs e1) (hl : ds.length ≤ 1000000)
    (hb : ∀ d ∈ ds, ∀ (K : D → Bool → Env → Prop) (K' : Env → Prop), (keep d = true → ∀ fr e5, backE vs e1 e5 = e1 → K (f d) fr e5) → (keep d = false → ∀ e4, backE vs e1 e4 = e1 → K' e4) → t d (wipeE e1 vs) fun e3 => c e3 fun b e4 => (b = true → g e4 K) ∧ (b = false → K' e4))
    (hq : Q (.lst ((ds.filter keep).map f)) true e1) : gLcI vs t c g ds e1 Q := by
  refine ⟨no, hl, fun i acc e2 => acc = ((ds.take i).filter keep).map f ∧ e2 = e1, ⟨by rw [List.take_zero]; rfl, rfl⟩, fun i d acc e2 hd ⟨ha, he⟩ => ?_, fun acc e2 ⟨ha, he⟩ => ?_⟩
  · subst ha; subst he
    have ht : ds.take (i + 1) = ds.take i ++ [d] := by rw [List.take_add_one, hd]; rfl
    refine hb d (List.mem_of_getElem? hd) _ _ (fun hk fr e5 he => ⟨?_, he⟩) (fun hk e4 he => ⟨?_, he⟩)
    · rw [ht, List.filter_append, List.map_append, show [d].filter keep = [d] by rw [List.filter_cons, if_pos hk]; rfl]; rfl
    · rw [ht, List.filter_append, List.map_append, show [d].filter keep = [] by rw [List.filter_cons, if_neg (by rw [hk]; exact Bool.noConfusion)]; rfl]; rw [List.map_nil, List.append_nil]
  · rw [ha, he, List.take_length]; exact hq
/-- item by item -/
inductive All2 (R : D → D → Prop) : List D → List D → Prop
  | nil : All2 R [] []
  | cons {x y : D} {xs ys : List D} : R x y → All2 R xs ys → All2 R (x :: xs) (y :: ys)
theorem All2.snoc {R : D → D → Prop} : ∀ {xs ys : List D} {x y : D}, All2 R xs ys → R x y → All2 R (xs ++ [x]) (ys ++ [y])
  | _, _, _, _, .nil, h => .cons h .nil
  | _, _, _, _, .cons a b, h => .cons a (b.snoc h)
theorem All2.len {R : D → D → Prop} : ∀ {xs ys : List D}, All2 R xs ys → ys.length = xs.length
  | _, _, .nil => rfl
  | _, _, .cons _ b => congrArg Nat.succ b.len
theorem All2.right {R : D → D → Prop} {S : D → Prop} (h : ∀ x y, R x y → S y) : ∀ {xs ys : List D}, All2 R xs ys → ∀ y ∈ ys, S y
  | _, _, .cons a b, y, m => (List.mem_cons.mp m).elim (fun e => by rw [e]; exact h _ _ a) fun m => b.right h y m
/-- each item's value as it may be, k draws at most -/
theorem lc_all {vs : List Nat} {t : GG} {g : GE} {sl : List Sl} {n : Nat} {ds : List D} {Q : D → Bool → Env → Prop} (R : D → D → Prop) (k : Nat) (no : NoOwn vs ⟨sl, n⟩) (hl : ds.length ≤ 1000000)
    (hb : ∀ d ∈ ds, ∀ m, m ≤ n + ds.length * k → ∀ (K : D → Bool → Env → Prop) (K' : Env → Prop), (∀ y fr sl' m', R d y → m' ≤ m + k → backS sl sl' vs = sl → K y fr ⟨sl', m'⟩) → t d ⟨wipeS sl vs, m⟩ fun e3 => gtYes e3 fun b e4 => (b = true → g e4 K) ∧ (b = false → K' e4))
    (hq : ∀ us m, All2 R ds us → m ≤ n + ds.length * k → Q (.lst us) true ⟨sl, m⟩) : gLcI vs t gtYes g ds ⟨sl, n⟩ Q := by
  refine ⟨no, hl, fun i acc e2 => All2 R (ds.take i) acc ∧ ∃ m, m ≤ n + i * k ∧ e2 = ⟨sl, m⟩, ⟨by rw [List.take_zero]; exact .nil, n, by omega, rfl⟩, fun i d acc e2 hd ⟨ha, m, hm, he⟩ => ?_, fun acc e2 ⟨ha, m, hm, he⟩ => ?_⟩
  · subst he
    have ht : ds.take (i + 1) = ds.take i ++ [d] := by rw [List.take_add_one, hd]; rfl
    have hi : i + 1 ≤ ds.length := (List.getElem?_eq_some_iff.mp hd).1
    have h1 : i * k ≤ ds.length * k := Nat.mul_le_mul_right k (by omega)
    refine hb d (List.mem_of_getElem? hd) m (by omega) _ _ fun y fr sl' m' hr hm' hs => ⟨by rw [ht]; exact ha.snoc hr, m', by rw [Nat.succ_mul]; omega, ?_⟩
    show (⟨backS sl sl' vs, m'⟩ : Env) = _
    rw [hs]
  · rw [List.take_length] at ha
    rw [he]
    exact hq acc m ha hm
end
end L2.Q
set_option Elab.async false
set_option linter.all false
set_option maxRecDepth 100000
set_option maxHeartbeats 4000000
namespace L2.Q
open PySem PySem.Spec PyProof.Rows L2 L2.Wb RZ
abbrev LmF : Type := List D → List D → (D → List D → Prop) → Prop
/-- what a list's method does with data -/
def LMQ (X : Cx) (id : String) (f : LmF) : Prop := ∃ r, MtR X id r ∧ ∀ (C : Cn) (N : Addr → Prop) (H : Hp) (a : Addr) (us : List V) (ds : List D) (vs : List V) (as : List D) (k : D → List D → Prop) (Q : VK), C.K = X.K → H a = some (.lst us) → RpA C (cut N H) us ds → RpA C (cut N H) vs as → f ds as k →
  (∀ v d us' ds', Rp C (cut N H) v d → RpA C (cut N H) us' ds' → k d ds' → Q v (upd H a (.lst us'))) → r (.ref a) vs H Q
def gLm (i : Nat) (f : LmF) (ga : GA) : GE := fun e Q => match getS e.sl i with
  | some (.lst _, true) => ga e fun as e1 => match getS e1.sl i with
    | some (.lst ds, true) => f ds as fun d ds' => Q d false (e1.set i (.lst ds') true)
    | _ => False
  | _ => False
section
variable {Θ : Th} {X : Cx} {pos : Pos}
theorem lm_go {i : Nat} {f : LmF} {r : V → List V → Hp → VK → Prop} {σ : L2.St} {H1 : Hp} {e1 : Env} {ds : List D} {vs : List V} {as : List D} {Q : VK} {k : D → List D → Prop} {a : Addr} (hK : Θ.C.K = X.K) (hr : ∀ (C : Cn) (N : Addr → Prop) (H : Hp) (a : Addr) (us : List V) (ds : List D) (vs : List V) (as : List D) (k : D → List D → Prop) (Q : VK), C.K = X.K → H a = some (.lst us) → RpA C (cut N H) us ds → RpA C (cut N H) vs as → f ds as k →
  (∀ v d us' ds', Rp C (cut N H) v d → RpA C (cut N H) us' ds' → k d ds' → Q v (upd H a (.lst us'))) → r (.ref a) vs H Q) (E1 : ERep Θ σ H1 e1) (hs : getS e1.sl i = some (.lst ds, true)) (ha : σ[i]? = some (some (.ref a))) (rv : RpA Θ.C (cut (Mm Θ XO σ e1.sl) H1) vs as) (hf : f ds as k)
    (K : ∀ v d ds' H', Le (cut (Mm Θ XO σ e1.sl) H1) (cut (Mm Θ XO σ (e1.set i (.lst ds') true).sl) H') → ERep Θ σ H' (e1.set i (.lst ds') true) → Rp Θ.C (cut (Mm Θ XO σ (e1.set i (.lst ds') true).sl) H') v d → k d ds' → Q v H') : r (.ref a) vs H1 Q := by
  obtain ⟨a', h1, h2, h3, h4⟩ := E1.ow i _ hs
  rw [ha] at h1; cases h1
  cases h4 with
  | lst g1 g2 =>
    refine hr Θ.C _ H1 a _ ds vs as k Q hK g1 g2 rv hf fun v d us' ds' rd ru hk => ?_
    obtain ⟨E', le⟩ := E1.mut (d' := .lst ds') (o := .lst us') hs ha (.lst upd_same ru)
    exact K v d ds' _ le E' (rd.le le) hk
variable {x : Str} {p apos cpos : Pos} {name : Str} {id : String}
theorem q_lm (i : Nat) {f : LmF} {a : Expr} {es : List Expr} {ga : GA} (hm : LMQ X id f) (slot : Slot "list" name id) (hty : typeOf (.builtin id) = pure (.type "method_descriptor")) (ha : PA X (a :: es) (tOfA Θ ga)) (hK : Θ.C.K = X.K := by rfl)
    (hN : X.N[i]? = some x := by rfl) (hv : Vis X.env.scope x := by first | exact Or.inl rfl | exact Or.inr (Or.inl rfl) | exact Or.inr (Or.inr rfl)) (hd : (x == ("__debug__" : Str)) = false := by decide) (hcd : (x == ("__classdict__" : Str)) = false := by decide)
    (hbase : attributeBase (.Name x p) name X.env (eval (.Name x p) X.env) = eval (.Name x p) X.env := by rfl)
    (hfew : ((backTo cpos (starEach (a :: es) X.env)).all (fun x => !x.1) && (backToKw cpos (keywordEach [] X.env)).all (fun x => x.1.isSome) && decide ((a :: es).length + ([] : List Keyword).length + (if ([] : List Keyword).isEmpty then 0 else 1) < 30)) = true := by rfl)
    (hline : (apos.endLine == cpos.line) = true := by rfl) (hs : starEach (a :: es) X.env = (false, eval a X.env) :: starEach es X.env := by rfl) (hplain : (backTo cpos (starEach es X.env)).any (·.1) = false := by rfl) :
    PE X (.Call (.Attribute (.Name x p) name apos) (a :: es) [] cpos) (tOf Θ (gLm i f ga)) := by
  obtain ⟨r, h1, h2⟩ := hm
  refine pe_conv (pe_bm PySem.F.plainAttrs_list slot hty h1 (pe_var hN hv hd hcd) ha hbase hfew hline hs hplain) fun σ H Q ⟨e, Qp, E, h, k⟩ => ?_
  unfold gLm at h
  split at h
  · rename_i ds0 q0
    obtain ⟨b, g1, g2, g3, g4⟩ := E.ow i _ q0
    refine ⟨.ref b, g1, .inl ⟨rfl, ?_⟩, e, _, E, h, fun vs as H1 e1 l1 E1 r1 q1 => ?_⟩
    · cases g4 with
      | lst u1 u2 => exact ⟨_, SqL.of u1⟩
    · split at q1
      · rename_i ds1 q2
        exact lm_go hK h2 E1 q2 g1 r1 q1 fun v d ds' H' le E' rd hk => k v d false H' (e1.set i (.lst ds') true) ⟨l1.trans le, E', rd⟩ hk
      · exact q1.elim
  · exact h.elim
def appF : LmF := fun ds as k => match as with
  | [d] => ds.length < 1000000 ∧ k .non (ds ++ [d])
  | _ => False
theorem lq_append : LMQ X "list.append" appF := ⟨_, mt_append, fun C N H a us ds vs as k Q hK h r rv hf K => by
  match as, rv, hf with
  | [d], rv, ⟨hl, hk⟩ =>
    obtain ⟨v, rfl, rd⟩ := rv.one
    exact ⟨a, us, v, rfl, rfl, h, by rw [r.len]; exact mil' (by omega), K _ _ _ _ .non (r.snoc rd) hk⟩⟩
def putI : D → D → D → Option D
  | .lst ds, .int k, d => (ixN ds.length k).map fun j => .lst (ds.set j d)
  | .dct ks ds, y, d => if ks.length < 1000000 then (keyOf y).map fun k => .dct (putD ks ds k d).1 (putD ks ds k d).2 else none
  | .dcT ks ds, .tup es, d => if ks.length < 1000000 then (keysOf es).map fun k => .dcT (putD ks ds k d).1 (putD ks ds k d).2 else none
  | _, _, _ => none
def ggItem (i : Nat) (g : GE) : GG := fun d e Q => match getS e.sl i with
  | some (_, true) => g e fun j _ e1 => match getS e1.sl i with
    | some (c, true) => ∃ c', putI c j d = some c' ∧ Q (e1.set i c' true)
    | _ => False
  | _ => False
theorem set_or {t t' : TSet} (h : PSet X t) (h' : PSet X t') : PSet X (fun o i v H Q => t o i v H Q ∨ t' o i v H Q) := by
  intro pins s σ H o i v ov iv u Q I ro ri rv z
  rcases z with z | z
  · exact h pins s σ H o i v ov iv u Q I ro ri rv z
  · exact h' pins s σ H o i v ov iv u Q I ro ri rv z
theorem put_go {i : Nat} {σ : L2.St} {H1 : Hp} {e1 : Env} {c c' j d : D} {y v : V} {Q : Hp → Prop} {a : Addr} (E1 : ERep Θ σ H1 e1) (hs : getS e1.sl i = some (c, true)) (ha : σ[i]? = some (some (.ref a))) (ry : Rp Θ.C (cut (Mm Θ XO σ e1.sl) H1) y j) (rv : Rp Θ.C (cut (Mm Θ XO σ e1.sl) H1) v d) (hp : putI c j d = some c')
    (K : ∀ H', Le (cut (Mm Θ XO σ e1.sl) H1) (cut (Mm Θ XO σ (e1.set i c' true).sl) H') → ERep Θ σ H' (e1.set i c' true) → Q H') : rSetL (.ref a) y v H1 Q ∨ rSetD (.ref a) y v H1 Q := by
  obtain ⟨a', h1, h2, h3, h4⟩ := E1.ow i _ hs
  rw [ha] at h1; cases h1
  cases h4 with
  | lst g1 g2 =>
    rename_i us ds
    match j, ry, hp with
    | .int k, ry, hp =>
      have hp' : (ixN ds.length k).map (fun j => D.lst (ds.set j d)) = some c' := hp
      cases q : ixN ds.length k with
      | none => rw [q] at hp'; cases hp'
      | some n =>
        rw [q] at hp'
        cases hp'
        rw [ry.intE]
        obtain ⟨E', le⟩ := E1.mut (d' := .lst (ds.set n d)) (o := .lst (us.set n v)) hs ha (.lst upd_same (g2.set n rv))
        exact .inl ⟨a, us, k, n, rfl, rfl, g1, by rw [g2.len]; exact q, K _ le E'⟩
  | dct g1 g2 g3 =>
    rename_i kvs ks ds
    have hp' : (if ks.length < 1000000 then (keyOf j).map fun k => D.dct (putD ks ds k d).1 (putD ks ds k d).2 else none) = some c' := hp
    by_cases hl : ks.length < 1000000
    · rw [if_pos hl] at hp'
      cases q : keyOf j with
      | none => rw [q] at hp'; cases hp'
      | some k =>
        rw [q] at hp'
        cases hp'
        obtain ⟨x1, x2⟩ := put_rp (x := k) rv g2 g3
        obtain ⟨E', le⟩ := E1.mut (d' := .dct (putD ks ds k d).1 (putD ks ds k d).2) (o := .dK (putK kvs k v)) hs ha (.dct upd_same x1 x2)
        have hlen : kvs.length = ks.length := by rw [← g2, List.length_map]
        rw [key_rp ry q]
        exact .inr ⟨a, _, rfl, DPut.k g1 (by rw [hlen]; exact mil' (by omega)), K _ le E'⟩
    · rw [if_neg hl] at hp'; cases hp'
  | dcT g1 g2 g3 =>
    rename_i kvs ks ds
    match j, ry, hp with
    | .tup es, ry, hp =>
      have hp' : (if ks.length < 1000000 then (keysOf es).map fun k => D.dcT (putD ks ds k d).1 (putD ks ds k d).2 else none) = some c' := hp
      by_cases hl : ks.length < 1000000
      · rw [if_pos hl] at hp'
        cases q : keysOf es with
        | none => rw [q] at hp'; cases hp'
        | some k =>
          rw [q] at hp'
          cases hp'
          obtain ⟨x1, x2⟩ := put_rp (x := k) rv g2 g3
          obtain ⟨E', le⟩ := E1.mut (d' := .dcT (putD ks ds k d).1 (putD ks ds k d).2) (o := .dT (putK kvs k v)) hs ha (.dcT upd_same x1 x2)
          have hlen : kvs.length = ks.length := by rw [← g2, List.length_map]
          obtain ⟨b, zs, rfl, hb, rb⟩ := ry.tupE
          rw [keys_rp rb q] at hb
          exact .inr ⟨a, _, rfl, DPut.t g1 hb (by rw [hlen]; exact mil' (by omega)), K _ le E'⟩
      · rw [if_neg hl] at hp'; cases hp'
theorem qg_item (i : Nat) {x : Str} {p : Pos} {ie : Expr} {g : GE} (hu : X.A.units + 1 < cLine) (hi : PE X ie (tOf Θ g)) (hN : X.N[i]? = some x := by rfl) (hv : Vis X.env.scope x := by first | exact Or.inl rfl | exact Or.inr (Or.inl rfl) | exact Or.inr (Or.inr rfl)) (hd : (x == ("__debug__" : Str)) = false := by decide)
    (hcd : (x == ("__classdict__" : Str)) = false := by decide)
    (ha : ∀ v, assign (.Subscript (.Name x p) ie pos) X.env v = (do
      let ov ← holding [v] (eval (.Name x p) X.env)
      let iv ← holding [v, ov] (eval ie X.env)
      standAt pos
      holding [v, ov, iv] (setItem ov iv v)
      release [v, ov, iv] []) := by intro _; rfl) : PG X (.Subscript (.Name x p) ie pos) (tOfG Θ [] (ggItem i g)) := by
  refine pg_conv (pg_sub (pe_var hN hv hd hcd) hi (set_or set_list (set_dict hu)) ha) fun v σ H Q ⟨d, e, Qp, E, r, h, k⟩ => ?_
  unfold ggItem at h
  split at h
  · rename_i c0 q0
    obtain ⟨b, g1, g2, g3, g4⟩ := E.ow i _ q0
    refine ⟨.ref b, g1, e, _, E, h, fun y j fr H1 e1 r1 q1 => ?_⟩
    split at q1
    · rename_i c1 q2
      obtain ⟨c', hc, hq⟩ := q1
      exact put_go r1.er q2 g1 r1.rp (r.le r1.le) hc fun H' le E' => k σ H' _ (r1.le.trans le) E' ⟨rfl, fun _ _ => rfl⟩ hq
    · exact q1.elim
  · exact h.elim
def IpQ (X : Cx) (Θ : Th) (op : Operator) (f : F2) : Prop := ∃ r, PIp X op r ∧ ∀ σ H e v w x y k Q, ERep Θ σ H e → Rp Θ.C (cut (Mm Θ XO σ e.sl) H) v x → Rp Θ.C (cut (Mm Θ XO σ e.sl) H) w y → f x y k →
  (∀ u z fr H', Res Θ σ H e u z fr H' e → k z fr → Q u H') → r v w H Q
def gAug (i : Nat) (f : F2) (g : GE) : GS := fun De e => match getS e.sl i with
  | some (x, false) => g e fun y _ e1 => f x y fun z fr => De.nx (e1.set i z fr)
  | _ => False
def iaF (f : Int → Int → Int) : F2 := fun x y k => match x, y with
  | .int i, .int j => k (.int (f i j)) false
  | _, _ => False
theorem iq_of {op : Operator} {fi : Int → Int → Int} (h : PIp X op (ipI fi)) : IpQ X Θ op (iaF fi) := ⟨_, h, fun σ H e v w x y k Q E rx ry hf K => by
  match x, y, rx, ry, hf with
  | .int i, .int j, rx, ry, hf =>
    rw [rx.intE, ry.intE]
    exact ⟨i, j, rfl, rfl, K _ _ _ _ (Res.mk E (.int _)) hf⟩⟩
theorem iq_add : IpQ X Θ .Add (iaF fun i j => i + j) := iq_of ip_add
end
end L2.Q
set_option Elab.async false
set_option linter.all false
set_option maxRecDepth 100000
set_option maxHeartbeats 4000000
namespace L2.Q
open PySem PySem.Spec PyProof.Rows L2 L2.Wb RZ
section
variable {Θ : Th} {X : Cx} {pos : Pos}
def rDin (neg : Bool) : R2 := fun y x H Q => ∃ a o, x = .ref a ∧ DGet H a y o ∧ Q (.bl (neg != o.isSome)) H
theorem op_inDc (hu : X.A.units + 1 < cLine) : OpR X (compareOp .In) (rDin false) := by
  intro pins s σ H y x v u Q I ry rx ⟨a, o, ex, g, q⟩
  subst ex
  obtain rfl : u = Value.ref a := rx
  exact d_in hu I g ry fun s3 I3 => ⟨.bl o.isSome, H, I3, rfl, by rw [Bool.false_bne] at q; exact q⟩
def rInA (K : PySem.W.Frag) (neg : Bool) : R2 := fun y x H Q => rInT K neg y x H Q ∨ rDin neg y x H Q
theorem op_or2 {fn : Value → Value → Sem Value} {r r' : R2} (h : OpR X fn r) (h' : OpR X fn r') : OpR X fn (fun x y H Q => r x y H Q ∨ r' x y H Q) := by
  intro pins s σ H x y v u Q I rx ry z
  rcases z with z | z
  · exact h pins s σ H x y v u Q I rx ry z
  · exact h' pins s σ H x y v u Q I rx ry z
theorem op_inA (hu : X.A.units + 65 < cLine) : OpR X (compareOp .In) (rInA X.K false) := op_or2 (op_inT hu) (op_inDc (by omega))
/-- y in x, x a list, a tuple or a dict -/
def inAF (neg : Bool) : F2 := fun y x k => match x with
  | .dct _ _ => ∃ o, getD x y = some o ∧ k (.bl (neg != o.isSome)) false
  | .dcT _ _ => ∃ o, getD x y = some o ∧ k (.bl (neg != o.isSome)) false
  | _ => inF neg y x k
theorem inA_ok {neg : Bool} {σ : L2.St} {H : Hp} {e : Env} {v w : V} {x y : D} {k : D → Bool → Prop} {Q : VK} (hK : Θ.C.K = X.K) (E : ERep Θ σ H e) (ry : Rp Θ.C (cut (Mm Θ XO σ e.sl) H) w y) (rx : Con Θ.C (cut (Mm Θ XO σ e.sl) H) H v x) (h : inAF neg y x k)
    (K' : ∀ u z fr, Res Θ σ H e u z fr H e → k z fr → Q u H) : rInA X.K neg w v H Q := by
  have dict : (∃ o, getD x y = some o ∧ k (.bl (neg != o.isSome)) false) → rInA X.K neg w v H Q := fun ⟨o, hd, h⟩ => by
    obtain ⟨a, r, rfl, g, ro⟩ := dget_rp rx ry hd
    refine .inr ⟨a, r, rfl, g, ?_⟩
    have e : r.isSome = o.isSome := by cases ro <;> rfl
    rw [e]
    exact K' _ _ _ (Res.mk E (.bl _)) h
  have seq : ∀ ds : List D, (Dp X.K H v (.list (toPyA ds)) ∨ Dp X.K H v (.tuple (toPyA ds)) ∨ ndA 64 ds = false) → (∃ b, (if nd 64 y && ndA 64 ds then some (ds.any fun z => eqD z y) else if isDc y && ndA 64 ds then some false else none) = some b ∧ k (.bl (neg != b)) false) → rInA X.K neg w v H Q := fun ds hd ⟨b, hb, h⟩ => by
    refine .inl ?_
    by_cases c : (nd 64 y && ndA 64 ds) = true
    · rw [if_pos c] at hb
      cases hb
      obtain ⟨sx, sy⟩ := Bool.and_eq_true_iff.mp c
      refine ⟨toPyA ds, hd.elim .inl (fun z => z.elim .inr (fun z => by rw [sy] at z; cases z)), (ndA_can sy).1, .inl ⟨_, dp_cut (hK ▸ ry.dp sx), nd_pl sx, ?_⟩⟩
      rw [any_py]
      exact K' _ _ _ (Res.mk E (.bl _)) h
    · rw [if_neg c] at hb
      by_cases c2 : (isDc y && ndA 64 ds) = true
      · rw [if_pos c2] at hb
        cases hb
        obtain ⟨sx, sy⟩ := Bool.and_eq_true_iff.mp c2
        obtain ⟨a, rfl, ha⟩ := dc_at ry sx
        refine ⟨toPyA ds, hd.elim .inl (fun z => z.elim .inr (fun z => by rw [sy] at z; cases z)), (ndA_can sy).1, .inr ⟨a, rfl, ha, ?_⟩⟩
        rw [Bool.bne_false] at h
        exact K' _ _ _ (Res.mk E (.bl _)) h
      · rw [if_neg c2] at hb; cases hb
  cases rx with
  | dct h1 h2 h3 => exact dict h
  | dcT h1 h2 h3 => exact dict h
  | lst h1 h2 =>
    rename_i ds
    refine seq ds ?_ h
    cases hn : ndA 64 ds with
    | true => exact .inl (.lst (SqL.of h1) (dpA_cut (hK ▸ h2.dp hn)))
    | false => exact .inr (.inr rfl)
  | tup h0 h1 h2 =>
    rename_i ds
    refine seq ds ?_ h
    cases hn : ndA 64 ds with
    | true => exact .inr (.inl (.tup (SqT.of h1) (dpA_cut (hK ▸ h2.dp hn))))
    | false => exact .inr (.inr rfl)
  | str x => obtain ⟨b, hb, _⟩ := h; exact nomatch hb
  | oth hx =>
    match x, h, hx with
    | .non, ⟨b, hb, _⟩, _ => exact nomatch hb
    | .bl _, ⟨b, hb, _⟩, _ => exact nomatch hb
    | .int _, ⟨b, hb, _⟩, _ => exact nomatch hb
    | .ins _ _ _, ⟨b, hb, _⟩, _ => exact nomatch hb
    | .st, ⟨b, hb, _⟩, _ => exact nomatch hb
    | .raw _, ⟨b, hb, _⟩, _ => exact nomatch hb
theorem oq_inA (hu : X.A.units + 65 < cLine) (hK : Θ.C.K = X.K := by rfl) : OpQ X Θ (compareOp .In) (inAF false) := ⟨_, op_inA hu, fun σ H e v w x y k Q E rx ry h K => inA_ok hK E rx (Con.of ry) h fun u z fr R hz => K u z fr _ R hz⟩
/-- y in x, x a local, as it is -/
def gInV (neg : Bool) (i : Nat) (ga : GE) : GE := fun e Q => ga e fun y _ e1 => match getS e1.sl i with
  | some (d, _) => inAF neg y d fun z fr => Q z fr e1
  | none => False
theorem inV_go {neg : Bool} {i : Nat} {ga : GE} {σ : L2.St} {H : Hp} {Q : VK} (hK : Θ.C.K = X.K) (h : tOf Θ (gInV neg i ga) σ H Q) : tOf Θ ga σ H fun w H1 => tVar i σ H1 fun v H2 => rInA X.K neg w v H2 Q := by
  obtain ⟨e, Qp, E, h, k⟩ := h
  refine ⟨e, _, E, h, fun w y fr H1 e1 r1 h1 => ?_⟩
  cases q : getS e1.sl i with
  | none => rw [q] at h1; exact h1.elim
  | some s =>
    obtain ⟨d, b⟩ := s
    rw [q] at h1
    obtain ⟨v, hv, c⟩ := slot_con r1.er q
    exact ⟨v, hv, inA_ok hK r1.er r1.rp c h1 fun u z fr R hz => k _ _ _ _ _ (R.from r1.le) hz⟩
section
variable {x : Str} {a : Expr} {ga : GE} {p : Pos}
theorem q_inV (i : Nat) (hu : X.A.units + 65 < cLine) (ha : PE X a (tOf Θ ga)) (hK : Θ.C.K = X.K := by rfl) (hN : X.N[i]? = some x := by rfl) (hv : Vis X.env.scope x := by first | exact Or.inl rfl | exact Or.inr (Or.inl rfl) | exact Or.inr (Or.inr rfl)) (hd : (x == ("__debug__" : Str)) = false := by decide) (hcd : (x == ("__classdict__" : Str)) = false := by decide)
    (hm : behindInMarks .In (.Name x p) = false := by rfl) : PE X (.Compare a [.In] [.Name x p] pos) (tOf Θ (gInV false i ga)) :=
  pe_conv (pe_cmpR (op_inA hu) ha (pe_var hN hv hd hcd) hm) fun σ H Q h => inV_go hK h
end
def gGet1 (i : Nat) (ga : GE) : GE := fun e Q => (∃ d b, getS e.sl i = some (d, b) ∧ isDc d = true) ∧ ga e fun y _ e1 => ∃ d b o, getS e1.sl i = some (d, b) ∧ getD d y = some o ∧ Q (o.getD .non) false e1
theorem con_isD {C : Cn} {Hc H : Hp} {v : V} {d : D} (c : Con C Hc H v d) (h : isDc d = true) : ∃ a, v = .ref a ∧ L2.IsD H a := by
  cases c with
  | dct h1 h2 h3 => exact ⟨_, rfl, .inl ⟨_, h1⟩⟩
  | dcT h1 h2 h3 => exact ⟨_, rfl, .inr ⟨_, h1⟩⟩
  | oth hx => cases d <;> first | exact hx.elim | cases h
  | _ => exact nomatch h
section
variable {x : Str} {a b : Expr} {ga gb : GE} {p apos cpos : Pos}
def gGet2 (i : Nat) (ga gb : GE) : GE := fun e Q => (∃ d b, getS e.sl i = some (d, b) ∧ isDc d = true) ∧ ga e fun y _ e1 => gb e1 fun z _ e2 => ∃ d b o, getS e2.sl i = some (d, b) ∧ getD d y = some o ∧ Q (o.getD z) false e2
end
theorem get_list : PGet X (rIxL X.K) := by
  intro pins s σ H x y v u Q I rx ry h
  obtain ⟨p, xs, i, z, rfl, rfl, hq, he, q⟩ := h
  cases rx
  obtain ⟨t, rfl⟩ := ry
  obtain ⟨its, r, pl, hz⟩ := I.list hq
  obtain ⟨j, h1, h2, h3, h4, h5⟩ := atI_get he
  obtain ⟨w, ew, rw'⟩ := r.get h2
  have hl := r.length
  have hn := line63
  have fin : EP X pins σ Q w s := ⟨z, H, I, rw', q⟩
  by_cases h0 : 0 ≤ i
  · have hj : i.toNat = j := by
      rw [seqIndex_of h0 h5] at h1
      exact Option.some.inj h1
    exact wpAny_getItem_list pl.isList h0 (by omega) (by rw [hj]; simpa using ew) fin
  · have hj : (i + (its.toArray.size : Int)).toNat = j := by
      rw [seqIndex_neg (by omega) h4] at h1
      rw [List.size_toArray, ← hl]
      exact Option.some.inj h1
    exact wpAny_getItem_list_neg pl.isList (by omega) (by rw [List.size_toArray] <;> omega) (by omega) (by rw [hj]; simpa using ew) fin
theorem get_dict (hu : X.A.units + 1 < cLine) : PGet X rDix := by
  intro pins s σ H x y v u Q I rx ry ⟨a, w, ex, g, q⟩
  subst ex
  obtain rfl : v = Value.ref a := rx
  exact d_getItem hu I g ry fun w' s' I' rw' => ⟨w, H, I', rw', q⟩
theorem get_or {t t' : V → V → Hp → VK → Prop} (h : PGet X t) (h' : PGet X t') : PGet X (fun x y H Q => t x y H Q ∨ t' x y H Q) := by
  intro pins s σ H x y v u Q I rx ry z
  rcases z with z | z
  · exact h pins s σ H x y v u Q I rx ry z
  · exact h' pins s σ H x y v u Q I rx ry z
/-- what stands at j -/
def atD : D → D → Option D
  | .lst ds, .int i => atI ds i
  | .dct ks ds, y => (getD (.dct ks ds) y).bind id
  | .dcT ks ds, y => (getD (.dcT ks ds) y).bind id
  | _, _ => none
theorem bind_id {o : Option (Option D)} {d : D} (h : o.bind id = some d) : o = some (some d) := by
  cases o with
  | none => cases h
  | some o => exact congrArg some h
theorem at_go {σ : L2.St} {H : Hp} {e : Env} {c j d : D} {v w : V} {Q : VK} (E : ERep Θ σ H e) (rx : Con Θ.C (cut (Mm Θ XO σ e.sl) H) H v c) (ry : Rp Θ.C (cut (Mm Θ XO σ e.sl) H) w j) (h : atD c j = some d) (K : ∀ u, Rp Θ.C (cut (Mm Θ XO σ e.sl) H) u d → Q u H) : rIxL X.K v w H Q ∨ rDix v w H Q := by
  have dict : getD c j = some (some d) → rIxL X.K v w H Q ∨ rDix v w H Q := fun hd => by
    obtain ⟨a, r, rfl, g, ro⟩ := dget_rp rx ry hd
    cases ro with
    | some rp => exact .inr ⟨a, _, rfl, g, K _ rp⟩
  cases rx with
  | dct h1 h2 h3 => exact dict (bind_id h)
  | dcT h1 h2 h3 => exact dict (bind_id h)
  | lst h1 h2 =>
    match j, ry, h with
    | .int i, ry, h =>
      obtain ⟨u, hu, ru⟩ := at_rp h2 h
      rw [ry.intE]
      exact .inl ⟨_, _, i, u, rfl, rfl, SqL.of h1, hu, K _ ru⟩
  | tup h0 h1 h2 => exact nomatch h
  | str x => exact nomatch h
  | oth hx => cases c <;> first | exact hx.elim | cases h
def gAugI (i : Nat) (f : F2) (gj gv : GE) : GS := fun De e => match getS e.sl i with
  | some (_, true) => gj e fun j _ e1 => match getS e1.sl i with
    | some (c, true) => ∃ d, atD c j = some d ∧ gv e1 fun y _ e2 => match getS e2.sl i with
      | some (c2, true) => f d y fun z _ => ∃ c', putI c2 j z = some c' ∧ De.nx (e2.set i c' true)
      | _ => False
    | _ => False
  | _ => False
theorem q_augI (i : Nat) {x : Str} {ie a : Expr} {op : Operator} {f : F2} {gj gv : GE} {p tpos : Pos} (hu : X.A.units + 1 < cLine) (ho : IpQ X Θ op f) (hj : PE X ie (tOf Θ gj)) (ha : PE X a (tOf Θ gv)) (hN : X.N[i]? = some x := by rfl) (hv : Vis X.env.scope x := by first | exact Or.inl rfl | exact Or.inr (Or.inl rfl) | exact Or.inr (Or.inr rfl)) (hd : (x == ("__debug__" : Str)) = false := by decide)
    (hcd : (x == ("__classdict__" : Str)) = false := by decide) (hst : ∀ ov iv new, augStore ie ov iv new = (do holding [new, ov, iv] (setItem ov iv new); release [new, ov, iv] []; pure .next) := by intros; rfl) : PS X (.AugAssign (.Subscript (.Name x p) ie tpos) op a pos) (tOfS Θ (gAugI i f gj gv)) := by
  obtain ⟨r, h1, h2⟩ := ho
  refine ps_conv (ps_augS (pe_var hN hv hd hcd) hj (get_or get_list (get_dict hu)) ha h1 (set_or set_list (set_dict hu)) hst) fun Dn σ H ⟨e, De, E, h, m⟩ => ?_
  unfold gAugI at h
  split at h
  · rename_i c0 q0
    obtain ⟨b, g1, g2, g3, g4⟩ := E.ow i _ q0
    refine ⟨.ref b, g1, e, _, E, h, fun y j fr H1 e1 r1 q1 => ?_⟩
    split at q1
    · rename_i c1 q2
      obtain ⟨d, hd', hq⟩ := q1
      obtain ⟨v, hv1, cv⟩ := slot_con r1.er q2
      rw [g1] at hv1; cases hv1
      refine at_go r1.er cv r1.rp hd' fun u ru => ⟨e1, _, r1.er, hq, fun w yd fr2 H2 e2 r2 q3 => ?_⟩
      split at q3
      · rename_i c2 q4
        refine h2 σ H2 e2 u w d yd _ _ r2.er (ru.le r2.le) r2.rp q3 fun z zd fr3 H3 R ⟨c', hc, hn⟩ => ?_
        exact put_go R.er q4 g1 ((r1.rp.le r2.le).le R.le) R.rp hc fun H' le E' => m.nx σ H' _ (((r1.le.trans r2.le).trans R.le).trans le) E' hn
      · exact q3.elim
    · exact q1.elim
  · exact h.elim
end
end L2.Q
set_option Elab.async false
set_option linter.all false
set_option maxRecDepth 100000
set_option maxHeartbeats 4000000
namespace L2.Q
open PySem PySem.Spec PyProof.Rows L2 L2.Wb RZ
section
variable {Θ : Th} {X : Cx} {pos : Pos}
/-- a test of two data that leaves all as it is -/
def OpF (X : Cx) (fn : Value → Value → Sem Value) (f : D → D → Option Bool) : Prop := ∃ r, OpR X fn r ∧ ∀ (C : Cn) (N : Addr → Prop) (H : Hp) (v w : V) (x y : D) (b : Bool) (Q : VK), C.K = X.K → Rp C (cut N H) v x → Rp C (cut N H) w y → f x y = some b → Q (.bl b) H → r v w H Q
/-- a slot's value, read past what is one's own -/
theorem slot_rp {σ : L2.St} {H : Hp} {e : Env} {i : Nat} {d : D} {b : Bool} (E : ERep Θ σ H e) (h : getS e.sl i = some (d, b)) : ∃ v N, σ[i]? = some (some v) ∧ Rp Θ.C (cut N H) v d ∧ Le (cut (Mm Θ XO σ e.sl) H) (cut N H) := by
  cases b with
  | false =>
    obtain ⟨v, h1, h2⟩ := E.sh i d h
    exact ⟨v, _, h1, h2, Le.refl _⟩
  | true =>
    obtain ⟨a, h1, _, _, h2⟩ := E.ow i d h
    have le : Le (cut (Mm Θ XO σ e.sl) H) (cut (fun b => Mm Θ XO σ e.sl b ∧ b ≠ a) H) := le_mono fun b z => z.1
    refine ⟨.ref a, _, h1, (h2.mono le fun o q => q).rp fun o q => cutAt (fun z => z.2 rfl) q, le⟩
def gCmpV (f : D → D → Option Bool) (i : Nat) (gb : GE) : GE := fun e Q => (getS e.sl i).isSome = true ∧ gb e fun y _ e1 => ∃ d b c, getS e1.sl i = some (d, b) ∧ f d y = some c ∧ Q (.bl c) false e1
theorem of_eq (hu : X.A.units + 65 < cLine) : OpF X (compareOp .Eq) eqT := by
  refine ⟨_, Wb.op_eqT hu, fun C N H v w x y b Q hK rx ry hb h => ?_⟩
  unfold eqT at hb
  by_cases c : (nd 64 x && nd 64 y) = true
  · rw [if_pos c] at hb
    cases hb
    obtain ⟨sx, sy⟩ := Bool.and_eq_true_iff.mp c
    exact .inl ⟨_, _, dp_cut (hK ▸ rx.dp sx), dp_cut (hK ▸ ry.dp sy), nd_pl sx, nd_pl sy, h⟩
  · rw [if_neg c] at hb
    by_cases c2 : ((isDc x && nd 64 y) || (nd 64 x && isDc y)) = true
    · rw [if_pos c2] at hb
      cases hb
      rcases Bool.or_eq_true_iff.mp c2 with c2 | c2
      · obtain ⟨sx, sy⟩ := Bool.and_eq_true_iff.mp c2
        obtain ⟨a, rfl, ha⟩ := dc_at rx sx
        exact .inr (.inl ⟨a, _, rfl, ha, dp_cut (hK ▸ ry.dp sy), nd_pl sy, h⟩)
      · obtain ⟨sx, sy⟩ := Bool.and_eq_true_iff.mp c2
        obtain ⟨a, rfl, ha⟩ := dc_at ry sy
        exact .inr (.inr ⟨_, a, dp_cut (hK ▸ rx.dp sx), nd_pl sx, rfl, ha, h⟩)
    · rw [if_neg c2] at hb; cases hb
end
end L2.Q
set_option Elab.async false
set_option linter.all false
set_option maxRecDepth 100000
set_option maxHeartbeats 4000000
namespace L2.Q
open PySem PySem.Spec PyProof.Rows L2 L2.Wb RZ
section
variable {Θ : Th} {X : Cx} {pos : Pos}
/-- a built-in type's name, a class -/
theorem q_ty {n : String} {x : Str} (hg : Gl X x) (hm : X.mg x = none) (hb : bootBuiltins x = some (.type n) := by decide +kernel) (hn : x ≠ "__name__" := by decide) (hd : (x == ("__debug__" : Str)) = false := by decide) : PE X (.Name x pos) (tOf Θ (gC (.raw (.ty n)))) :=
  pe_conv (pe_bltn (v := .ty n) (u := .type n) hg hm hb rfl hn hd) fun σ H Q ⟨e, Qp, E, h, k⟩ => k _ _ _ _ _ (Res.mk E (.raw _)) h
theorem q_gcls {C : Addr} {x : Str} (hg : Gl X x) (hm : X.mg x = some (.ref C)) (hd : (x == ("__debug__" : Str)) = false := by decide) : PE X (.Name x pos) (tOf Θ (gC (.raw (.ref C)))) :=
  pe_conv (pe_glob (v := .ref C) hg hm rfl hd) fun σ H Q ⟨e, Qp, E, h, k⟩ => k _ _ _ _ _ (Res.mk E (.raw _)) h
def tyName : D → Option String
  | .non => some "NoneType"
  | .bl _ => some "bool"
  | .int _ => some "int"
  | .str _ => some "str"
  | .lst _ => some "list"
  | .tup _ => some "tuple"
  | .dct _ _ => some "dict"
  | _ => none
end
end L2.Q
set_option Elab.async false
set_option linter.all false
set_option maxRecDepth 100000
set_option maxHeartbeats 4000000
namespace L2.Q
open PySem PySem.Spec PyProof.Rows L2 L2.Wb RZ
structure DefQ (P : Program) (w : World) (K : PySem.W.Frag) (mg : Str → Option Value) (base : Heap) (C : Cn) (x : Str) (k : Nat) (f : Addr) (fd : FuncData) (prm : List Str) (p : PSp) : Prop where
  ok : FnOk P w K mg base (L2.CX P w) k f fd prm (spOf C p)
  mgf : mg x = some (.ref f)
  kp : PySem.W.keepIn K (.ref f) = true
  bd : Binds K fd prm []
theorem q_callD {Θ : Th} {X : Cx} {pos : Pos} {k k' : Nat} {f : Addr} {fd : FuncData} {prm : List Str} {p : PSp} {x : Str} {a : Expr} {es : List Expr} {ga : GA} {pp : Pos} (D : DefQ X.prog X.w X.K X.mg X.base Θ.C x k f fd prm p) (hr : Room k' X.A) (ha : PA X (a :: es) (tOfA Θ ga)) (hk : k ≤ k' := by decide) (hg : Gl X x := by rfl)
    (hdb : (x == ("__debug__" : Str)) = false := by decide) (he : starEach (a :: es) X.env = (false, eval a X.env) :: starEach es X.env := by rfl) (hpl : (backTo pos (starEach es X.env)).any (·.1) = false := by rfl) :
    PE X (.Call (.Name x pp) (a :: es) [] pos) (tOf Θ (gCall p ga)) := q_call D.ok (hr.mono hk) hg D.mgf D.kp D.bd ha hdb he hpl
/-- .. what it raises goes on -/
theorem q_callX {Θ : Th} {X : Cx} {pos : Pos} {k k' : Nat} {f : Addr} {fd : FuncData} {prm : List Str} {p : PSp} {x : Str} {a : Expr} {es : List Expr} {ga : GA} {pp : Pos} (tk : Takes X (wOf Θ)) (D : DefQ X.prog X.w X.K X.mg X.base Θ.C x k f fd prm p) (hr : Room k' X.A) (ha : PA X (a :: es) (tOfA Θ ga)) (hk : k ≤ k' := by decide) (hg : Gl X x := by rfl)
    (hdb : (x == ("__debug__" : Str)) = false := by decide) (he : starEach (a :: es) X.env = (false, eval a X.env) :: starEach es X.env := by rfl) (hpl : (backTo pos (starEach es X.env)).any (·.1) = false := by rfl) :
    PE X (.Call (.Name x pp) (a :: es) [] pos) (tOf Θ (gCallX Θ.Z p ga)) := q_callXF tk D.ok (hr.mono hk) hg D.mgf D.kp D.bd ha hdb he hpl
/-- a def that lets nothing out -/
theorem lift0 {P : Program} {w : World} {K : PySem.W.Frag} {mg : Str → Option Value} {base : Heap} {k : Nat} {f : Addr} {fd : FuncData} {prm : List Str} {sp : Sp} (F : FnOk P w K mg base CX0 k f fd prm sp) : FnOk P w K mg base (L2.CX P w) k f fd prm sp :=
  ⟨F.len, fun A outer s H args us vs Q E hr he hb hv hs => codeAny_mono (F.run A outer s H args us vs Q E hr he hb hv hs) fun r s' h => by
    cases r with
    | error e => exact h.elim
    | ok fl => cases fl <;> exact h⟩
end L2.Q
set_option Elab.async false
set_option linter.all false
set_option maxRecDepth 100000
set_option maxHeartbeats 4000000
namespace L2.Q
open PySem PySem.Spec PyProof.Rows L2 L2.Wb RZ
/-- the same with other things in hand -/
def Th.at (Θ : Th) (fx : Hp) (h : ∀ b o, fx b = some o → Θ.H0 b = none ∧ NoTup o) : Th := ⟨Θ.C, Θ.m, Θ.N, Θ.H0, Θ.L, Θ.std, Θ.n3, Θ.ms, fx, h, Θ.Z⟩
def gPar (i j : Nat) (ga gb : GE) : GS := fun De e => ga e fun x fx e1 => gb e1 fun y fy e2 => De.nx ((e2.set j y fy).set i x fx)
section
variable {Θ : Th} {X : Cx} {pos : Pos}
/-- what nobody else has is stored -/
theorem own_go {σ : L2.St} {H : Hp} {e : Env} {i : Nat} {a : Addr} {d : D} (E : ERepX Θ (fun b => b = a) σ H e) (h0 : New0 Θ a) (ow : OwnAt Θ.C (cut (Mm Θ (fun b => b = a) σ e.sl) H) H a d) :
    ERep Θ (σ.set i (some (.ref a))) H (e.set i d true) ∧ Le (cut (Mm Θ (fun b => b = a) σ e.sl) H) (cut (Mm Θ XO (σ.set i (some (.ref a))) (e.set i d true).sl) H) := by
  by_cases hi : i < e.sl.length
  · exact E.putOwn hi h0 ow
  · have e1 : e.set i d true = e := by
      show (⟨setS e.sl i (some (d, true)), e.n⟩ : Env) = e
      rw [setS_far hi]
    have e2 : σ.set i (some (.ref a)) = σ := List.set_eq_of_length_le (by rw [E.len]; omega)
    rw [e1, e2]
    exact ⟨E.drop xo_sub, le_mono (Mm.mono xo_sub)⟩
theorem q_par {i j : Nat} {x y : Str} {a b : Expr} {ga gb : GE} {px py pt : Pos} {kt k2 pt2} (hc : X.calm = true) (hN : X.N.Nodup) (hi : X.N[i]? = some x) (hj : X.N[j]? = some y) (hx : X.env.scope.names.lookup x = some .local) (hy : X.env.scope.names.lookup y = some .local)
    (ha : PE X a (tOf Θ ga)) (hb : ∀ fx h, PE X b (tOf (Θ.at fx h) gb)) (hij : i ≠ j := by decide) (hw : swappedStores [.Tuple [.Name x px, .Name y py] kt pt] (.Tuple [a, b] k2 pt2) X.env = pure (some [x, y]) := by rfl)
    (hs : swapsWithSole [.Tuple [.Name x px, .Name y py] kt pt] (.Tuple [a, b] k2 pt2) pos.line X.env = pure false := by rfl) (hsa : starEach [a, b] X.env = (false, eval a X.env) :: starEach [b] X.env := by rfl) (hsb : starEach [b] X.env = (false, eval b X.env) :: starEach [] X.env := by rfl) :
    PS X (.Assign [.Tuple [.Name x px, .Name y py] kt pt] (.Tuple [a, b] k2 pt2) pos) (tOfS Θ (gPar i j ga gb)) := by
  have hb' : PE X b (fun σ H Q => ∃ fx h, tOf (Θ.at fx h) gb σ H Q) := ⟨fun pins s σ H Q I ⟨fx, h1, q⟩ => (hb fx h1).run pins s σ H Q I q⟩
  refine ps_conv (ps_par hc hN hi hj hij hx hy (pa_cons ha (pa_cons hb' pa_nil hsb) hsa) hw hs) fun Dn σ H ⟨e, De, E, h, m⟩ => ?_
  refine ⟨e, _, E, h, fun v x fx H1 e1 r1 h1 => ?_⟩
  have cm : ∀ w : V, (σ.set i (some v)).set j (some w) = (σ.set j (some w)).set i (some v) := fun w => List.set_comm _ _ hij
  cases fx with
  | false =>
    refine ⟨Θ.fx, Θ.fx0, e1, _, r1.er, h1, fun w y fy H2 e2 r2 h2 => ⟨v, w, rfl, ?_⟩⟩
    obtain ⟨E3, l3⟩ := store_go (i := j) r2
    obtain ⟨E4, l4⟩ := store_go (i := i) (Res.mk E3 (r1.rp.le l3))
    rw [cm]
    exact m.nx _ _ _ ((r1.le.trans l3).trans l4) E4 h2
  | true =>
    obtain ⟨A, rfl, h0, le, E1, ow⟩ := r1
    obtain ⟨o, ho, hno⟩ := ow.someN
    refine ⟨(Θ.ext A o h0.1).fx, (Θ.ext A o h0.1).fx0, e1, _, E1.toExt (h := h0.1) ho (unT_eq hno), h1, fun w y fy H2 e2 r2 h2 => ⟨.ref A, w, rfl, ?_⟩⟩
    obtain ⟨E3, l3⟩ := store_go (Θ := Θ.ext A o h0.1) (i := j) r2
    have ho2 : H2 A = some o := by have := E3.fxs A _ upd_same; rw [unT_eq hno] at this; exact this
    have E4 := ERepX.ofExt E3 h0.2
    have l4 := (le_in.trans l3).trans (le_out (h := h0.1))
    obtain ⟨E5, l5⟩ := own_go (i := i) E4 h0 (ow.mono l4 fun u q => by rw [ho] at q; cases q; exact ho2)
    rw [cm]
    exact m.nx _ _ _ ((le.trans l4).trans l5) E5 h2
end
end L2.Q
set_option Elab.async false
set_option linter.all false
set_option maxRecDepth 100000
set_option maxHeartbeats 4000000
namespace L2.Q
open PySem PySem.Spec PyProof.Rows L2 L2.Wb RZ
section
variable {Θ : Th} {X : Cx} {pos : Pos}
/-- a dict that no loop walks -/
theorem tyB_of {K : PySem.W.Frag} {C : Cn} {N : Addr → Prop} {H : Hp} {v : V} {d : D} {T : String} (r : Rp C (cut N H) v d) (h : tyName d = some T) (hd : ∀ ks ds, d ≠ .dct ks ds) : TyB K H v T := by
  cases r with
  | non => cases h; exact .non
  | bl b => cases h; exact .bl b
  | int b => cases h; exact .int b
  | str b => cases h; exact .str b
  | lst h1 h2 => cases h; exact .lst (SqL.of (cut_in h1).2)
  | tup h1 h2 => cases h; exact .tup (SqT.of (cut_in h1).2)
  | dct h1 h2 h3 => exact absurd rfl (hd _ _)
  | _ => cases h
/-- type(x): of all but a dict that a loop walks -/
inductive TyW (K : PySem.W.Frag) (H : Hp) : V → String → Prop
  | b {x : V} {T : String} (h : TyB K H x T) : TyW K H x T
  | frz {a : Addr} {o : Obj} {kvs : List (Key × V)} (h : H a = some (.frz o (.dK kvs))) : TyW K H (.ref a) "dict"
def rTypW (K : PySem.W.Frag) : List V → Hp → VK → Prop := fun xs H Q => ∃ x T, xs = [x] ∧ TyW K H x T ∧ Q (.ty T) H
theorem call_typeW : CallR X (.type "type") (rTypW X.K) := by
  intro pins s σ H xs us Q I r h
  obtain ⟨x, T, rfl, t, q⟩ := h
  obtain ⟨u, rfl, rx⟩ := vals1 r
  cases t with
  | b t => exact call_type_of (t.is I rx) t.nb ⟨.ty T, H, I, rfl, q⟩
  | frz h =>
    rename_i a o kvs
    cases (show u = Value.ref a from rx)
    obtain ⟨_, _, _, vs, _, p⟩ := (show ObjOk X.prog X.w H s.heap a (.frz o (.dK kvs)) from I.hok a _ h)
    exact call_type_of p.typeIs (by decide +kernel) ⟨.ty "dict", H, I, rfl, q⟩
def tyF : List D → (D → Bool → Prop) → Prop := fun ds k => match ds with
  | [d] => ∃ n, tyName d = some n ∧ k (.raw (.ty n)) false
  | _ => False
theorem cq_type : CaQ X Θ (.type "type") tyF := by
  refine ⟨_, call_typeW, fun σ H e vs ds k Q E r h K => ?_⟩
  match ds, r, h with
  | [d], r, ⟨n, hn, hk⟩ =>
    obtain ⟨v, rfl, rv⟩ := r.one
    refine ⟨v, n, rfl, ?_, K _ _ _ _ (Res.mk E (.raw _)) hk⟩
    cases rv with
    | dct h1 h2 h3 =>
      cases hn
      rcases (cut_rd h1).2 with z | ⟨o, z⟩
      · exact .b (.dK z)
      · exact .frz z
    | non => exact .b (tyB_of (C := Θ.C) (N := Mm Θ XO σ e.sl) .non hn (fun _ _ z => D.noConfusion z))
    | bl b => exact .b (tyB_of (C := Θ.C) (N := Mm Θ XO σ e.sl) (.bl b) hn (fun _ _ z => D.noConfusion z))
    | int b => exact .b (tyB_of (C := Θ.C) (N := Mm Θ XO σ e.sl) (.int b) hn (fun _ _ z => D.noConfusion z))
    | str b => exact .b (tyB_of (C := Θ.C) (N := Mm Θ XO σ e.sl) (.str b) hn (fun _ _ z => D.noConfusion z))
    | lst h1 h2 => exact .b (tyB_of (.lst h1 h2) hn (fun _ _ z => D.noConfusion z))
    | tup h1 h2 => exact .b (tyB_of (.tup h1 h2) hn (fun _ _ z => D.noConfusion z))
    | _ => cases hn
/-- type(x) is T, is not T -/
def isTF : F2 := fun x y k => match x, y with
  | .raw (.ty a), .raw (.ty b) => k (.bl (decide (a = b))) false
  | _, _ => False
def isntTF : F2 := fun x y k => match x, y with
  | .raw (.ty a), .raw (.ty b) => k (.bl (!decide (a = b))) false
  | _, _ => False
theorem oq_isT : OpQ X Θ (compareOp .Is) isTF := ⟨_, op_isTyB, fun σ H e v w x y k Q E rx ry h K => by
  match x, y, rx, ry, h with
  | .raw (.ty a), .raw (.ty b), rx, ry, h =>
    cases rx; cases ry
    exact ⟨a, b, rfl, rfl, K _ _ _ _ (Res.mk E (.bl _)) h⟩⟩
theorem oq_isntT : OpQ X Θ (compareOp .IsNot) isntTF := ⟨_, op_notTyB, fun σ H e v w x y k Q E rx ry h K => by
  match x, y, rx, ry, h with
  | .raw (.ty a), .raw (.ty b), rx, ry, h =>
    cases rx; cases ry
    exact ⟨a, b, rfl, rfl, K _ _ _ _ (Res.mk E (.bl _)) h⟩⟩
end
end L2.Q
set_option Elab.async false
set_option linter.all false
set_option maxRecDepth 100000
set_option maxHeartbeats 4000000
namespace PySem.Lz
open PySem PySem.Spec
abbrev lObj (acc : Array Value) (c : Nat) : Obj := { cls := .type "list", dict := none, data := .seq acc c, slots := #[] }
/-- the pairs that came -/
structure Prs (n0 : Nat) (xs ys : Array Value) (S : Addr) (h : Heap) (Ts : List Addr) : Prop where
  at_ : ∀ (j : Nat) (T : Addr), Ts[j]? = some T → ∃ x y, xs[j]? = some x ∧ ys[j]? = some y ∧ IsPair h T x y
  lo : ∀ T ∈ Ts, n0 ≤ T
  nS : ∀ T ∈ Ts, T ≠ S
  nd : Ts.Nodup
structure Stt (n0 : Nat) (xs ys : Array Value) (S z TI TO i1 i2 l1 l2 : Addr) (i : Nat) (Ts : List Addr) (h0 h : Heap) : Prop where
  k : ∀ b o, b < n0 → h0.get? b = some o → h.get? b = some o
  hTI : IsPair h TI (.ref i1) (.ref i2)
  h1 : h.IsListIter i1 l1 i
  h2 : h.IsListIter i2 l2 i
  L1 : h.IsList l1 xs
  L2 : h.IsList l2 ys
  zz : (IsZip h z TI TO .none ∧ ∃ a b, IsPair h TO a b) ∨ ∃ T f oT, IsZipHeld h z TI TO T f ∧ h.get? T = some oT ∧ T ≠ z ∧ T ≠ i1 ∧ T ≠ i2 ∧ T ≠ S
  ps : Prs n0 xs ys S h Ts
  ln : Ts.length = i
  of : ∀ T ∈ Ts, T ≠ z ∧ T ≠ TO ∧ T ≠ i1 ∧ T ≠ i2
  sz : n0 ≤ h.objs.size
  tx : ∃ o, h.get? TO = some o
structure Ap (n0 : Nat) (S z TI TO i1 i2 l1 l2 : Addr) : Prop where
  D : ZipApart z TI TO i1 i2 l1 l2
  z0 : n0 ≤ z
  TO0 : n0 ≤ TO
  i10 : n0 ≤ i1
  i20 : n0 ≤ i2
  S0 : n0 ≤ S
  Sz : S ≠ z
  STI : S ≠ TI
  STO : S ≠ TO
  Si1 : S ≠ i1
  Si2 : S ≠ i2
  Sl1 : S ≠ l1
  Sl2 : S ≠ l2
theorem Prs.keep {n0 : Nat} {xs ys : Array Value} {S : Addr} {h h' : Heap} {Ts : List Addr} (p : Prs n0 xs ys S h Ts) (k : ∀ T ∈ Ts, ∀ o, h.get? T = some o → h'.get? T = some o) : Prs n0 xs ys S h' Ts :=
  ⟨fun j T e => by
    obtain ⟨x, y, a, b, c⟩ := p.at_ j T e
    exact ⟨x, y, a, b, k T (List.mem_of_getElem? e) _ c⟩, p.lo, p.nS, p.nd⟩
theorem Stt.push {n0 : Nat} {xs ys : Array Value} {S z TI TO i1 i2 l1 l2 : Addr} {i : Nat} {Ts : List Addr} {h0 h h' : Heap} (A : Ap n0 S z TI TO i1 i2 l1 l2) (st : Stt n0 xs ys S z TI TO i1 i2 l1 l2 i Ts h0 h) (k : ∀ b o, b ≠ S → h.get? b = some o → h'.get? b = some o) (z' : n0 ≤ h'.objs.size) : Stt n0 xs ys S z TI TO i1 i2 l1 l2 i Ts h0 h' := by
  refine ⟨fun b o hb e => k b o (fun q => by rw [q] at hb; exact absurd A.S0 (Nat.not_le.mpr hb)) (st.k b o hb e), k _ _ (Ne.symm A.STI) st.hTI, st.h1.at fun o e => k _ o (Ne.symm A.Si1) e, st.h2.at fun o e => k _ o (Ne.symm A.Si2) e, st.L1.at fun o e => k _ o (Ne.symm A.Sl1) e, st.L2.at fun o e => k _ o (Ne.symm A.Sl2) e, ?_, st.ps.keep fun T hT o e => k T o (st.ps.nS T hT) e, st.ln, st.of, z', let ⟨o, e⟩ := st.tx; ⟨o, k _ _ (Ne.symm A.STO) e⟩⟩
  rcases st.zz with ⟨a, x, y, b⟩ | ⟨T, f, oT, a, b, c, d, e, g⟩
  · exact .inl ⟨k _ _ (Ne.symm A.Sz) a, x, y, k _ _ (Ne.symm A.STO) b⟩
  · exact .inr ⟨T, f, oT, k _ _ (Ne.symm A.Sz) a, k _ _ g b, c, d, e, g⟩
section
variable {prog : Program} {w : World} {A : Around} {R : Result → Shared → Prop} {n0 : Nat} {xs ys : Array Value} {S z TI TO i1 i2 l1 l2 : Addr} {h0 : Heap} {res : Value}
theorem step {i : Nat} {Ts : List Addr} {s : Shared} {Q : Option Value → Shared → Prop} {E : Value → Shared → Prop} {acc : Array Value} {c : Nat} (Ax : Ap n0 S z TI TO i1 i2 l1 l2) (st : Stt n0 xs ys S z TI TO i1 i2 l1 l2 i Ts h0 s.heap) (hS : s.heap.get? S = some (lObj acc c)) (hx : i < xs.size) (hy : i < ys.size)
    (hQ : ∀ h', Stt n0 xs ys S z TI TO i1 i2 l1 l2 (i + 1) (Ts ++ [s.heap.objs.size]) h0 h' → h'.get? S = some (lObj acc c) → Q (some (.ref s.heap.objs.size)) { s with heap := h' }) : wpAny (model prog w) A (pyNext (.ref z)) Q E s := by
  have ex := Array.getElem?_eq_getElem hx
  have ey := Array.getElem?_eq_getElem hy
  have lt : ∀ {c o}, s.heap.get? c = some o → s.heap.objs.size ≠ c := fun e => Nat.ne_of_gt (Heap.lt_size e)
  have n1 : s.heap.objs.size ≠ i1 := let ⟨_, e, _⟩ := st.h1; lt e
  have n2 : s.heap.objs.size ≠ i2 := let ⟨_, e, _⟩ := st.h2; lt e
  have nS : s.heap.objs.size ≠ S := lt hS
  have D := Ax.D
  have go : ∀ h', (∀ b o, b ≠ z → b ≠ TO → b ≠ i1 → b ≠ i2 → s.heap.get? b = some o → h'.get? b = some o) → h'.IsListIter i1 l1 (i + 1) → h'.IsListIter i2 l2 (i + 1) → IsPair h' s.heap.objs.size xs[i] ys[i] → h'.objs.size = s.heap.objs.size + 1 →
      (∃ T f oT, IsZipHeld h' z TI TO T f ∧ h'.get? T = some oT ∧ T ≠ z ∧ T ≠ i1 ∧ T ≠ i2 ∧ T ≠ S) → (∃ o, h'.get? TO = some o) → s.heap.objs.size ≠ z → s.heap.objs.size ≠ TO → Q (some (.ref s.heap.objs.size)) { s with heap := h' } := fun h' hk g1 g2 gp gs gz gT nz nT => by
    refine hQ h' ⟨fun b o hb e => hk b o (fun q => by rw [q] at hb; exact absurd Ax.z0 (Nat.not_le.mpr hb)) (fun q => by rw [q] at hb; exact absurd Ax.TO0 (Nat.not_le.mpr hb)) (fun q => by rw [q] at hb; exact absurd Ax.i10 (Nat.not_le.mpr hb)) (fun q => by rw [q] at hb; exact absurd Ax.i20 (Nat.not_le.mpr hb)) (st.k b o hb e),
      hk _ _ D.TIz D.TITO D.TIi1 D.TIi2 st.hTI, g1, g2, st.L1.at fun o e => hk _ o D.l1z D.l1TO D.l1i1 D.l1i2 e, st.L2.at fun o e => hk _ o D.l2z D.l2TO D.l2i1 D.l2i2 e, .inr gz, ?_, by rw [List.length_append, st.ln]; rfl, ?_, by rw [gs]; exact Nat.le_succ_of_le st.sz, gT⟩
      (hk _ _ Ax.Sz Ax.STO Ax.Si1 Ax.Si2 hS)
    · have p := st.ps.keep (h' := h') fun T hT o e => by
        obtain ⟨a, b, c, d⟩ := st.of T hT
        exact hk T o a b c d e
      refine ⟨fun j T e => ?_, fun T hT => ?_, fun T hT => ?_, ?_⟩
      · by_cases hj : j < Ts.length
        · rw [List.getElem?_append_left hj] at e
          exact p.at_ j T e
        · rw [List.getElem?_append_right (Nat.not_lt.mp hj)] at e
          have : j - Ts.length = 0 := by
            have := (List.getElem?_eq_some_iff.mp e).1
            simp at this; omega
          have hj2 : j = i := by rw [← st.ln]; omega
          rw [this] at e
          cases e
          subst hj2
          exact ⟨_, _, ex, ey, gp⟩
      · rcases List.mem_append.mp hT with q | q
        · exact p.lo T q
        · rw [List.mem_singleton.mp q]; exact st.sz
      · rcases List.mem_append.mp hT with q | q
        · exact p.nS T q
        · rw [List.mem_singleton.mp q]; exact nS
      · refine List.nodup_append.mpr ⟨p.nd, List.nodup_cons.mpr ⟨List.not_mem_nil, List.nodup_nil⟩, fun a ha b hb q => ?_⟩
        rw [List.mem_singleton.mp hb] at q
        obtain ⟨j, hj⟩ := List.mem_iff_getElem?.mp ha
        obtain ⟨_, _, _, _, e⟩ := st.ps.at_ j a hj
        exact absurd q.symm (lt e)
    · intro T hT
      rcases List.mem_append.mp hT with q | q
      · exact st.of T q
      · rw [List.mem_singleton.mp q]; exact ⟨nz, nT, n1, n2⟩
  rcases st.zz with ⟨hz, a, b, hTO⟩ | ⟨T, f, oT, hz, hT, r1, r2, r3, r4⟩
  · refine wpAny_pyNext_zip_item D hz st.hTI hTO st.h1 st.h2 st.L1 st.L2 ex ey fun h' a1 a2 a3 a4 a5 a6 hk => ?_
    exact go h' hk a3 a4 a5 a6 ⟨_, false, _, a1, a5, lt hz, n1, n2, nS⟩ ⟨_, a2⟩ (lt hz) (lt hTO)
  · refine wpAny_pyNext_zip_item_held D hz hT st.hTI st.h1 st.h2 st.L1 st.L2 ex ey fun h' a1 a3 a4 a5 a6 hk => ?_
    exact go h' (fun b o q1 _ q3 q4 e => hk b o q1 q3 q4 e) a3 a4 a5 a6 ⟨T, true, oT, a1, hk _ _ r1 r2 r3 hT, r1, r2, r3, r4⟩ (let ⟨o, e⟩ := st.tx; ⟨o, hk _ _ D.TOz D.TOi1 D.TOi2 e⟩) (lt hz) (let ⟨o, e⟩ := st.tx; lt e)
theorem stop {i : Nat} {Ts : List Addr} {s : Shared} {Q : Option Value → Shared → Prop} {E : Value → Shared → Prop} {acc : Array Value} {c : Nat} (hh : A.handled = none) (Ax : Ap n0 S z TI TO i1 i2 l1 l2) (st : Stt n0 xs ys S z TI TO i1 i2 l1 l2 i Ts h0 s.heap) (hS : s.heap.get? S = some (lObj acc c)) (he : xs.size ≤ i ∨ ys.size ≤ i)
    (hQ : ∀ h', (∀ b o, b < n0 → h0.get? b = some o → h'.get? b = some o) → Prs n0 xs ys S h' Ts → h'.get? S = some (lObj acc c) → Q none { s with heap := h' }) : wpAny (model prog w) A (pyNext (.ref z)) Q E s := by
  have hend : xs[i]? = none ∨ ys[i]? = none := he.imp (fun h => Array.getElem?_eq_none h) fun h => Array.getElem?_eq_none h
  have go : ∀ h', (∀ b o, b ≠ z → b ≠ TO → b ≠ i1 → b ≠ i2 → s.heap.get? b = some o → h'.get? b = some o) → Q none { s with heap := h' } := fun h' hk =>
    hQ h' (fun b o hb e => hk b o (fun q => by rw [q] at hb; exact absurd Ax.z0 (Nat.not_le.mpr hb)) (fun q => by rw [q] at hb; exact absurd Ax.TO0 (Nat.not_le.mpr hb)) (fun q => by rw [q] at hb; exact absurd Ax.i10 (Nat.not_le.mpr hb)) (fun q => by rw [q] at hb; exact absurd Ax.i20 (Nat.not_le.mpr hb)) (st.k b o hb e))
      (st.ps.keep fun T hT o e => by
        obtain ⟨a, b, c, d⟩ := st.of T hT
        exact hk T o a b c d e) (hk _ _ Ax.Sz Ax.STO Ax.Si1 Ax.Si2 hS)
  rcases st.zz with ⟨hz, a, b, hTO⟩ | ⟨T, f, oT, hz, hT, r1, r2, r3, r4⟩
  · exact wpAny_pyNext_zip_end hh Ax.D hz st.hTI hTO st.h1 st.h2 st.L1 st.L2 hend fun h' hk => go h' hk
  · exact wpAny_pyNext_zip_end_held hh Ax.D hz hT st.hTI st.h1 st.h2 st.L1 st.L2 hend fun h' hk => go h' fun b o q1 _ q3 q4 e => hk b o q1 q3 q4 e
theorem drain (hh : A.handled = none) (Ax : Ap n0 S z TI TO i1 i2 l1 l2) (hn : min xs.size ys.size ≤ sizeLine) :
    ∀ (k i : Nat) (s : Shared) (Ts : List Addr) (c : Nat), min xs.size ys.size - i = k → i ≤ min xs.size ys.size → Stt n0 xs ys S z TI TO i1 i2 l1 l2 i Ts h0 s.heap → s.heap.get? S = some (lObj (Ts.map Value.ref).toArray c) →
    (∀ h' Ts' c', (∀ b o, b < n0 → h0.get? b = some o → h'.get? b = some o) → Prs n0 xs ys S h' Ts' → Ts'.length = min xs.size ys.size → h'.get? S = some (lObj (Ts'.map Value.ref).toArray c') → R (.ok (.ret res)) { s with heap := h' }) →
    codeAny (model prog w) A (.builtin "list.extend.loop" ⟨[.ref S, .ref z, res], []⟩) R s := by
  intro k
  induction k with
  | zero =>
    intro i s Ts c hk hi st hS hR
    have hin : i = min xs.size ys.size := by omega
    refine codeAny_builtin F.entry_extend_loop ?_
    rw [Around.under_plainId F.plain_extend_loop _]
    show wpAny _ A.in1 (pyNext (.ref z) >>= _) _ _ s
    refine wpAny_bind (stop (A := A.in1) hh Ax st hS (by omega) fun h' hk hp hS' => ?_)
    exact wpAny_pure (hR h' Ts c hk hp (by rw [st.ln, hin]) hS')
  | succ k ih =>
    intro i s Ts c hk hi st hS hR
    have hx : i < xs.size := by omega
    have hy : i < ys.size := by omega
    refine codeAny_builtin F.entry_extend_loop ?_
    rw [Around.under_plainId F.plain_extend_loop _]
    show wpAny _ A.in1 (pyNext (.ref z) >>= _) _ _ s
    refine wpAny_bind (step (A := A.in1) Ax st hS hx hy fun h' st' hS' => ?_)
    show wpAny _ A.in1 (updateSeq S (·.push (.ref s.heap.objs.size)) >>= _) _ _ _
    refine wpAny_bind ?_
    have hsz : (Ts.map Value.ref).toArray.size = i := by simp [st.ln]
    have e2 : (Ts.map Value.ref).toArray.push (.ref s.heap.objs.size) = ((Ts ++ [s.heap.objs.size]).map Value.ref).toArray := by simp
    refine wpAny_updateSeq hS' rfl (wpAny_pure ⟨plainId_quiet F.plain_extend_loop _, ?_⟩) (by rw [hsz]; omega) (by show ((Ts.map Value.ref).toArray.push _).size ≤ sizeLine + 1; rw [Array.size_push, hsz]; omega)
    have keep3 : ∀ b o, b ≠ S → h'.get? b = some o → (h'.update S (Obj.mapSeq (·.push (.ref s.heap.objs.size)))).get? b = some o := fun b o hbS e => (Heap.get?_update_other _ _ (Ne.symm hbS)).trans e
    obtain ⟨c2, e3⟩ : ∃ c2, (h'.update S (Obj.mapSeq (·.push (.ref s.heap.objs.size)))).get? S = some (lObj ((Ts.map Value.ref).toArray.push (.ref s.heap.objs.size)) c2) := ⟨_, Heap.get?_update_self _ hS' rfl⟩
    rw [e2] at e3
    refine ih (i + 1) _ (Ts ++ [s.heap.objs.size]) c2 (by omega) (by omega) (st'.push Ax keep3 ?_) e3 fun h'' Ts' c' a1 a2 a3 a4 => hR h'' Ts' c' a1 a2 a3 a4
    have := st'.sz
    simpa [Heap.update] using this
end
end PySem.Lz
set_option Elab.async false
set_option linter.all false
set_option maxRecDepth 100000
set_option maxHeartbeats 4000000
namespace PySem.Lz
open PySem PySem.Spec
theorem zip_no_len : typeLookup (.type "zip") "__len__" = pure none := by rw [typeLookup_type, builtinLookup_eq_fast]; kernel_rfl
theorem zip_no_hint : typeLookup (.type "zip") "__length_hint__" = pure none := by rw [typeLookup_type, builtinLookup_eq_fast]; kernel_rfl
section
variable {prog : Program} {w : World} {A : Around} {E : Value → Shared → Prop} {s : Shared} {n0 : Nat} {xs ys : Array Value} {z TI TO i1 i2 l1 l2 : Addr} {h0 : Heap}
theorem call_list_zip {Q : Value → Shared → Prop} (hh : A.handled = none) (D : ZipApart z TI TO i1 i2 l1 l2) (b1 : n0 ≤ z) (b2 : n0 ≤ TO) (b3 : n0 ≤ i1) (b4 : n0 ≤ i2) (k0 : ∀ b o, b < n0 → h0.get? b = some o → s.heap.get? b = some o)
    (hz : IsZip s.heap z TI TO .none) (hTI : IsPair s.heap TI (.ref i1) (.ref i2)) {x0 y0 : Value} (hTO : IsPair s.heap TO x0 y0) (h1 : s.heap.IsListIter i1 l1 0) (h2 : s.heap.IsListIter i2 l2 0) (L1 : s.heap.IsList l1 xs) (L2 : s.heap.IsList l2 ys)
    (hn : min xs.size ys.size ≤ sizeLine) (hQ : ∀ h' Ts c', (∀ b o, b < n0 → h0.get? b = some o → h'.get? b = some o) → Prs n0 xs ys s.heap.objs.size h' Ts → Ts.length = min xs.size ys.size → h'.get? s.heap.objs.size = some (lObj (Ts.map Value.ref).toArray c') → Q (.ref s.heap.objs.size) { s with heap := h' }) :
    wpAny (model prog w) A (call (.type "list") [.ref z]) Q E s := by
  have lt : ∀ {c o}, s.heap.get? c = some o → s.heap.objs.size ≠ c := fun e => Nat.ne_of_gt (Heap.lt_size e)
  have n0s : n0 ≤ s.heap.objs.size := Nat.le_trans b1 (Nat.le_of_lt (Heap.lt_size hz))
  have Ax : Ap n0 s.heap.objs.size z TI TO i1 i2 l1 l2 := ⟨D, b1, b2, b3, b4, n0s, lt hz, lt hTI, lt hTO, let ⟨_, e, _⟩ := h1; lt e, let ⟨_, e, _⟩ := h2; lt e, let ⟨_, e, _⟩ := L1; lt e, let ⟨_, e, _⟩ := L2; lt e⟩
  have S0 : Stt n0 xs ys s.heap.objs.size z TI TO i1 i2 l1 l2 0 [] h0 s.heap := ⟨k0, hTI, h1, h2, L1, L2, .inl ⟨hz, _, _, hTO⟩, ⟨(fun j T e => (nomatch e)), (fun T h => (nomatch h)), (fun T h => (nomatch h)), List.nodup_nil⟩, rfl, (fun T h => (nomatch h)), n0s, ⟨_, hTO⟩⟩
  have hSa : s.heap.objs.size ≠ z := lt hz
  refine callType_codes (Q₁ := fun obj s₁ => obj = .ref s.heap.objs.size ∧ s₁ = { s with heap := s.heap.push { cls := .type "list", data := .seq #[] } }) F.called_list (F.typeCall_list_1 _) F.entry_list_init
    (code_list_new _ ⟨rfl, rfl⟩) fun obj s₁ h₁ => ?_
  obtain ⟨rfl, rfl⟩ := h₁
  have hS : (s.heap.push { cls := .type "list", data := .seq #[] }).get? s.heap.objs.size = some { cls := .type "list", data := .seq #[] } := Heap.get?_push_size _ rfl
  refine ⟨⟨_, hS, rfl⟩, F.args_list_init_2 _ _, ?_⟩
  show wpAny _ A.in1.in1 (do let old ← Builtin.List.listItems (.ref s.heap.objs.size); Builtin.List.listUpdate (.ref s.heap.objs.size) (fun _ => #[]); letGo old.toList.reverse; Builtin.List.listExtendWith (.ref s.heap.objs.size) (.ref z) .none) _ _ _
  refine wpAny_bind ?_
  unfold Builtin.List.listItems
  refine wpAny_bind (wpAny_seqItems hS rfl (wpAny_pure ?_))
  show wpAny _ A.in1.in1 (updateSeq s.heap.objs.size (fun _ => #[]) >>= fun _ => letGo (#[] : Array Value).toList.reverse >>= fun _ => Builtin.List.listExtendWith (.ref s.heap.objs.size) (.ref z) .none) _ _ _
  refine wpAny_bind (wpAny_updateSeq hS rfl ?_)
  have hS2 := Heap.get?_update_self (Obj.mapSeq (fun _ => (#[] : Array Value))) hS rfl
  refine wpAny_bind (wpAny_letGo ?_)
  unfold Builtin.List.listExtendWith
  have up : ∀ (h : Heap) (f : Obj → Obj), (∀ b o, b ≠ s.heap.objs.size → s.heap.get? b = some o → h.get? b = some o) → ∀ b o, b ≠ s.heap.objs.size → s.heap.get? b = some o → (h.update s.heap.objs.size f).get? b = some o := fun h f q b o n e =>
    (Heap.get?_update_other _ _ (Ne.symm n)).trans (q b o n e)
  have k1 : ∀ b o, b ≠ s.heap.objs.size → s.heap.get? b = some o → (s.heap.push { cls := .type "list", data := .seq #[] }).get? b = some o := fun b o _ e => Heap.get?_push_of_some _ e
  have k2 := up _ (Obj.mapSeq (fun _ => (#[] : Array Value))) k1
  have gty : ∀ {h : Heap}, (∀ b o, b ≠ s.heap.objs.size → s.heap.get? b = some o → h.get? b = some o) → ∀ {g d t os}, Shared.TypeIs ⟨h, g, d, t, os⟩ (.ref z) "zip" := fun {h} q {g d t os} => ⟨_, q z _ (Ne.symm hSa) hz, rfl⟩
  refine wpAny_bind (wpAny_typeOf (gty k2) ?_)
  have e1 : Builtin.List.listSameRef (.ref s.heap.objs.size) (.ref z) = false := by simp [Builtin.List.listSameRef, hSa]
  have e2 : (Value.type "zip" == Value.type "list") = false := by decide
  have e3 : (Value.type "zip" == Value.type "tuple") = false := by decide
  simp only [e1, e2, e3, Bool.or_false, Bool.false_eq_true, if_false]
  refine wpAny_bind (wpAny_pyIter_zip (TI := TI) (TO := TO) (f0 := .none) (k2 z _ (Ne.symm hSa) hz) ?_)
  refine wpAny_bind (wpAny_holding ?_)
  unfold Builtin.List.listLengthHint
  refine wpAny_bind (wpAny_specialOf (gty k2) zip_no_len ?_)
  show wpAny _ A.in1.in1 (specialOf (Value.ref z) (Str.ofString "__length_hint__") >>= _) _ _ _
  refine wpAny_bind (wpAny_specialOf (gty k2) zip_no_hint ?_)
  refine wpAny_pure ?_
  show wpAny _ A.in1.in1 (rule "list.extend.makes-room" >>= fun _ => Builtin.List.listTouch (.ref s.heap.objs.size) >>= fun _ =>
    again (.builtin "list.extend.loop" ⟨[.ref s.heap.objs.size, .ref z, .none], []⟩)) _ _ _
  refine wpAny_bind (wpAny_rule ?_)
  refine wpAny_bind ?_
  show wpAny _ A.in1.in1 (updateSeq s.heap.objs.size (·.push .none) >>= fun _ => updateSeq s.heap.objs.size (·.pop)) _ _ _
  refine wpAny_bind (wpAny_updateSeq hS2 rfl ?_)
  have hS3 := Heap.get?_update_self (Obj.mapSeq (·.push Value.none)) hS2 rfl
  refine wpAny_updateSeq (hz := by seq_fits) hS3 rfl ?_
  have hS4 := Heap.get?_update_self (Obj.mapSeq (·.pop)) hS3 rfl
  have k4 := up _ (Obj.mapSeq (·.pop)) (up _ (Obj.mapSeq (·.push Value.none)) k2)
  refine wpAny_pure ⟨plainId_quiet F.plain_extend_loop _, ?_⟩
  have sz : ∀ (h : Heap) (f : Obj → Obj), n0 ≤ h.objs.size → n0 ≤ (h.update s.heap.objs.size f).objs.size := fun h f q => by rw [Heap.size_update]; exact q
  have q0 : n0 ≤ (s.heap.push { cls := .type "list", data := .seq #[] }).objs.size := by rw [Heap.size_push]; omega
  have st4 := S0.push Ax k4 (sz _ _ (sz _ _ (sz _ _ q0)))
  revert hS4 st4
  generalize (((s.heap.push { cls := .type "list", data := .seq #[] }).update s.heap.objs.size (Obj.mapSeq fun _ => #[])).update s.heap.objs.size (Obj.mapSeq (·.push Value.none))).update s.heap.objs.size (Obj.mapSeq (·.pop)) = h4
  intro hS4 st4
  refine drain (A := A.in1) (n0 := n0) (h0 := h0) hh Ax hn _ 0 _ [] _ rfl (Nat.zero_le _) st4 hS4 fun h' Ts' c' a1 a2 a3 a4 => ⟨rfl, hQ h' Ts' c' a1 a2 a3 a4⟩
end
end PySem.Lz
set_option Elab.async false
set_option linter.all false
set_option maxRecDepth 100000
set_option maxHeartbeats 4000000
namespace L2.Wb
open PySem PySem.Spec PyProof.Rows
/-- new pairs and a list of them -/
structure ZL (H H' : Hp) (p : Addr) (Ts : List Addr) (xs ys : List V) : Prop where
  s : Same H H'
  p0 : H p = none
  at_ : ∀ (j : Nat) (T : Addr), Ts[j]? = some T → ∃ x y, xs[j]? = some x ∧ ys[j]? = some y ∧ H' T = some (.tup [x, y])
  l : H' p = some (.lst (Ts.map V.ref))
  n : Ts.length = min xs.length ys.length
  nw : ∀ (j : Nat) (T : Addr), Ts[j]? = some T → H T = none
section
variable {X : Cx} {pins : List (Addr × Obj)} {σ : St} {H : Hp} {s : Shared}
theorem pairs_in {xs ys : List V} {us ws : List Value} {S : Addr} {h' : Heap} {Ps : List Addr} (hv : Vals xs us) (hw : Vals ys ws) (k : ∀ b u, s.heap.get? b = some u → h'.get? b = some u) (I : Inv X pins σ H s) (Pr : PySem.Lz.Prs s.heap.objs.size us.toArray ws.toArray S h' Ps) :
    ∀ (n : Nat), n ≤ Ps.length → ∃ H', HOk X.prog X.w H' h' ∧ Same H H' ∧ (∀ b, H' b ≠ none → H b ≠ none ∨ b ∈ Ps.take n) ∧ (∀ (j : Nat) (T : Addr), j < n → Ps[j]? = some T → ∃ x y, xs[j]? = some x ∧ ys[j]? = some y ∧ H' T = some (.tup [x, y]))
  | 0, _ => ⟨H, I.hok.kept k, Same.refl _, fun b h => .inl h, fun j T h => absurd h (Nat.not_lt_zero _)⟩
  | n + 1, hn => by
    obtain ⟨H1, ok, sm, hb, at1⟩ := pairs_in hv hw k I Pr n (Nat.le_of_succ_le hn)
    obtain ⟨T, hT⟩ : ∃ T, Ps[n]? = some T := ⟨Ps[n], List.getElem?_eq_getElem hn⟩
    obtain ⟨u, v, hu, hv', hp⟩ := Pr.at_ n T hT
    obtain ⟨x, hx, rx⟩ : ∃ x, xs[n]? = some x ∧ RelV x u := by
      have e : us[n]? = some u := by simpa using hu
      have hl : n < xs.length := by rw [hv.length]; exact (List.getElem?_eq_some_iff.mp e).1
      obtain ⟨u', e1, r⟩ := hv.get (List.getElem?_eq_getElem hl)
      rw [e] at e1; cases e1
      exact ⟨_, List.getElem?_eq_getElem hl, r⟩
    obtain ⟨y, hy, ry⟩ : ∃ y, ys[n]? = some y ∧ RelV y v := by
      have e : ws[n]? = some v := by simpa using hv'
      have hl : n < ys.length := by rw [hw.length]; exact (List.getElem?_eq_some_iff.mp e).1
      obtain ⟨u', e1, r⟩ := hw.get (List.getElem?_eq_getElem hl)
      rw [e] at e1; cases e1
      exact ⟨_, List.getElem?_eq_getElem hl, r⟩
    have hn0 : H T = none := I.hok.fresh (Pr.lo T (List.mem_of_getElem? hT))
    have nT : T ∉ Ps.take n := fun h => by
      obtain ⟨i, hi⟩ := List.mem_iff_getElem?.mp h
      rw [List.getElem?_take] at hi
      by_cases c : i < n
      · rw [if_pos c] at hi
        have := (List.getElem?_inj (by omega) Pr.nd).mp (hi.trans hT.symm); omega
      · rw [if_neg c] at hi; cases hi
    have h1n : H1 T = none := by
      cases q : H1 T with
      | none => rfl
      | some o =>
        rcases hb T (by rw [q]; exact fun z => nomatch z) with z | z
        · exact absurd hn0 z
        · exact absurd z nT
    refine ⟨upd H1 T (.tup [x, y]), fun b o q => ?_, fun b o q => ?_, fun b q => ?_, fun j T' hj hT' => ?_⟩
    · by_cases c : b = T
      · subst c
        rw [upd_same] at q; cases q
        exact ⟨by show 2 ≤ sizeLine; decide, [u, v], .cons rx (.cons ry .nil), ⟨_, hp, rfl, _, rfl⟩⟩
      · rw [upd_ne c] at q
        exact (ok b o q).stay (fun _ _ _ r => r) (fun c r => by rw [upd_ne (ne_of_none r h1n)]; exact r) fun c xs r => by rw [upd_ne (ne_of_none r h1n)]; exact r
    · have z := sm b o q
      rw [upd_ne (ne_of_none z h1n)]; exact z
    · by_cases c : b = T
      · right
        rw [c, List.take_add_one, hT]
        exact List.mem_append_right _ (List.mem_singleton.mpr rfl)
      · rw [upd_ne c] at q
        rcases hb b q with z | z
        · exact .inl z
        · right
          rw [List.take_add_one]
          exact List.mem_append_left _ z
    · rcases Nat.lt_succ_iff_lt_or_eq.mp hj with c | c
      · obtain ⟨x', y', e1, e2, e3⟩ := at1 j T' c hT'
        exact ⟨x', y', e1, e2, by rw [upd_ne (ne_of_none e3 h1n)]; exact e3⟩
      · subst c
        rw [hT] at hT'; cases hT'
        exact ⟨x, y, hx, hy, upd_same⟩
/-- list(zip(a, b)) -/
def tListZip (K : PySem.W.Frag) (ta : TA) : TE := fun σ H Q => ta σ H fun vs H1 => ∃ a b xs ys, vs = [.ref a, .ref b] ∧ SqL K H1 a xs ∧ SqL K H1 b ys ∧ ∀ p Ts H', ZL H1 H' p Ts xs ys → Q (.ref p) H'
end
theorem pe_listZip {X : Cx} {e e2 : Expr} {ta : TA} {p p2 pz pos : Pos} (hc : X.calm = true) (hgl : Gl X "list") (hml : X.mg "list" = none) (hg : Gl X "zip") (hm : X.mg "zip" = none) (ha : PA X [e, e2] ta)
    (hs : starEach [e, e2] X.env = (false, eval e X.env) :: starEach [e2] X.env := by rfl) (hpl : (backTo pz (starEach [e2] X.env)).any (·.1) = false := by rfl)
    (hs2 : starEach [.Call (.Name "zip" p) [e, e2] [] pz] X.env = (false, eval (.Call (.Name "zip" p) [e, e2] [] pz) X.env) :: starEach [] X.env := by rfl) (hpl2 : (backTo pos (starEach [] X.env)).any (·.1) = false := by rfl) :
    PE X (.Call (.Name "list" p2) [.Call (.Name "zip" p) [e, e2] [] pz] [] pos) (tListZip X.K ta) := by
  refine ⟨fun pins s σ H Q I h => ?_⟩
  refine Call_ (ld_blt (u := .type "list") I hgl hml (by decide +kernel) ?_)
  refine PyProof.Rows.callWith_type1 ?_ hs2 hpl2
  rw [hs2]
  refine Calls.spliced_cons ?_
  refine Call_ (ld_blt I hg hm PyProof.Rows.boot_zip (PyProof.Rows.callWith_type1 (thn (ha.run pz pins s σ H _ I h) fun us s1 ⟨vs, H1, I1, r1, q1⟩ => ?_) hs hpl))
  obtain ⟨a, b, xs, ys, ex, hqx, hqy, q⟩ := q1
  subst ex
  cases r1 with
  | cons r rr =>
    cases rr with
    | cons r' rr =>
      cases rr
      cases r
      cases r'
      obtain ⟨its, rv, p1, z1⟩ := I1.list hqx
      obtain ⟨its2, rv2, p2, z2⟩ := I1.list hqy
      have la : a < s1.heap.objs.size := p1.lt
      have lb : b < s1.heap.objs.size := p2.lt
      refine call_zip_2 p1.isList p2.isList fun h' hz hTI hTO h1 h2 hsz hk => ?_
      refine Calls.spliced_nil ?_
      have D := PySem.W.ktu_apart s1.heap.objs.size a b la lb
      have L1 := p1.isList.at fun o e => hk _ o e
      have L2' := p2.isList.at fun o e => hk _ o e
      have len1 := rv.length
      refine PySem.Lz.call_list_zip (s := { s1 with heap := h' }) (n0 := s1.heap.objs.size) (h0 := s1.heap) (I1.ok.hd hc) D (Nat.le_add_right _ _) (Nat.le_add_right _ _) (Nat.le_refl _) (Nat.le_add_right _ _) (fun b o _ e => hk b o e) hz hTI hTO h1 h2 L1 L2' ?_ fun h2' Ts c' k2 Pr hl hS => ?_
      · simp only [List.size_toArray]; omega
      have kk : ∀ b u, s1.heap.get? b = some u → h2'.get? b = some u := fun b u e => k2 b u (Heap.lt_size e) e
      obtain ⟨H', ok', sm, hb, at1⟩ := pairs_in rv rv2 kk I1 Pr Ts.length (Nat.le_refl _)
      have hS0 : H1 h'.objs.size = none := I1.hok.fresh (by rw [hsz]; exact Nat.le_add_right _ _)
      have hS1 : H' h'.objs.size = none := by
        cases q : H' h'.objs.size with
        | none => rfl
        | some o =>
          rcases hb _ (by rw [q]; exact fun z => nomatch z) with z | z
          · exact absurd hS0 z
          · exact absurd rfl (Pr.nS _ (List.mem_of_mem_take z))
      have hlen : (Ts.map V.ref).length ≤ sizeLine := by rw [List.length_map, hl]; simp only [List.size_toArray]; omega
      have rT : Vals (Ts.map V.ref) ((Ts.map Value.ref).toArray.toList) := by
        have : ∀ l : List Addr, Vals (l.map V.ref) (l.map Value.ref) := fun l => by
          induction l with
          | nil => exact .nil
          | cons x l ih => exact .cons rfl ih
        exact this Ts
      have I3 : Inv X pins σ (upd H' h'.objs.size (.lst (Ts.map V.ref))) { s1 with heap := h2' } :=
        Inv.drained (ex := []) (acc := (Ts.map Value.ref).toArray) (c := c') I1 (by rw [hsz]; exact Nat.le_add_right _ _) hlen hS rT (fun b hb => (nomatch hb)) rfl I1.bare ?_ ok' hS1
      · refine ⟨.ref h'.objs.size, _, I3, rfl, q _ Ts _ ⟨fun b o e => ?_, hS0, fun j T e => ?_, upd_same, ?_, fun j T e => ?_⟩⟩
        · have z := sm b o e
          rw [upd_ne (ne_of_none z hS1)]; exact z
        · obtain ⟨x, y, e1, e2, e3⟩ := at1 j T (List.getElem?_eq_some_iff.mp e).1 e
          exact ⟨x, y, e1, e2, by rw [upd_ne (ne_of_none e3 hS1)]; exact e3⟩
        · rw [hl]; simp only [List.size_toArray]; rw [len1, rv2.length]
        · exact I1.hok.fresh (Pr.lo T (List.mem_of_getElem? e))
      · refine ⟨fun b o e _ _ _ => kk b o e, fun b o e _ _ _ => ⟨o.slots, kk b o e⟩, fun b o e n _ => ?_, fun b o e _ => ⟨o, kk b o e⟩, fun b xs e => sm _ _ e, fun b o xs e => sm _ _ e, fun b ps e => ⟨#[], by rw [sm _ _ e]; simp⟩⟩
        cases q : H' b with
        | none => rfl
        | some u =>
          rcases hb _ (by rw [q]; exact fun z => nomatch z) with z | z
          · exact absurd n z
          · exact absurd (Heap.lt_size e) (Nat.not_lt.mpr (Pr.lo _ (List.mem_of_mem_take z)))
end L2.Wb
set_option Elab.async false
set_option linter.all false
set_option maxRecDepth 100000
set_option maxHeartbeats 4000000
namespace PySem.WbX
open PySem PySem.Spec PyProof.Rows
/-- an int or a short text -/
def FsV : Value → Prop
  | .int i _ => i.natAbs.log2 < 1900
  | .str x _ => x.length ≤ 1900
  | _ => False
theorem fv_run {prog : Program} {w : World} {A : Around} {E : Value → Shared → Prop} {env : Env} {s : Shared} {m : Str → Option Value} {f : Str} {p1 p2 : Pos} {v : Value} {Q : Value → Shared → Prop} (hn : s.heap.Ns env.locals m) (mf : m f = some v) (hk : env.kindOf f = some .local) (hs : env.scope.kind = .function) (hd : (f == ("__debug__" : Str)) = false) (hv : FsV v)
    (h : ∀ y tk tk2, y.length ≤ 2000 → Q (.str y tk) { s with toks := tk2 }) : wpAny (model prog w) A (eval (.FormattedValue (.Name f p1) (-1) none p2) env) Q E s := by
  refine wpAny_FormattedValue_plain (wpAny_Name (wpAny_loadName_local hs hk hn mf ?_) hd)
  match v, hv with
  | .str y t, hv => exact wpAny_formatField_str (h y t s.toks (Nat.le_trans hv (by decide))) (h y _ _ (Nat.le_trans hv (by decide))) (Nat.le_trans hv (by decide +kernel))
  | .int i t, hv =>
    exact wpAny_formatField_int (Nat.lt_trans hv (by decide)) (h _ _ _ (Nat.le_trans (int_text_len_1921 (Nat.lt_trans hv (by decide))) (by decide)))
theorem sl_of {n : Nat} (h : n ≤ 3000) : n ≤ sizeLine := Nat.le_trans h (by decide +kernel)
theorem len_app (a b : Str) : (a ++ b).length = a.length + b.length := by
  show (a.cps ++ b.cps).size = _
  rw [Array.size_append]; rfl
/-- f'a{x}b' -/
theorem arg_fs3 {prog : Program} {w : World} {a b : Str} {j j2 : Nat} {p0 p1 p2 p3 p4 : Pos} {v : Value} {f : Str} (hv : FsV v) (ha : a.length ≤ 300) (hb : b.length ≤ 300) : ArgOk prog w f (.JoinedStr [.Constant (.str a) j p0, .FormattedValue (.Name f p1) (-1) none p2, .Constant (.str b) j2 p3] p4) v :=
  fun A env s m Q E hn mf hk hs hd h => by
    refine wpAny_JoinedStr ?_
    have e0 : evalEach [.Constant (.str a) j p0, .FormattedValue (.Name f p1) (-1) none p2, .Constant (.str b) j2 p3] env = [eval (.Constant (.str a) j p0) env, eval (.FormattedValue (.Name f p1) (-1) none p2) env, eval (.Constant (.str b) j2 p3) env] := by first | rfl | simp [evalEach]
    rw [e0]
    have le : (Str.empty ++ a).length = a.length := by rw [len_app]; exact Nat.zero_add _
    refine wpAny_Constant_str ⟨_, _, rfl, sl_of (by rw [le]; omega), fv_run (s := { s with toks := s.toks + 1 }) hn mf hk hs hd hv fun y tk tk2 hy => ⟨_, _, rfl, sl_of (by rw [len_app, le]; omega), ?_⟩⟩
    refine wpAny_Constant_str ⟨_, _, rfl, sl_of (by rw [len_app, len_app, le]; omega), sl_of (by rw [len_app, len_app, le]; omega), h _ _ _ fun b o e => e⟩
theorem form_fs {vs : List Expr} {p : Pos} : ArgForm (.JoinedStr vs p) := form_of fun _ => rfl
end PySem.WbX
set_option Elab.async false
set_option linter.all false
set_option maxRecDepth 100000
set_option maxHeartbeats 4000000
namespace L2.Wb
open PySem PySem.Spec PyProof.Rows
end L2.Wb
set_option Elab.async false
set_option linter.all false
set_option maxRecDepth 100000
set_option maxHeartbeats 4000000
namespace L2.Q
open PySem PySem.Spec PyProof.Rows L2 L2.Wb RZ
section
variable {Θ : Th} {X : Cx} {pos : Pos}
/-- an exception class of the text -/
structure ExcQ (K : PySem.W.Frag) (mg : Str → Option Value) (C : Cn) (x : Str) : Prop where
  g : mg x = some (.ref (C.cA x))
  k : PySem.W.keepIn K (.ref (C.cA x)) = true
  e : PySem.W.subIn K (.ref (C.cA x)) (.type "BaseException") = some true
  t : PySem.W.typeIn K (.ref (C.cA x)) = some (.type "type")
abbrev ZT := Str → List Str → List D → Env → Prop
def gRaise0 (Z : ZT) (c : Str) : GS := fun De e => Z c [] [] e
theorem q_raise0 {x m : Str} {j : Nat} {p p2 p3 : Pos} {B newId initId : String} {bmB : List Value} (tk : Takes X (wOf Θ)) (hc : X.calm = true) (F : ExcBaseFacts B newId initId bmB) (q : PySem.W.excIn X.K (Θ.C.cA x) bmB newId = true) (E : ExcQ X.K X.mg Θ.C x) (hg : Gl X x := by rfl)
    (hdb : (x == ("__debug__" : Str)) = false := by decide) : PS X (.Raise (some (.Call (.Name x p) [.Constant (.str m) j p2] [] p3)) none pos) (tOfS Θ (gRaise0 Θ.Z x)) :=
  ps_conv (ps_raise hc tk (pmk_own F q E.g E.k (raises_own E.e E.t) hg hdb)) fun Dn σ H ⟨e, De, E, h, m⟩ => ⟨e, x, [], [], E, ⟨rfl, rfl, rfl⟩, h⟩
/-- X(a), X with a field f -/
def gRaiseF (Z : ZT) (ok : D → Prop) (c f : Str) (ga : GA) : GS := fun De e => ga e fun ds e1 => ∃ d, ds = [d] ∧ ok d ∧ Z c [f] [d] e1
theorem xd_new {σ : L2.St} {H : Hp} {e : Env} {d : Addr} {f c : Str} {v : V} {x : D} (E : ERep Θ σ H e) (hd : H d = none) (r : Rp Θ.C (cut (Mm Θ XO σ e.sl) H) v x) : ERep Θ σ (upd H d (.xd [(f, v)])) e ∧ ExR Θ.C (Mm Θ XO σ e.sl) (upd H d (.xd [(f, v)])) c [f] [x] (.ref (Θ.C.cA c)) (some d) := by
  obtain ⟨E', le⟩ := E.same (Same.new (o := .xd [(f, v)]) hd)
  exact ⟨E', rfl, [(f, v)], cutAt (E.newM hd fun z => z) upd_same, rfl, .cons (r.le le) .nil⟩
theorem q_raiseF {x f : Str} {a arg : Expr} {ga : GA} {p p2 : Pos} {k : Nat} {ok : D → Prop} {fI cc cda : Addr} {qual : Str} {args : Arguments} {sc : Scope} (tk : Takes X (wOf Θ)) (hc : X.calm = true) (gC : X.mg x = some (.ref (Θ.C.cA x))) (T : PySem.WbX.Sup X.prog X.K X.mg (Θ.C.cA x) fI cc cda qual f arg args sc)
    (hok : ∀ {H v d u}, Rp Θ.C H v d → ok d → RelV v u → PySem.WbX.ArgOk X.prog X.w f arg u) (hform : PySem.WbX.ArgForm arg) (hr : Room k X.A) (ha : PA X [a] (tOfA Θ ga)) (hg : Gl X x := by rfl)
    (hd : (x == ("__debug__" : Str)) = false := by decide) (he : starEach (a :: []) X.env = (false, eval a X.env) :: starEach [] X.env := by rfl) (hpl : (backTo p2 (starEach [] X.env)).any (·.1) = false := by rfl) :
    PS X (.Raise (some (.Call (.Name x p) [a] [] p2)) none pos) (tOfS Θ (gRaiseF Θ.Z ok x f ga)) :=
  ps_conv (ps_raiseSup (okv := fun v => ∃ H d, Rp Θ.C H v d ∧ ok d) hc tk gC T (fun v u ⟨H, d, r, o⟩ ru => hok r o ru) hform hr ha hg hd he hpl) fun Dn σ H ⟨e, De, E, h, m⟩ => ⟨e, _, E, h, fun vs ds H1 e1 l1 E1 r1 ⟨d, hds, o, hz⟩ => by
    subst hds
    obtain ⟨v, rfl, rv⟩ := r1.one
    refine ⟨v, rfl, ⟨_, d, rv, o⟩, fun dd hdd => ?_⟩
    obtain ⟨E2, x2⟩ := xd_new (f := f) (c := x) E1 hdd rv
    exact ⟨e1, x, [f], [d], E2, x2, hz⟩⟩
theorem lookup_rp {C : Cn} {H : Hp} {f : Str} {x : D} : ∀ {fs : List (Str × V)} {ks : List Str} {ds : List D}, fs.map (·.1) = ks → RpA C H (fs.map (·.2)) ds → getK ks ds f = some x → ∃ v, fs.lookup f = some v ∧ Rp C H v x
  | [], ks, ds, e, r, h => by subst e; cases r; cases h
  | (k, v) :: fs, ks, ds, e, r, h => by
    subst e
    cases r with
    | cons r1 r2 =>
      rename_i d ds
      have h' : (if k = f then some d else getK (fs.map (·.1)) ds f) = some x := h
      by_cases c : k = f
      · rw [if_pos c] at h'; cases h'
        refine ⟨v, ?_, r1⟩
        rw [List.lookup_cons, c]
        simp
      · rw [if_neg c] at h'
        obtain ⟨v', e1, e2⟩ := lookup_rp rfl r2 h'
        refine ⟨v', ?_, e2⟩
        rw [List.lookup_cons, show (f == k) = false from beq_eq_false_iff_ne.mpr (Ne.symm c)]
        exact e1
theorem lookup_no {m : Str} : ∀ {fs : List (Str × V)} {ks : List Str}, fs.map (·.1) = ks → m ∉ ks → fs.lookup m = none
  | [], _, _, _ => rfl
  | (k, v) :: fs, ks, e, h => by
    subst e
    have h1 : m ≠ k := fun z => h (by rw [z]; exact List.mem_cons_self)
    rw [List.lookup_cons, show (m == k) = false from beq_eq_false_iff_ne.mpr h1]
    exact lookup_no rfl fun z => h (List.mem_cons_of_mem _ z)
def gFld (c f : Str) (g : GE) : GE := fun e Q => g e fun d _ e1 => match d with
  | .ins c' fs ds => c' = c ∧ ∃ x, getK fs ds f = some x ∧ Q x false e1
  | _ => False
theorem Rp.insE {C : Cn} {N : Addr → Prop} {H : Hp} {v : V} {c : Str} {ks : List Str} {ds : List D} (h : Rp C (cut N H) v (.ins c ks ds)) : ∃ a dx fs, v = .ref a ∧ H a = some (.ins (C.cA c) dx fs) ∧ fs.map (·.1) = ks ∧ RpA C (cut N H) (fs.map (·.2)) ds := by
  cases h with
  | ins h1 h2 h3 => exact ⟨_, _, _, rfl, (cut_in h1).2, h2, h3⟩
theorem q_fld {c f : Str} {a : Expr} {g : GE} (hC : Cls X.K (Θ.C.cA c)) (hn : NoAttr X.K (Θ.C.cA c) f) (ha : PE X a (tOf Θ g)) (hb : attributeBase a f X.env (eval a X.env) = eval a X.env := by rfl) : PE X (.Attribute a f pos) (tOf Θ (gFld c f g)) :=
  pe_conv (pe_fld ha hb) fun σ H Q ⟨e, Qp, E, h, k⟩ => ⟨e, _, E, h, fun v d fr H1 e1 r1 h1 => by
    match d, r1, h1 with
    | .ins c' ks ds, r1, ⟨hc, x, hx, hq⟩ =>
      subst hc
      obtain ⟨b, dx, fs, rfl, e2, e3, e4⟩ := r1.rp.insE
      obtain ⟨w, e5, e6⟩ := lookup_rp e3 e4 hx
      exact ⟨b, _, dx, fs, w, rfl, e2, hC, hn, e5, k _ _ _ _ _ (Res.from r1.le (Res.mk r1.er e6)) hq⟩⟩
structure MethQ (P : Program) (w : World) (K : PySem.W.Frag) (mg : Str → Option Value) (base : Heap) (C : Cn) (c m : Str) (k : Nat) (f : Addr) (fd : FuncData) (prm : List Str) (p : PSp) : Prop where
  ok : FnOk P w K mg base (L2.CX P w) k f fd prm (spOf C p)
  cls : Cls K (C.cA c)
  me : Meth K (C.cA c) m f
  bd : Binds K fd prm []
def gMeth (Z : ZT) (c m : Str) (p : PSp) (g : GE) (ga : GA) : GE := fun e Q => g e fun d _ e1 => ∃ fs ds, d = .ins c fs ds ∧ m ∉ fs ∧ ga e1 fun as e2 => p (d :: as) e2.n (fun z fr n' => Q z fr ⟨e2.sl, n'⟩) fun c ks es n' => Z c ks es ⟨e2.sl, n'⟩
section
variable {k k' : Nat} {f : Addr} {fd : FuncData} {prm : List Str} {p : PSp} {c m : Str} {o a : Expr} {es : List Expr} {g : GE} {ga : GA} {apos : Pos} {pl : Sem Bool}
theorem q_meth0 (M : MethQ X.prog X.w X.K X.mg X.base Θ.C c m k f fd prm p) (hr : Room k' X.A) (ho : PE X o (tOf Θ g)) (hk : k ≤ k' := by decide)
    (ht : eval (.Call (.Attribute o m apos) [] [] pos) X.env = (do
      let ov ← eval o X.env
      standAt apos.atName
      let (f, first) ← holding [ov] (getMethod ov m pl)
      callWith pos f first (backTo pos (starEach [] X.env)) (backToKw pos (keywordEach [] X.env))) := by rfl) :
    PE X (.Call (.Attribute o m apos) [] [] pos) (tOf Θ (gMeth noZ c m p g gA0)) :=
  pe_conv (pe_meth0 (E := E0) (pl := pl) ho M.cls M.me M.ok (hr.mono hk) M.bd .nil passE0 ht) fun σ H Q ⟨e, Qp, E, h, kk⟩ => ⟨e, _, E, h, fun v d fr H1 e1 r1 ⟨fs, ds, hd, hm, hp⟩ => by
    have rr := r1.rp
    have rr' := rr
    rw [hd] at rr'
    obtain ⟨b, dx, fv, hv, e2, e3, e4⟩ := rr'.insE
    subst hv
    exact ⟨b, dx, fv, rfl, e2, lookup_no e3 hm, call_sp r1.er (.cons rr .nil) hp (fun v d fr n' H' r q => kk _ _ _ _ _ (r.from r1.le) q) (fun _ _ _ _ _ _ _ _ _ _ q => q.elim)⟩⟩
theorem q_meth (M : MethQ X.prog X.w X.K X.mg X.base Θ.C c m k f fd prm p) (hr : Room k' X.A) (ho : PE X o (tOf Θ g)) (ha : PA X (a :: es) (tOfA Θ ga)) (hk : k ≤ k' := by decide)
    (hst : starEach (a :: es) X.env = (false, eval a X.env) :: starEach es X.env := by rfl) (hpl : (backTo pos (starEach es X.env)).any (·.1) = false := by rfl)
    (ht : eval (.Call (.Attribute o m apos) (a :: es) [] pos) X.env = (do
      let ov ← eval o X.env
      standAt apos.atName
      let (f, first) ← holding [ov] (getMethod ov m pl)
      callWith pos f first (backTo pos (starEach (a :: es) X.env)) (backToKw pos (keywordEach [] X.env))) := by rfl) :
    PE X (.Call (.Attribute o m apos) (a :: es) [] pos) (tOf Θ (gMeth noZ c m p g ga)) :=
  pe_conv (pe_meth (E := E0) (pl := pl) ho M.cls M.me M.ok (hr.mono hk) M.bd .nil passE0 ha hst hpl ht) fun σ H Q ⟨e, Qp, E, h, kk⟩ => ⟨e, _, E, h, fun v d fr H1 e1 r1 ⟨fs, ds, hd, hm, hp⟩ => by
    have rr := r1.rp
    have rr' := rr
    rw [hd] at rr'
    obtain ⟨b, dx, fv, hv, e2, e3, e4⟩ := rr'.insE
    subst hv
    refine ⟨b, dx, fv, rfl, e2, lookup_no e3 hm, e1, _, r1.er, hp, fun vs as H2 e5 l2 E2 r2 h2 => ?_⟩
    show spOf Θ.C p (.ref b :: (vs ++ [])) H2 Q E0
    rw [List.append_nil]
    exact call_sp E2 (.cons (rr.le l2) r2) h2 (fun v d fr n' H' r q => kk _ _ _ _ _ ((r.from l2).from r1.le) q) (fun _ _ _ _ _ _ _ _ _ _ q => q.elim)⟩
end
theorem qk_nil : PK X [] (tOfA Θ gA0) := ⟨fun po pins s σ H Q I h => pk_nil.run po pins s σ H Q I (by obtain ⟨e, Qp, E, h, k⟩ := h; exact k _ _ _ _ (Le.refl _) E .nil h)⟩
theorem qk_cons {nm : Option Str} {kp : Pos} {a : Expr} {kws : List Keyword} {g : GE} {ga : GA} (ha : PE X a (tOf Θ g)) (hr : PK X kws (tOfA Θ ga)) : PK X (⟨nm, a, kp⟩ :: kws) (tOfA Θ (gA1 g ga)) :=
  ⟨fun po pins s σ H Q I h => (pk_cons ha hr).run po pins s σ H Q I (by
    obtain ⟨e, Qp, E, h, k⟩ := h
    exact ⟨e, _, E, h, fun v d fr H1 e1 r1 h1 => ⟨e1, _, r1.er, h1, fun vs ds H2 e2 l2 E2 r2 h2 => k _ _ _ _ (r1.le.trans l2) E2 (.cons (r1.rp.le l2) r2) h2⟩⟩)⟩
/-- the parameters, by the places of what was written -/
def pkL {α : Type} (z : α) (ix : List Nat) (xs : List α) : List α := ix.map fun i => xs.getD i z
/-- f(.., k = v, ..): ix tells in which order the parameters stand -/
def gCallK (Z : ZT) (p : PSp) (n m : Nat) (ix : List Nat) (ga gk : GA) : GE := fun e Q => ga e fun ds e1 => gk e1 fun es e2 => ds.length = n ∧ es.length = m ∧ p (pkL .non ix (ds ++ es)) e2.n (fun d fr n' => Q d fr ⟨e2.sl, n'⟩) fun c ks es n' => Z c ks es ⟨e2.sl, n'⟩
theorem q_revL {a : Expr} {g : GE} {kx : Nat} {p1 p2 p3 : Pos} (ha : PE X a (tOf Θ g)) : PE X (.Subscript a (.Slice none none (some (.UnaryOp .USub (.Constant (.int 1) kx p1) p2)) p3) pos) (tOf Θ (fun e Q => g e fun d _ e1 => match d with
    | .lst ds => Q (.lst ds.reverse) true e1
    | _ => False)) := pe_conv (pe_revL ha) fun σ H Q ⟨e, Qp, E, h, k⟩ => ⟨e, _, E, h, fun v d fr H1 e1 r1 h1 => by
  match d, r1, h1 with
  | .lst ds, r1, h1 =>
    obtain ⟨a, xs, rfl, h2, r2⟩ := r1.rp.lstE
    exact ⟨a, xs, rfl, SqL.of h2, fun p hp => k _ _ _ _ _ ((Res.newL r1.er hp r2.rev).from r1.le) h1⟩⟩
/-- list(zip(a, b)) of two lists -/
def pairsD (xs ys : List D) : List D := List.zipWith (fun x y => D.tup [x, y]) xs ys
def gListZip (ga : GA) : GE := fun e Q => ga e fun ds e1 => match ds with
  | [.lst xs, .lst ys] => Q (.lst (pairsD xs ys)) true e1
  | _ => False
theorem zl_rp {C : Cn} {N M : Addr → Prop} {H H' : Hp} : ∀ {Ts : List Addr} {vs ws : List V} {xs ys : List D} (sm : Le (cut N H) (cut M H')), RpA C (cut N H) vs xs → RpA C (cut N H) ws ys → Ts.length = min vs.length ws.length →
    (∀ (j : Nat) (T : Addr), Ts[j]? = some T → ∃ x y, vs[j]? = some x ∧ ws[j]? = some y ∧ cut M H' T = some (.tup [x, y])) → RpA C (cut M H') (Ts.map V.ref) (pairsD xs ys)
  | [], vs, ws, xs, ys, sm, r1, r2, hl, _ => by
    cases r1 with
    | nil => exact .nil
    | cons a b =>
      cases r2 with
      | nil => exact .nil
      | cons c d => simp at hl
  | T :: Ts, vs, ws, xs, ys, sm, r1, r2, hl, hat => by
    obtain ⟨x, y, e1, e2, e3⟩ := hat 0 T rfl
    cases r1 with
    | nil => simp at hl
    | cons a b =>
      cases r2 with
      | nil => simp at hl
      | cons c d =>
        simp at e1 e2
        subst e1; subst e2
        refine .cons (.tup e3 (.cons (a.le sm) (.cons (c.le sm) .nil))) (zl_rp sm b d (by simp at hl; omega) fun j T' h => ?_)
        exact hat (j + 1) T' h
theorem q_listZip {a b : Expr} {ga : GA} {p p2 pz : Pos} (hc : X.calm = true) (hgl : Gl X "list") (hml : X.mg "list" = none) (hg : Gl X "zip") (hm : X.mg "zip" = none) (ha : PA X [a, b] (tOfA Θ ga))
    (hs : starEach [a, b] X.env = (false, eval a X.env) :: starEach [b] X.env := by rfl) (hpl : (backTo pz (starEach [b] X.env)).any (·.1) = false := by rfl)
    (hs2 : starEach [.Call (.Name "zip" p) [a, b] [] pz] X.env = (false, eval (.Call (.Name "zip" p) [a, b] [] pz) X.env) :: starEach [] X.env := by rfl) (hpl2 : (backTo pos (starEach [] X.env)).any (·.1) = false := by rfl) :
    PE X (.Call (.Name "list" p2) [.Call (.Name "zip" p) [a, b] [] pz] [] pos) (tOf Θ (gListZip ga)) :=
  pe_conv (pe_listZip hc hgl hml hg hm ha hs hpl hs2 hpl2) fun σ H Q ⟨e, Qp, E, h, k⟩ => ⟨e, _, E, h, fun vs ds H1 e1 l1 E1 r1 h1 => by
    match ds, r1, h1 with
    | [.lst xs, .lst ys], r1, h1 =>
      obtain ⟨v, v', rfl, rv, rv'⟩ := r1.two
      obtain ⟨a1, us, rfl, g1, g2⟩ := rv.lstE
      obtain ⟨a2, ws, rfl, g3, g4⟩ := rv'.lstE
      refine ⟨a1, a2, us, ws, rfl, SqL.of g1, SqL.of g3, fun pA Ts H' zl => ?_⟩
      obtain ⟨E', le⟩ := E1.stepNew (n' := e1.n) (Same.kept zl.s) (E1.ls.same fun b o _ q => zl.s b o q) zl.p0
      have ow : OwnAt Θ.C (cut (Mm Θ (fun b => b = pA) σ e1.sl) H') H' pA (.lst (pairsD xs ys)) := .lst zl.l (zl_rp le g2 g4 zl.n fun j T e => by
        obtain ⟨x, y, q1, q2, q3⟩ := zl.at_ j T e
        refine ⟨x, y, q1, q2, cutAt (fun z => ?_) q3⟩
        have nm := E1.newM (zl.nw j T e) (fun z => z)
        exact z.elim (fun z => nm (.inl z)) fun z => z.elim (fun z => nm (.inr (.inl z))) fun z => z.elim (fun z => by
          subst z
          have := zl.l
          rw [q3] at this; cases this) fun z => nm (.inr (.inr (.inr z))))
      exact k _ _ true _ _ (Res.from l1 ⟨pA, rfl, E1.new0 zl.p0, le, E', ow⟩) h1⟩
end
end L2.Q
set_option Elab.async false
set_option linter.all false
set_option maxRecDepth 100000
set_option maxHeartbeats 4000000
namespace L2.Q
open PySem PySem.Spec PyProof.Rows L2 L2.Wb
end L2.Q
set_option Elab.async false
set_option linter.all false
set_option maxRecDepth 100000
set_option maxHeartbeats 4000000
namespace L2.Q
open PySem PySem.Spec PyProof.Rows L2 L2.Wb
def gDc (gi : GI) (vs : List Nat) (t : GG) (gk gv : GE) : GE := fun e Q => gi e fun ds e1 => NoOwn vs e1 ∧ ds.length ≤ 1000000 ∧ ∃ P : Nat → List Key → List D → Env → Prop, P 0 [] [] e1 ∧
  (∀ i d ks es e2, ds[i]? = some d → P i ks es e2 → t d (wipeE e2 vs) fun e3 => gk e3 fun y _ e4 => gv e4 fun z _ e5 => ks.length < 1000000 ∧ ∃ kk, keyOf y = some kk ∧ P (i + 1) (putD ks es kk z).1 (putD ks es kk z).2 (backE vs e2 e5)) ∧
  ∀ ks es e2, P ds.length ks es e2 → Q (.dct ks es) true e2
section
variable {Θ : Th} {X : Cx} {pos : Pos}
structure DcW (Θ : Th) (σ : L2.St) (H1 : Hp) (e1 : Env) (vs : List Nat) (P : Nat → List Key → List D → Env → Prop) (n : Nat) (A : Addr) (h0 : Θ.H0 A = none) (i m : Nat) (H : Hp) (kvs : List (Key × V)) (ks : List Key) (es : List D) (e2 : Env) : Prop where
  hm : m = n - i
  hi : i ≤ n
  E : ERep (Θ.ext A (.dK kvs) h0) σ H e2
  p : P i ks es e2
  kk : kvs.map (·.1) = ks
  r : RpA Θ.C (cut (Mm (Θ.ext A (.dK kvs) h0) XO σ e2.sl) H) (kvs.map (·.2)) es
  le : Le (cut (Mm Θ (fun b => b = A) σ e1.sl) H1) (cut (Mm (Θ.ext A (.dK kvs) h0) XO σ e2.sl) H)
  no : NoOwn vs e2
theorem dc_go {gi : GI} {vs S : List Nat} {t : GG} {gk gv : GE} (hs : ∀ i, i ∈ S → i ∈ vs) {wi : TI} {gg : TG} {tt : TT} {tk tv : TE}
    (hi : ∀ σ H R, tOfI Θ gi σ H R → wi σ H R) (hg : ∀ a o h v σ H Q, tOfG (Θ.ext a o h) S t v σ H Q → gg v σ H Q) (ht : ∀ a o h σ H Q, tOfT (Θ.ext a o h) gtYes σ H Q → tt σ H Q) (hk : ∀ a o h σ H Q, tOf (Θ.ext a o h) gk σ H Q → tk σ H Q) (he : ∀ a o h σ H Q, tOf (Θ.ext a o h) gv σ H Q → tv σ H Q)
    {σ : L2.St} {H : Hp} {Q : VK} (hh : tOf Θ (gDc gi vs t gk gv) σ H Q) : tDc wi gg tt tk tv vs σ H Q := by
  obtain ⟨e, Qp, E, hh, k⟩ := hh
  refine hi σ H _ ⟨e, _, E, hh, fun J H1 e1 ds l1 E1 wk ⟨no, hlen, P, p0, ps, pe⟩ A hA => ?_⟩
  have hn := E1.new0 hA
  have al := (E1.alloc (o := .dK []) hA).2
  refine ⟨fun i m H' => ∃ kvs ks es e2, DcW Θ σ (upd H1 A (.dK [])) e1 vs P ds.length A hn.1 i m H' kvs ks es e2, ⟨_, [], [], [], e1, rfl, Nat.zero_le _, (E1.alloc hA).1.toExt upd_same, p0, rfl, .nil, le_in, no⟩, ?_⟩
  rintro i m H' ⟨kvs, ks, es, e2, w⟩
  obtain ⟨rfl, hi', E2, p, kk, r, le, no2⟩ := w
  have hD : H' A = some (.dK kvs) := E2.fxs A _ upd_same
  by_cases cc : i < ds.length
  · obtain ⟨d, hd⟩ : ∃ d, ds[i]? = some d := ⟨ds[i], List.getElem?_eq_getElem cc⟩
    obtain ⟨g1, g2⟩ := wk.go (Θ.ext A (.dK kvs) hn.1) i d σ H' e2 ⟨rfl, rfl, rfl, rfl⟩ hd E2 (al.trans le)
    refine .inr ⟨g1, fun H2 => ∃ kvs ks es e3, DcW Θ σ (upd H1 A (.dK [])) e1 vs P ds.length A hn.1 (i + 1) (ds.length - (i + 1)) H2 kvs ks es e3, fun H2 h2 => ⟨ds.length - (i + 1), by omega, h2⟩, fun x H2 hy => ?_⟩
    obtain ⟨E3, l3, r3⟩ := g2 x H2 hy
    obtain ⟨E4, l4⟩ := ERepX.wipe (vs := vs) E3
    have len2 : e2.sl.length = σ.length := E2.len.symm
    refine hg A (.dK kvs) hn.1 x _ H2 _ ⟨d, _, _, E4, r3.le l4, ps i d ks es e2 hd p, fun σ5 H5 e5 l5 E5 o5 h5 => ⟨wipe_eq o5 hs, ht A (.dK kvs) hn.1 σ5 H5 _ ⟨e5, (fun b e6 => b = true ∧ gk e6 fun y _ e4 => gv e4 fun z _ e5 => ks.length < 1000000 ∧ ∃ kk, keyOf y = some kk ∧ P (i + 1) (putD ks es kk z).1 (putD ks es kk z).2 (backE vs e2 e5)), E5, ⟨rfl, h5⟩, fun b H6 e6 l6 E6 h6 => ?_⟩⟩⟩
    obtain ⟨hb, h6⟩ := h6
    subst hb
    have w5 := wipe_eq o5 hs
    have l36 := ((l3.trans l4).trans l5).trans l6
    refine iteT (hk A (.dK kvs) hn.1 σ5 H6 _ ⟨e6, _, E6, h6, fun y dy fr H7 e7 r7 h7 => he A (.dK kvs) hn.1 σ5 H7 _ ⟨e7, _, r7.er, h7, fun z dz fr2 H8 e8 r8 ⟨hl, kq, hkq, hp⟩ => ?_⟩⟩)
    obtain ⟨E9, l9⟩ := ERepX.unwipe (e0 := e2) (σ := σ) r8.er no2 len2 w5 fun j dj hj q => by
      obtain ⟨v, v1, v2⟩ := E2.sh j dj q
      exact ⟨v, v1, v2.le ((l36.trans r7.le).trans r8.le)⟩
    have len8 : e2.sl.length = e8.sl.length := by rw [len2, ← r8.er.len, o5.1, wipe_length]
    refine ⟨kvs, kq, key_rp (r7.rp.le r8.le) hkq, r8.er.fxs A _ upd_same, ?_, ?_⟩
    · rw [← List.length_map (f := fun kv : Key × V => kv.1), kk]; exact mil' (Nat.le_of_lt hl)
    obtain ⟨E10, l10⟩ := ERepX.reExt (o' := .dK (putK kvs kq z)) E9 hn.2
    have lall := (((l36.trans r7.le).trans r8.le).trans l9).trans l10
    obtain ⟨q1, q2⟩ := put_rp (x := kq) (r8.rp.le (l9.trans l10)) kk (r.le lall)
    exact ⟨putK kvs kq z, _, _, _, rfl, cc, E10, hp, q1, q2, le.trans lall, back_no len8 no2⟩
  · have hi2 : i = ds.length := by omega
    subst hi2
    refine .inl ⟨wk.stop (Θ.ext A (.dK kvs) hn.1) σ H' e2 ⟨rfl, rfl, rfl, rfl⟩ E2 (al.trans le), k (.ref A) (.dct ks es) true H' e2 ⟨A, rfl, hn, l1.trans (al.trans (le.trans le_out)), ERepX.ofExt E2 hn.2, .dct hD kk (r.le le_out)⟩ (pe ks es e2 p)⟩
end
end L2.Q
set_option Elab.async false
set_option linter.all false
set_option maxRecDepth 100000
set_option maxHeartbeats 4000000
namespace L2.Q
open PySem PySem.Spec PyProof.Rows L2 L2.Wb RZ
mutual
def pdD : D → Bool
  | .non => true
  | .bl _ => true
  | .int _ => true
  | .str _ => true
  | .lst ds => pdA ds
  | .tup ds => pdA ds
  | .dct _ ds => pdA ds
  | _ => false
def pdA : List D → Bool
  | [] => true
  | d :: ds => pdD d && pdA ds
end
theorem rd_hok {P : Program} {w : World} {H : Hp} {h : Heap} (hok : HOk P w H h) {a : Addr} {u : HO} (r : L2.Rd H a u) : ObjOk P w H h a u := r.elim (fun e => hok a _ e) fun ⟨o, e⟩ => (hok a _ e).2
theorem not_sysR {X : Cx} {pins : List (Addr × Obj)} {σ : L2.St} {H : Hp} {s : Shared} (I : Inv X pins σ H s) (hs : (X.K.lookup sysModules).isSome = true) {a : Addr} {u : HO} (r : L2.Rd H a u) : a ≠ sysModules := r.elim (fun e => not_sys I hs e) fun ⟨o, e⟩ => not_sys I hs e
section
variable {X : Cx} {pins : List (Addr × Obj)} {σ : L2.St} {H : Hp} {s : Shared} {C : Cn} {N : Addr → Prop}
theorem reads_key {h : Heap} {P : Program} {w : World} : ∀ {k : Key} {v : Value}, (mixKind P w).is k v = true → ∃ as, Reads h v (kP k) as ∧ as = []
  | .inl i, v, e => by
    rw [mixKind_is] at e
    obtain ⟨t, ek⟩ := Value.isInt_shape (show Value.isInt i _ = true from e)
    rw [ek]; exact ⟨_, Reads.int i t, rfl⟩
  | .inr x, v, e => by
    rw [mixKind_is] at e
    obtain ⟨t, ek⟩ := Value.isStrOf_shape (show Value.isStrOf x _ = true from e)
    rw [ek]; exact ⟨_, Reads.str x t, rfl⟩
theorem vals_snd : ∀ {kvs : List (Key × V)} {vs : List (Key × Value)}, KV kvs vs → Vals (kvs.map (·.2)) (vs.map (·.2))
  | [], _, r => by cases r; exact .nil
  | _ :: _, _, r => by
    cases r with
    | cons r1 r2 => exact .cons r1.2 (vals_snd r2)
theorem readsKeys {P : Program} {w : World} (h : Heap) : ∀ {kvs : List (Key × V)} {vs : List (Key × Value)} {es : List DictEntry}, KV kvs vs → Pairs (mixKind P w) es vs → ∃ as, ReadsAll h (es.map (·.key)) ((kvs.map (·.1)).map kP) as ∧ sysModules ∉ as ∧ es.map (·.val) = vs.map (·.2)
  | [], _, _, r, p => by cases r; cases p; exact ⟨_, ReadsAll.nil, List.not_mem_nil, rfl⟩
  | (k, v) :: kvs, _, _, r, p => by
    cases r with
    | cons r1 r2 =>
      cases p with
      | cons k1 k2 pp =>
        obtain ⟨as, q1, n1, e1⟩ := readsKeys h (kvs := kvs) r2 pp
        have k1' := k1
        rw [← r1.1] at k1'
        obtain ⟨ks, q4, n4⟩ := reads_key (h := h) k1'
        subst n4
        exact ⟨_, ReadsAll.cons q4 q1, nin_app List.not_mem_nil n1, by rw [List.map_cons, List.map_cons, e1, k2]⟩
mutual
theorem Rp.reads (I : Inv X pins σ H s) (hs : (X.K.lookup sysModules).isSome = true) : ∀ {v : V} {d : D}, Rp C (cut N H) v d → pdD d = true → ∀ {u : Value}, RelV v u → ∃ as, Reads s.heap u (toPy d) as ∧ sysModules ∉ as
  | _, _, .non, _, _, r => by cases r; exact ⟨_, Reads.none, List.not_mem_nil⟩
  | _, _, .bl b, _, _, r => by cases r; exact ⟨_, Reads.bool b, List.not_mem_nil⟩
  | _, _, .int i, _, _, r => by obtain ⟨t, rfl⟩ := r; exact ⟨_, Reads.int i t, List.not_mem_nil⟩
  | _, _, .str x, _, _, r => by obtain ⟨t, rfl⟩ := r; exact ⟨_, Reads.str x t, List.not_mem_nil⟩
  | _, _, .lst h ha, hp, _, r => by
    cases r
    have h := (cut_in h).2
    obtain ⟨_, its, n, rv, ho⟩ := I.hok _ _ h
    obtain ⟨as, hr, hn⟩ := RpA.reads I hs ha hp rv
    exact ⟨_, Reads.list ho rfl rfl hr, fun hm => (List.mem_cons.mp hm).elim (fun e => not_sys I hs h e.symm) hn⟩
  | _, _, .tup h ha, hp, _, r => by
    cases r
    have h := (cut_in h).2
    obtain ⟨_, its, rv, o, ho, hc, n, hd⟩ := I.hok _ _ h
    obtain ⟨as, hr, hn⟩ := RpA.reads I hs ha hp rv
    exact ⟨_, Reads.tuple ho hc hd hr, hn⟩
  | _, _, .dct (kvs := kvs) (ks := ks) (ds := ds) h hk ha, hp, _, r => by
    cases r
    have h := (cut_rd h).2
    obtain ⟨_, _, vs, kv, o, es, ep, ho, hx, hd, _, pr, _⟩ := rd_hok I.hok h
    have l1 : (kvs.map (·.2)).length = (vs.map (·.2)).length := by rw [List.length_map, List.length_map]; exact Paired.length kv
    have rv : Vals (kvs.map (·.2)) (vs.map (·.2)) := vals_snd kv
    obtain ⟨bs, h2, n2⟩ := RpA.reads I hs ha hp rv
    obtain ⟨as, h1, n1, e2⟩ := readsKeys s.heap kv pr
    subst hk
    have e : toPy (.dct (kvs.map (·.1)) ds) = .dict (((kvs.map (·.1)).map kP).zip (toPyA ds)) := rfl
    have hl : ((kvs.map (·.1)).map kP).length = (toPyA ds).length := by rw [List.length_map, List.length_map, toPyA_map, List.length_map, ← ha.len, List.length_map]
    rw [e]
    refine ⟨_, Reads.dict ho hx.1 hd (by rw [List.map_fst_zip (by omega)]; exact h1) (by rw [List.map_snd_zip (by omega), e2]; exact h2), nin_app (fun hm => (List.mem_cons.mp hm).elim (fun e => not_sysR I hs h e.symm) n1) n2⟩
  | _, _, .dcT h q a, hp, _, r => by unfold pdD at hp; cases hp
  | _, _, .ins h q a, hp, _, r => by unfold pdD at hp; cases hp
  | _, _, .exc0 h, hp, _, r => by unfold pdD at hp; cases hp
  | _, _, .exc1 h q k a, hp, _, r => by unfold pdD at hp; cases hp
  | _, _, .st, hp, _, r => by unfold pdD at hp; cases hp
  | _, _, .raw v, hp, _, r => by unfold pdD at hp; cases hp
theorem RpA.reads (I : Inv X pins σ H s) (hs : (X.K.lookup sysModules).isSome = true) : ∀ {vs : List V} {ds : List D}, RpA C (cut N H) vs ds → pdA ds = true → ∀ {us : List Value}, Vals vs us → ∃ as, ReadsAll s.heap us (toPyA ds) as ∧ sysModules ∉ as
  | _, _, .nil, _, _, r => by cases r; exact ⟨_, ReadsAll.nil, List.not_mem_nil⟩
  | _, _, .cons h1 h2, hp, _, r => by
    obtain ⟨p1, p2⟩ := Bool.and_eq_true_iff.mp (show (pdD _ && pdA _) = true from hp)
    cases r with
    | cons r1 r2 =>
      obtain ⟨as, q1, n1⟩ := Rp.reads I hs h1 p1 r1
      obtain ⟨bs, q2, n2⟩ := RpA.reads I hs h2 p2 r2
      exact ⟨_, ReadsAll.cons q1 q2, nin_app n1 n2⟩
end
end
/-- repr(x) -/
def rReprQ (C : Cn) : List V → Hp → VK → Prop := fun xs H Q => ∃ x d N, xs = [x] ∧ Rp C (cut N H) x d ∧ pdD d = true ∧ Shw (toPy d) ∧ Q (.str (toPy d).shown) H
theorem call_reprQ {X : Cx} {k : Nat} {C : Cn} (hgu : X.A.guards = some []) (hr : Room k X.A) (hs : (X.K.lookup sysModules).isSome = true) : CallR X (.builtin "repr") (rReprQ C) := by
  intro pins s σ H xs us Q I r h
  obtain ⟨x, d, N, rfl, hd, hp, hw, q⟩ := h
  obtain ⟨u, rfl, ru⟩ := vals1 r
  have hsz := hw.size
  have hun := hr.units
  obtain ⟨as, rd, na⟩ := hd.reads I hs hp ru
  have fin : ∀ (t : Tok) (s' : Shared), Inv X pins σ H s' → EP X pins σ Q (.str (toPy d).shown t) s' := fun t s' J => ⟨.str (toPy d).shown, H, J, ⟨t, rfl⟩, q⟩
  cases hd with
  | non => cases (show u = Value.none from ru); exact PySem.P.repr_of_none (fin _ _ (I.tok _))
  | bl b => cases (show u = Value.bool b from ru); exact PySem.P.repr_of_bool (fin _ _ (I.tok _))
  | int i => obtain ⟨t, rfl⟩ := (show ∃ t, u = Value.int i t from ru); exact PySem.P.repr_of_int (by simpa only [toPy, PyData.showable, decide_eq_true_eq] using hw.sh) (fin _ _ (I.tok _))
  | str y => obtain ⟨t, rfl⟩ := (show ∃ t, u = Value.str y t from ru); exact PySem.P.repr_of_str (fin _ _ (I.tok _)) hsz
  | lst h1 h2 => cases (show u = Value.ref _ from ru); exact repr_of_reads' rd hw.sh (fun _ => na) hgu (by have := hw.dp; omega) (fun _ _ e => e) (fun h' u tk k => fin _ _ (I.kept (t' := tk) k)) hsz
  | tup h1 h2 => cases (show u = Value.ref _ from ru); exact repr_of_reads' rd hw.sh (fun _ => na) hgu (by have := hw.dp; omega) (fun _ _ e => e) (fun h' u tk k => fin _ _ (I.kept (t' := tk) k)) hsz
  | dct h1 h2 h3 => cases (show u = Value.ref _ from ru); exact repr_of_reads' rd hw.sh (fun _ => na) hgu (by have := hw.dp; omega) (fun _ _ e => e) (fun h' u tk k => fin _ _ (I.kept (t' := tk) k)) hsz
  | _ => cases hp
section
variable {Θ : Th} {X : Cx} {pos : Pos}
def reprF : List D → (D → Bool → Prop) → Prop := fun ds k => ∃ d, ds = [d] ∧ pdD d = true ∧ Shw (toPy d) ∧ k (.str (toPy d).shown) false
theorem cq_repr {k : Nat} (hgu : X.A.guards = some []) (hr : Room k X.A) (hs : (X.K.lookup sysModules).isSome = true) : CaQ X Θ (.builtin "repr") reprF := by
  refine ⟨_, call_reprQ (C := Θ.C) hgu hr hs, fun σ H e vs ds k Q E r h K => ?_⟩
  obtain ⟨d, hd, hp, hw, hk⟩ := h
  subst hd
  obtain ⟨v, rfl, rv⟩ := r.one
  exact ⟨v, d, _, rfl, rv, hp, hw, K _ _ _ _ (Res.mk E (.str _)) hk⟩
def pairsOf : List D → Option (List (Key × D))
  | [] => some []
  | .tup [k, v] :: r => (keyOf k).bind fun kk => (pairsOf r).map fun ps => (kk, v) :: ps
  | _ => none
def mergeD (acc : List Key × List D) (ps : List (Key × D)) : List Key × List D := ps.foldl (fun acc p => putD acc.1 acc.2 p.1 p.2) acc
theorem pairs_rp {C : Cn} {N : Addr → Prop} {H : Hp} {K : PySem.W.Frag} : ∀ {ds : List D} {vs : List V} {ps : List (Key × D)}, RpA C (cut N H) vs ds → pairsOf ds = some ps →
    ∃ (as : List Addr) (kvs : List (Key × V)), vs = as.map V.ref ∧ Paired (fun p (kv : Key × V) => SqT K H p [kV kv.1, kv.2]) as kvs ∧ kvs.map (·.1) = ps.map (·.1) ∧ RpA C (cut N H) (kvs.map (·.2)) (ps.map (·.2))
  | _, _, _, .nil, e => by cases e; exact ⟨[], [], rfl, .nil, rfl, .nil⟩
  | _, _, ps, .cons (d := d) (ds := ds) a b, e => by
    match d, a, e with
    | .tup [x, y], a, e =>
      have e' : ((keyOf x).bind fun kk => (pairsOf ds).map fun ps => (kk, y) :: ps) = some ps := e
      cases q : keyOf x with
      | none => rw [q] at e'; cases e'
      | some kk =>
        rw [q] at e'
        cases q2 : pairsOf ds with
        | none => rw [q2] at e'; cases e'
        | some ps' =>
          rw [q2] at e'
          cases e'
          obtain ⟨as, kvs, rfl, h1, h2, h3⟩ := pairs_rp (K := K) b q2
          obtain ⟨p, xs, rfl, g1, g2⟩ := a.tupE
          obtain ⟨v1, v2, rfl, r1, r2⟩ := g2.two
          have e1 := key_rp r1 q
          exact ⟨p :: as, (kk, v2) :: kvs, rfl, .cons (by show SqT K H p [kV kk, v2]; rw [← e1]; exact SqT.of g1) h1, by rw [List.map_cons, List.map_cons, h2], .cons r2 h3⟩
theorem merge_rp {C : Cn} {H : Hp} : ∀ {more : List (Key × V)} {ps : List (Key × D)} {kvs : List (Key × V)} {acc : List Key × List D}, more.map (·.1) = ps.map (·.1) → RpA C H (more.map (·.2)) (ps.map (·.2)) → kvs.map (·.1) = acc.1 → RpA C H (kvs.map (·.2)) acc.2 →
    (mergeK kvs more).map (·.1) = (mergeD acc ps).1 ∧ RpA C H ((mergeK kvs more).map (·.2)) (mergeD acc ps).2
  | [], [], kvs, acc, _, _, h3, h4 => ⟨h3, h4⟩
  | [], p :: ps, _, _, h1, _, _, _ => by cases h1
  | m :: more, [], _, _, h1, _, _, _ => by cases h1
  | m :: more, p :: ps, kvs, acc, h1, h2, h3, h4 => by
    obtain ⟨e1, e2⟩ := List.cons.inj (show m.1 :: more.map (·.1) = p.1 :: ps.map (·.1) from h1)
    cases h2 with
    | cons r1 r2 =>
      obtain ⟨q1, q2⟩ := put_rp (x := m.1) r1 h3 h4
      have := merge_rp (more := more) (ps := ps) (kvs := putK kvs m.1 m.2) (acc := putD acc.1 acc.2 p.1 p.2) e2 r2 (by rw [← e1]; exact q1) (by rw [← e1]; exact q2)
      exact this
def dictF : List D → (D → Bool → Prop) → Prop := fun ds k => match ds with
  | [.lst xs] => ∃ ps, pairsOf xs = some ps ∧ k (.dct (mergeD ([], []) ps).1 (mergeD ([], []) ps).2) true
  | [.dct ks es] => k (.dct ks es) true
  | _ => False
theorem cq_dict (hc : X.calm = true) : CaQ X Θ (.type "dict") dictF := by
  refine ⟨_, CallR.or (call_dictP hc) call_dictD, fun σ H e vs ds k Q E r h K => ?_⟩
  match ds, r, h with
  | [.lst xs], r, ⟨ps, hps, h⟩ =>
    obtain ⟨v, rfl, rv⟩ := r.one
    obtain ⟨a, us, rfl, g1, g2⟩ := rv.lstE
    obtain ⟨as, kvs, rfl, h1, h2, h3⟩ := pairs_rp (K := X.K) g2 hps
    refine .inl ⟨a, as, kvs, rfl, SqL.of g1, h1, fun p hp => ?_⟩
    obtain ⟨q1, q2⟩ := merge_rp (kvs := []) (acc := ([], [])) h2 h3 rfl .nil
    exact K _ _ _ _ (Res.newK E hp q1 q2) h
  | [.dct ks es], r, h =>
    obtain ⟨v, rfl, rv⟩ := r.one
    cases rv with
    | dct g1 g2 g3 => exact .inr ⟨_, _, rfl, (cut_rd g1).2, fun p hp => K _ _ _ _ (Res.newK E hp g2 g3) h⟩
def min2F : List D → (D → Bool → Prop) → Prop := fun ds k => match ds with
  | [.int i, .int j] => k (.int (if j < i then j else i)) false
  | _ => False
theorem cq_min2 (hc : X.calm = true) : CaQ X Θ (.builtin "min") min2F := by
  refine ⟨_, call_min2 hc, fun σ H e vs ds k Q E r h K => ?_⟩
  match ds, r, h with
  | [.int i, .int j], r, h =>
    obtain ⟨v, w, rfl, r1, r2⟩ := r.two
    rw [r1.intE, r2.intE]
    exact ⟨i, j, rfl, K _ _ _ _ (Res.mk E (.int _)) h⟩
def gChain (f f' : F2) (ga gb gc : GE) : GE := fun e Q => ga e fun x _ e1 => gb e1 fun y _ e2 => f x y fun z fr => match z with
  | .bl b => (b = true → gc e2 fun w _ e3 => f' y w fun z fr => Q z fr e3) ∧ (b = false → Q (.bl false) false e2)
  | _ => False
theorem q_chain {a b c : Expr} {op op' : CmpOp} {f f' : F2} {ga gb gc : GE} (ho : OpQ X Θ (compareOp op) f) (ho' : OpQ X Θ (compareOp op') f') (ha : PE X a (tOf Θ ga)) (hb : PE X b (tOf Θ gb)) (hc : PE X c (tOf Θ gc)) (hm : lastMarks [op, op'] [b, c] = false := by with_unfolding_all rfl) :
    PE X (.Compare a [op, op'] [b, c] pos) (tOf Θ (gChain f f' ga gb gc)) := by
  obtain ⟨r, h1, h2⟩ := ho
  obtain ⟨r', h1', h2'⟩ := ho'
  refine pe_conv (pe_chain h1 h1' ha hb hc hm) fun σ H Q ⟨e, Qp, E, h, k⟩ => ⟨e, _, E, h, fun v x fr H1 e1 r1 q1 => ⟨e1, _, r1.er, q1, fun w y fr2 H2 e2 r2 q2 => h2 σ H2 e2 v w x y _ _ r2.er (r1.rp.le r2.le) r2.rp q2 fun u z fz H3 R3 q3 => ?_⟩⟩
  have rp := R3.rp
  cases z with
  | bl b =>
    cases rp
    refine ⟨b, rfl, ?_⟩
    cases b with
    | true =>
      exact iteT ⟨e2, _, R3.er, q3.1 rfl, fun w2 z2 fr4 H4 e4 r4 q4 => h2' σ H4 e4 w w2 y z2 _ Q r4.er ((r2.rp.le R3.le).le r4.le) r4.rp q4 fun u2 z3 fr5 H5 R5 q5 => k _ _ _ _ _ ((((R5.from r4.le).from R3.le).from r2.le).from r1.le) q5⟩
    | false => exact iteF (k _ _ _ _ _ (((R3.weak).from r2.le).from r1.le) (q3.2 rfl))
  | _ => exact q3.elim
def strsOf : List D → Option (List Str)
  | [] => some []
  | .str z :: r => (strsOf r).map (z :: ·)
  | _ => none
theorem strsOf_map : ∀ zs : List Str, strsOf (zs.map D.str) = some zs
  | [] => rfl
  | z :: zs => by show (strsOf (zs.map D.str)).map (z :: ·) = _; rw [strsOf_map zs]; rfl
theorem strs_rp {C : Cn} {H : Hp} : ∀ {vs : List V} {ds : List D} {ns : List Str}, RpA C H vs ds → strsOf ds = some ns → vs = ns.map V.str
  | _, _, _, .nil, e => by cases e; rfl
  | _, _, ns, .cons (d := d) (ds := ds) a b, e => by
    match d, a, e with
    | .str i, a, e =>
      have e' : (strsOf ds).map (i :: ·) = some ns := e
      cases q : strsOf ds with
      | none => rw [q] at e'; cases e'
      | some ms =>
        rw [q] at e'
        cases e'
        rw [a.strE, strs_rp b q]
        rfl
def gJoin (g : GE) (ga : GA) : GE := fun e Q => g e fun d _ e1 => match d with
  | .str z => ga e1 fun as e2 => ∃ ds ys, as = [.lst ds] ∧ strsOf ds = some ys ∧ (ys.map (·.length)).sum + ys.length * z.length ≤ 16777216 ∧ Q (.str (Txt.join z ys)) false e2
  | _ => False
end
end L2.Q
set_option Elab.async false
set_option linter.all false
set_option maxRecDepth 100000
set_option maxHeartbeats 4000000
namespace PySem.Nd
open PySem
section
variable {prog : Program} {w : World} {K : Type} [DecidableEq K] {knd : KeyKind prog w K} {A : Around} {E : Value → Shared → Prop} {s : Shared}
theorem put_pairs {d : Addr} {kvs : List (K × Value)} {k : K} {key v : Value} {Q : Unit → Shared → Prop} (hkey : knd.is k key = true) (hm : s.heap.DictOf knd d kvs)
    (hQ : ∀ h', h'.DictOf knd d (stored kvs k v) → Heap.SameBut d s.heap h' → Q () { s with heap := h' }) (hsz : kvs.length ≤ sizeLine) :
    wpAny (model prog w) A (dictPut d (knd.hash k) key v) Q E s := by
  obtain ⟨o, es, ep, ho, hc, hd, hk, hp, hn⟩ := hm
  have hes : es.size ≤ sizeLine := by have e1 := hp.length; have e2 : es.toList.length = es.size := by simp
                                      omega
  unfold dictPut
  refine wpAny_bind (wpAny_dictFind_of hkey ho hd hk ?_)
  have hidx : (es.findIdx? fun e => knd.is k e.key) = kvs.findIdx? fun kv => decide (kv.1 = k) := by
    rw [← hp.findIdx k]; obtain ⟨l⟩ := es; simp
  cases hi : es.findIdx? fun e => knd.is k e.key with
  | some i =>
    refine wpAny_updateDict ho hd (hQ _ ⟨_, _, ep, Heap.get?_update_self _ ho (Obj.isFreed_of_dict (Obj.data_mapDict hd _)),
      hc.mapDict _, Obj.data_mapDict hd _, hk.modify _ _, ?_, ?_⟩ (Heap.SameBut.update ..))
    · rw [stored, if_pos (any_of_findIdx_some (hidx ▸ hi))]
      have hl : (es.toList.findIdx? fun e => knd.is k e.key) = some i := by rw [← hi]; obtain ⟨l⟩ := es; simp
      have := hp.modify hn hl v
      obtain ⟨l⟩ := es
      simpa using this
    · rw [stored, if_pos (any_of_findIdx_some (hidx ▸ hi)), keys_map_store]; exact hn
  | none =>
    have hnot : k ∉ kvs.map (·.1) := not_mem_of_findIdx_none (hidx ▸ hi)
    have hany : ¬ (kvs.any fun kv => decide (kv.1 = k)) = true := by
      rw [List.any_eq_true]; rintro ⟨kv, hkv, he⟩
      exact hnot (List.mem_map.mpr ⟨kv, hkv, of_decide_eq_true he⟩)
    refine wpAny_updateDictKeys (hz := hes) ho hd (hQ _ ⟨_, _, ep + 1, Heap.get?_update_self _ ho (Obj.isFreed_of_dict (Obj.data_mapDictKeys hd _)),
      hc.mapDictKeys _, Obj.data_mapDictKeys hd _, hk.push hkey _, ?_, ?_⟩ (Heap.SameBut.update ..))
    · rw [stored, if_neg hany]
      have := hp.append hkey (knd.hash k) v
      obtain ⟨l⟩ := es
      simpa using this
    · rw [stored, if_neg hany, List.map_append, List.nodup_append]
      refine ⟨hn, by simp, ?_⟩
      intro a ha b hb
      simp only [List.map_cons, List.map_nil, List.mem_singleton] at hb
      subst hb
      exact fun e => hnot (e ▸ ha)
theorem merge_map {d o : Addr} {kvs more : List (K × Value)} {Q : Unit → Shared → Prop} (hdo : d ≠ o) (hoS : (o == sysModules) = false) (hne : kvs ≠ [])
    (hd : s.heap.DictOf knd d kvs) (ho : s.heap.DictOf knd o more)
    (hQ : ∀ h', h'.DictOf knd d (merged kvs more) → Heap.SameBut d s.heap h' → Q () { s with heap := h' })
    (hsz : kvs.length + more.length ≤ sizeLine) : wpAny (model prog w) A (mergeMapping d (.ref o) false) Q E s := by
  obtain ⟨od, esd, epd, hod, hcd, hdd, hkd, hpd, hnd⟩ := id hd
  obtain ⟨oo, eso, epo, hoo, hco, hdo', hko, hpo, hno⟩ := id ho
  have hlen : more.length = eso.size := by rw [← hpo.length]; simp
  unfold mergeMapping
  dsimp only
  refine wpAny_bind (wpAny_isInstance ho.typeIs isSubtype_dict_dict ?_)
  simp only [if_true]
  refine wpAny_bind (wpAny_specialOf ho.typeIs F.slot_dict_iter.lookup ?_)
  refine wpAny_bind (wpAny_pure ?_)
  rw [show ((some (Value.builtin "dict.__iter__") == some (Value.builtin "dict.__iter__")) : Bool) = true by decide +kernel]
  dsimp only
  rw [hoS]
  simp only [Bool.false_eq_true, if_false]
  refine wpAny_bind (wpAny_dictEntries hod hdd ?_)
  have hemp : esd.isEmpty = false := by
    cases h : esd.isEmpty with
    | false => rfl
    | true =>
      have h0 : esd = #[] := Array.isEmpty_iff.mp h
      have := hpd.length; rw [h0] at this
      exact absurd (List.length_eq_zero_iff.mp (by simpa using this.symm)) hne
  rw [hemp]
  simp only [Bool.false_eq_true, if_false]
  refine wpAny_bind (wpAny_dictEntries hoo hdo' ?_)
  refine wpAny_bind (wpAny_dictEpoch hoo hdo' ?_)
  refine wpAny_bind ?_
  rw [List.range_eq_range']
  refine wpAny_forIn_list _
    (fun rest _ s' => ∃ h' i, s' = { s with heap := h' } ∧ rest = List.range' i (eso.size - i) ∧ i ≤ eso.size ∧ h'.DictOf knd d (merged kvs (more.take i)) ∧ h'.get? o = some oo ∧ Heap.SameBut d s.heap h')
    _ ?_ ?_ _ _ ⟨s.heap, 0, rfl, by simp, Nat.zero_le _, by simpa [merged] using hd, hoo, Heap.SameBut.refl _ _⟩
  · rintro x rest b s' ⟨h', i, rfl, hr, hi, hd', hoo', hs'⟩
    have hlt : i < eso.size := by
      rcases Nat.lt_or_ge i eso.size with h | h
      · exact h
      · rw [Nat.sub_eq_zero_of_le h] at hr; simp at hr
    obtain ⟨rfl, hrest⟩ : x = i ∧ rest = List.range' (i + 1) (eso.size - (i + 1)) := by
      have e : eso.size - i = (eso.size - (i + 1)) + 1 := by omega
      rw [e, List.range'_succ] at hr
      injection hr with h1 h2
      exact ⟨h1, h2⟩
    refine wpAny_bind (wpAny_dictEntries hoo' hdo' ?_)
    rw [Array.getElem?_eq_getElem hlt]
    obtain ⟨kv, hkv⟩ : ∃ kv, more[x]? = some kv := ⟨more[x]'(by rw [hlen]; exact hlt), List.getElem?_eq_getElem _⟩
    obtain ⟨k, v⟩ := kv
    obtain ⟨hkey, hval⟩ := hpo.get? (e := eso[x]) (by simp [hlt]) hkv
    obtain ⟨k', hkey', hhash⟩ := hko eso[x] (Array.getElem_mem hlt)
    obtain rfl : k' = k := knd.inj _ _ _ hkey' hkey
    show wpAny _ _ (holding [eso[x].key, eso[x].val] (dictPut d eso[x].hash eso[x].key eso[x].val) >>= _) _ _ _
    rw [hhash, hval]
    have hmx : (merged kvs (more.take x)).length ≤ sizeLine := by
      have e1 := merged_length_le kvs (more.take x)
      have e2 : (more.take x).length ≤ more.length := by rw [List.length_take]; omega
      omega
    refine wpAny_bind (wpAny_holding (put_pairs (hsz := hmx) hkey hd' fun h'' hd'' hs'' => ?_))
    have hoo'' : h''.get? o = some oo := (hs''.2 o (Ne.symm hdo)).trans hoo'
    refine wpAny_bind (wpAny_dictEpoch hoo'' hdo' ?_)
    rw [if_neg (by simp)]
    exact wpAny_pure ⟨h'', x + 1, rfl, hrest, hlt, by rw [merged_take_succ kvs more x (k', v) hkv]; exact hd'', hoo'', hs'.trans hs''⟩
  · rintro b s' ⟨h', i, rfl, hr, hi, hd', hoo', hs'⟩
    have hin : i = eso.size := by
      rcases Nat.lt_or_ge i eso.size with h | h
      · have e : eso.size - i = (eso.size - (i + 1)) + 1 := by omega
        rw [e, List.range'_succ] at hr; exact nomatch hr
      · exact Nat.le_antisymm hi h
    refine wpAny_pure (hQ h' ?_ hs')
    rw [hin, ← hlen, List.take_length] at hd'; exact hd'
end
end PySem.Nd
namespace L2.Wb
open PySem PySem.Spec PyProof.Rows
section
variable {X : Cx} {pins : List (Addr × Obj)} {σ : St} {H : Hp} {s : Shared}
theorem name_read {i : Nat} {x : Str} {pos : Pos} {v : V} {Q : Value → Shared → Prop} {E : Value → Shared → Prop} (hN : X.N[i]? = some x) (hv : Vis X.env.scope x) (I : Inv X pins σ H s) (e : σ[i]? = some (some v)) (h : ∀ u, RelV v u → Q u s)
    (hd : (x == ("__debug__" : Str)) = false := by decide) (hcd : (x == ("__classdict__" : Str)) = false := by decide) : wpAny (model X.prog X.w) X.A (eval (.Name x pos) X.env) Q E s := by
  obtain ⟨m, hn, hl⟩ := I.loc
  obtain ⟨u, r, l⟩ := hl i x v hN e hv
  have fin := h u r
  rcases l with ⟨hk, hm⟩ | ⟨hk, c, hc, hcell⟩
  · exact wpAny_Name (wpAny_loadName_local I.ok.kind hk hn hm fin) hd
  · rcases hk with hk | hk
    · exact wpAny_Name (wpAny_loadName_cell I.ok.kind hk hc hcell fin) hd
    · exact wpAny_Name (wpAny_loadName_free I.ok.kind hk hc hcell fin hcd) hd
/-- a dict from None and keys -/
def NDict (P : Program) (w : World) (kvs : List (Option Key × V)) (a : Addr) : Heap → Prop := fun h => (a == sysModules) = false ∧ ∃ vs : List (Option Key × Value), vs.length ≤ sizeLine ∧ KV kvs vs ∧ h.DictOf (noneKind P w) a vs
theorem nd_ok {P : Program} {w : World} {H : Hp} {h : Heap} {a : Addr} {kvs : List (Option Key × V)} (x : NDict P w kvs a h) : ObjOk P w H h a (.ext (NDict P w kvs a)) := by
  obtain ⟨hs, vs, hl, pr, o, es, ep, ho, r⟩ := id x
  refine ⟨x, ⟨o, ho⟩, fun h1 h2 ⟨hs, vs, hl, pr, o, es, ep, ho, r⟩ k => ⟨hs, vs, hl, pr, o, es, ep, k _ ho, r⟩⟩
theorem dict_none {P : Program} {w : World} {h : Heap} {a : Addr} {vs : List (Key × Value)} (d : h.DictOf (mixKind P w) a vs) : h.DictOf (noneKind P w) a (vs.map fun p => (some p.1, p.2)) := by
  obtain ⟨o, es, ep, ho, hx, hd, hk, hp, hn⟩ := d
  refine ⟨o, es, ep, ho, hx, hd, fun e he => ?_, ?_, ?_⟩
  · obtain ⟨k, h1, h2⟩ := hk e he
    exact ⟨some k, h1, h2⟩
  · have : ∀ {l : List DictEntry} {vs : List (Key × Value)}, Pairs (mixKind P w) l vs → Pairs (noneKind P w) l (vs.map fun p => (some p.1, p.2)) := fun {l vs} q => by
      induction q with
      | nil => exact .nil
      | cons a b c ih => exact .cons a b ih
    exact this hp
  · rw [List.map_map]
    have : (List.map ((fun x : Option Key × Value => x.1) ∘ fun p : Key × Value => (some p.1, p.2)) vs) = (vs.map (·.1)).map some := by rw [List.map_map]; rfl
    rw [this]
    exact List.Pairwise.map some (fun a b h e => h (Option.some.inj e)) hn
/-- {None: i, **name} -/
def tNd (P : Program) (w : World) (j : Nat) (i : Int) : TE := fun σ H Q => ∃ (a : Addr) (kvs : List (Key × V)), σ[j]? = some (some (.ref a)) ∧ L2.Rd H a (.dK kvs) ∧ kvs.length + 1 ≤ sizeLine ∧
  ∀ p, H p = none → Q (.ref p) (upd H p (.ext (NDict P w ((none, .int i) :: kvs.map fun kv => (some kv.1, kv.2)) p)))
theorem kv_none {kvs : List (Key × V)} {vs : List (Key × Value)} (r : KV kvs vs) : KV (kvs.map fun kv => ((some kv.1 : Option Key), kv.2)) (vs.map fun p => (some p.1, p.2)) := by
  induction r with
  | nil => exact .nil
  | cons a b ih => exact .cons ⟨congrArg some a.1, a.2⟩ ih
theorem pe_nd {x : Str} {j : Nat} {i : Int} {j1 j2 : Nat} {p1 p2 p3 pos : Pos} (hN : X.N[j]? = some x) (hv : Vis X.env.scope x) (hd : (x == ("__debug__" : Str)) = false := by decide) (hcd : (x == ("__classdict__" : Str)) = false := by decide) :
    PE X (.Dict [some (.Constant .none j1 p1), none] [.Constant (.int i) j2 p2, .Name x p3] pos) (tNd X.prog X.w j i) := by
  refine ⟨fun pins s σ H Q I ⟨a, kvs, hs, hr, hl, q⟩ => ?_⟩
  rw [arm_eval_Dict]
  refine wpAny_bind (wpAny_standAt ?_)
  have e1 : evalEachOpt [some (.Constant .none j1 p1), none] X.env = [some (eval (.Constant .none j1 p1) X.env), none] := by first | rfl | simp [evalEachOpt]
  have e2 : evalEach [.Constant (.int i) j2 p2, .Name x p3] X.env = [eval (.Constant (.int i) j2 p2) X.env, eval (.Name x p3) X.env] := by first | rfl | simp [evalEach]
  rw [e1, e2]
  simp only [List.map_cons, List.map_nil, List.zip_cons_cons, List.zip_nil_right]
  unfold dictDisplay
  dsimp only
  simp only [List.forIn_cons, List.forIn_nil, pure_bind, bind_assoc, List.nil_append, List.length_cons, List.length_nil, List.isEmpty_cons, List.isEmpty_nil, Bool.false_eq_true, if_false, if_true, show ((0 + 1 == 17) : Bool) = false from rfl]
  refine wpAny_bind (wpAny_subDict (knd := noneKind X.prog X.w) (Nat.le_of_ble_eq_true rfl) ?_)
  have k1 : ∀ b u, s.heap.get? b = some u → (s.heap.push { cls := .type "dict", data := .dict #[] }).get? b = some u := fun _ _ q => Heap.get?_push_of_some _ q
  have d1 : (s.heap.push { cls := .type "dict", data := .dict #[] }).DictOf (noneKind X.prog X.w) s.heap.objs.size [] := Heap.DictOf.new _
  have hsys : (s.heap.objs.size == sysModules) = false := beq_eq_false_iff_ne.mpr (Ne.symm (Nat.ne_of_lt I.big))
  have kp : ∀ b u, s.heap.get? b = some u → b ≠ s.heap.objs.size := fun b u q => Nat.ne_of_lt (Heap.lt_size q)
  have hpl : s.heap.objs.size ≤ s.heap.objs.size := Nat.le_refl _
  have hfr : H s.heap.objs.size = none := I.hok.fresh (Nat.le_refl _)
  obtain ⟨hlen, hda, vs, rel, da⟩ := dk_rd I.hok hr
  have hap : s.heap.objs.size ≠ a := Ne.symm (Nat.ne_of_lt (by obtain ⟨o, es, ep, ho, _⟩ := da; exact Heap.lt_size ho))
  have da1 : (s.heap.push { cls := .type "dict", data := .dict #[] }).DictOf (mixKind X.prog X.w) a vs := by
    obtain ⟨o, es, ep, ho, r⟩ := da
    exact ⟨o, es, ep, k1 _ _ ho, r⟩
  generalize hp : s.heap.objs.size = p at hsys hfr hap d1 kp ⊢
  have hp' : s.heap.objs.size ≤ p := Nat.le_of_eq hp
  generalize hh : s.heap.push { cls := .type "dict", data := .dict #[] } = h1 at k1 d1 da1 ⊢
  refine evalPairs_cons (Constant_none ?_)
  refine wpAny_bind (wpAny_Constant_int (wpAny_bind (wpAny_standAt (wpAny_pure (evalPairs_nil ?_)))))
  refine ⟨[(none, .int i s.toks)], ⟨rfl, rfl, trivial⟩, d1, fun h2 d2 s2 => ?_⟩
  have d2' : h2.DictOf (noneKind X.prog X.w) p [(none, .int i s.toks)] := d2
  have k2 : ∀ b u, s.heap.get? b = some u → h2.get? b = some u := fun b u q => (s2.2 b (kp b u q)).trans (k1 b u q)
  have I2 : Inv X pins σ H { s with heap := h2, toks := s.toks + 1 + 1 } := I.kept k2
  have da2 : h2.DictOf (mixKind X.prog X.w) a vs := by
    obtain ⟨o, es, ep, ho, r⟩ := da1
    exact ⟨o, es, ep, (s2.2 a (Ne.symm hap)).trans ho, r⟩
  simp only [pure_bind, bind_assoc]
  refine wpAny_bind (wpAny_holding (wpAny_bind (name_read hN hv I2 hs (fun u ru => ?_) hd hcd)))
  cases ru
  refine wpAny_bind (wpAny_standAt (wpAny_pure ?_))
  have hl2 : vs.length + 1 ≤ sizeLine := by rw [← rel.length]; exact hl
  have e3 : merged ([(none, .int i s.toks)] : List (Option Key × Value)) (vs.map fun p => (some p.1, p.2)) = (none, .int i s.toks) :: vs.map fun p => (some p.1, p.2) := by
    rw [merged_append_of_fresh]
    · rfl
    · obtain ⟨_, _, _, _, _, _, _, _, nd⟩ := dict_none da2
      refine List.nodup_cons.mpr ⟨fun z => ?_, nd⟩
      obtain ⟨q, hq, hz⟩ := List.mem_map.mp z
      obtain ⟨q', _, rfl⟩ := List.mem_map.mp hq
      exact nomatch hz
  refine wpAny_bind (wpAny_onRaise (wpAny_tryCatch (wpAny_onRaise (wpAny_holding (PySem.Nd.merge_map (kvs := [(none, .int i s.toks)]) (more := vs.map fun p => (some p.1, p.2)) hap hda (by simp) d2' (dict_none da2) (fun h3 d3 s3 => ?_) ?_)))))
  · simp only [pure_bind, List.isEmpty_nil, if_true]
    refine wpAny_pure ?_
    rw [e3] at d3
    have k3 : ∀ b u, s.heap.get? b = some u → h3.get? b = some u := fun b u q => (s3.2 b (kp b u q)).trans (k2 b u q)
    refine ⟨.ref p, _, I.laid (t' := _) k3 hp' (nd_ok ⟨hsys, _, ?_, ?_, d3⟩), rfl, q p hfr⟩
    · simpa using hl2
    · exact .cons ⟨rfl, _, rfl⟩ (kv_none rel)
  · simp; omega
end
end L2.Wb
set_option Elab.async false
set_option linter.all false
set_option maxRecDepth 100000
set_option maxHeartbeats 4000000
namespace L2.Q
open PySem PySem.Spec PyProof.Rows L2 L2.Wb
/-- a dict from None and keys to ints -/
def nDict (P : Program) (w : World) (ps : List (Option Key × Int)) : D := .ext (NDict P w (ps.map fun p => (p.1, V.int p.2)))
def kN : Option Key → V
  | none => .non
  | some k => kV k
def keyN : D → Option (Option Key)
  | .non => some none
  | d => (keyOf d).map some
section
variable {Θ : Th} {X : Cx} {pos : Pos}
theorem intsD_of (is : List Int) : intsOf (is.map D.int) = some is := by
  induction is with
  | nil => rfl
  | cons i is ih =>
    show (intsOf (is.map D.int)).map _ = _
    rw [ih]; rfl
def gNd (P : Program) (w : World) (j : Nat) (c : Int) : GE := fun e Q => ∃ ks is b, getS e.sl j = some (.dct ks (is.map D.int), b) ∧ ks.length + 1 ≤ 1000000 ∧ Q (nDict P w ((none, c) :: (ks.map some).zip is)) false e
theorem zip_kvs : ∀ {kvs : List (Key × V)} {is : List Int}, kvs.map (·.2) = is.map V.int → kvs.map (fun kv => ((some kv.1 : Option Key), kv.2)) = (((kvs.map (·.1)).map some).zip is).map fun p => (p.1, V.int p.2)
  | [], is, _ => by cases is <;> rfl
  | p :: kvs, [], h => nomatch h
  | p :: kvs, i :: is, h => by
    rw [List.map_cons, List.map_cons] at h
    injection h with h1 h2
    rw [List.map_cons, List.map_cons, List.map_cons, List.zip_cons_cons, List.map_cons, zip_kvs h2, h1]
theorem q_nd (j : Nat) {x : Str} {i : Int} {j1 j2 : Nat} {p1 p2 p3 : Pos} (hN : X.N[j]? = some x := by rfl) (hv : Vis X.env.scope x := by first | exact Or.inl rfl | exact Or.inr (Or.inl rfl) | exact Or.inr (Or.inr rfl)) (hd : (x == ("__debug__" : Str)) = false := by decide) (hcd : (x == ("__classdict__" : Str)) = false := by decide) :
    PE X (.Dict [some (.Constant .none j1 p1), none] [.Constant (.int i) j2 p2, .Name x p3] pos) (tOf Θ (gNd X.prog X.w j i)) :=
  pe_conv (pe_nd hN hv hd hcd) fun σ H Q ⟨e, Qp, E, ⟨ks, is, b, h0, hl, h⟩, k⟩ => by
    obtain ⟨v, hv, c⟩ := slot_con E h0
    have fin : ∀ (a : Addr) (kvs : List (Key × V)), v = .ref a → L2.Rd H a (.dK kvs) → kvs.map (·.1) = ks → kvs.map (·.2) = is.map V.int → tNd X.prog X.w j i σ H Q := fun a kvs hv' hr hk hi => by
      have hlen : kvs.length = ks.length := by rw [← hk, List.length_map]
      refine ⟨a, kvs, by rw [hv, hv'], hr, mil (by omega), fun p hp => ?_⟩
      obtain ⟨E', le⟩ := E.same (Same.new (o := .ext (NDict X.prog X.w ((none, .int i) :: kvs.map fun kv => (some kv.1, kv.2)) p)) hp)
      refine k _ _ _ _ _ (show Res Θ σ H e _ (nDict X.prog X.w ((none, i) :: (ks.map some).zip is)) false _ e from ⟨le, E', .ext (cutAt (E.newM hp fun z => z) ?_)⟩) h
      rw [upd_same, zip_kvs hi, hk]; rfl
    cases c with
    | dct h1 h2 h3 => exact fin _ _ rfl h1 h2 (ints_rp h3 (intsD_of is))
    | oth h => exact h.elim
def rNix (P : Program) (w : World) : R2 := fun x y H Q => ∃ (a : Addr) (kvs : List (Option Key × V)) (k : Option Key) (v : V), x = .ref a ∧ H a = some (.ext (NDict P w kvs a)) ∧ y = kN k ∧ valV kvs k = some v ∧ Q v H
theorem nk_is {k : Option Key} {y : V} {u : Value} (ry : RelV y u) (h : y = kN k) {P : Program} {w : World} : (noneKind P w).is k u = true := by
  subst h
  cases k with
  | none => cases ry; rfl
  | some k => exact (kV_is (P := P) (w := w) ry)
theorem ix_nd : IxR X (rNix X.prog X.w) := by
  intro value slice pins s σ H x y v u Q I rx ry ⟨a, kvs, k, r, ex, he, hy, hl, q⟩ hs
  subst ex
  obtain rfl : v = Value.ref a := rx
  obtain ⟨⟨hsys, vs, _, rel, dd⟩, _⟩ := I.hok a _ he
  refine PyProof.Rows.tail_any (ops := [.ref a, u]) dd.typeIs PySem.F.slot_dict_getitem.lookup ?_ hs
  obtain ⟨w', hw, rw'⟩ := RelO.some_of (v := r) (o := valueAt vs k) (by rw [← hl]; exact rel.val k)
  exact wpAny_getItem_of (nk_is ry hy) dd.mapOf hw ⟨r, H, I.tok _, rw', q⟩
def getN : List (Option Key × Int) → Option Key → Option Int
  | [], _ => none
  | p :: r, k => if p.1 = k then some p.2 else getN r k
theorem getN_val {k : Option Key} {i : Int} : ∀ {ps : List (Option Key × Int)}, getN ps k = some i → valV (ps.map fun p => (p.1, V.int p.2)) k = some (.int i)
  | [], h => nomatch h
  | p :: r, h => by
    unfold getN at h
    rw [List.map_cons]
    by_cases c : p.1 = k
    · rw [if_pos c] at h; cases h
      exact valV_pos c
    · rw [if_neg c] at h
      rw [valV_neg (p := (p.1, V.int p.2)) c]
      exact getN_val h
/-- weighs[x] -/
def ixNF (P : Program) (w : World) : F2 := fun x y k => ∃ ps kk i, x = nDict P w ps ∧ keyN y = some kk ∧ getN ps kk = some i ∧ k (.int i) false
theorem keyN_rp {C : Cn} {H : Hp} {v : V} {y : D} {k : Option Key} (r : Rp C H v y) (h : keyN y = some k) : v = kN k := by
  cases y with
  | non => cases h; cases r; rfl
  | int i => cases h; rw [r.intE]; rfl
  | str x => cases h; rw [r.strE]; rfl
  | _ => exact nomatch h
theorem nd_rp {C : Cn} {N : Addr → Prop} {H : Hp} {v : V} {P : Program} {w : World} {ps : List (Option Key × Int)} (r : Rp C (cut N H) v (nDict P w ps)) : ∃ a, v = .ref a ∧ H a = some (.ext (NDict P w (ps.map fun p => (p.1, V.int p.2)) a)) := by
  unfold nDict at r
  cases r with
  | ext h => exact ⟨_, rfl, (cut_in h).2⟩
theorem q_ixN {a b : Expr} {ga gb : GE} (ha : PE X a (tOf Θ ga)) (hb : PE X b (tOf Θ gb)) (hs : PlainIx b := by exact fun _ _ => rfl) : PE X (.Subscript a b pos) (tOf Θ (g2 (ixNF X.prog X.w) ga gb)) :=
  pe_conv (pe_ix ix_nd ha hb hs) fun σ H Q ⟨e, Qp, E, h, k⟩ => ⟨e, _, E, h, fun v x fr H1 e1 r1 h1 => ⟨e1, _, r1.er, h1, fun w y fr2 H2 e2 r2 ⟨ps, kk, i, hx, hy, hg, hQ⟩ => by
    subst hx
    obtain ⟨a, rfl, he⟩ := nd_rp (r1.rp.le r2.le)
    exact ⟨a, _, kk, _, rfl, he, keyN_rp r2.rp hy, getN_val hg, k _ _ _ _ _ (Res.from r1.le (Res.from r2.le (Res.mk r2.er (.int i)))) hQ⟩⟩⟩
def tDGet2N (td ty tx : TE) : TE := fun σ H Q => td σ H fun x H1 => ∃ a, x = .ref a ∧ IsD H1 a ∧ ty σ H1 fun y H2 => tx σ H2 fun z H3 => (∃ o, DGet H3 a y o ∧ Q (o.getD z) H3) ∨ (∃ kvs, y = .non ∧ L2.Rd H3 a (.dK kvs) ∧ Q z H3)
theorem pe_dget2N {o e f : Expr} {td ty tx : TE} {apos cpos : Pos} (hu : X.A.units + 1 < cLine) (ho : PE X o td) (he : PE X e ty) (hf : PE X f tx) (m : M2 X o "get" apos e f cpos) : PE X (.Call (.Attribute o "get" apos) [e, f] [] cpos) (tDGet2N td ty tx) := by
  refine ⟨fun pins s σ H Q I h => ?_⟩
  refine wpAny_Call_method m.base m.few m.line PySem.F.plainAttrs_dict PySem.F.slot_dict_get PySem.F.type_dict_get (thn (ho.run pins s σ H _ I h) fun u s1 ⟨x, H1, I1, rx, a, ex, d, q1⟩ => ?_)
  subst ex
  obtain rfl : u = Value.ref a := rx
  obtain ⟨t1, t2, _⟩ := isD_at I1 d
  refine ⟨t1, t2, ?_⟩
  rw [m.trees]
  refine Calls.callWith_builtin rfl (Calls.evalArgs_plain (Calls.spliced_cons (thn (he.run pins s1 σ H1 _ I1 q1) fun iv s2 ⟨y, H2, I2, ry, q2⟩ =>
    Calls.spliced_cons (thn (hf.run pins s2 σ H2 _ I2 q2) fun fv s3 ⟨z, H3, I3, rz, q3⟩ => Calls.spliced_nil ?_))))
  rcases q3 with ⟨ov, g, q3⟩ | ⟨kvs, ey, hr, q3⟩
  · exact d_get2 hu I3 g ry rz fun w' s4 I4 rw' => ⟨_, H3, I4, rw', q3⟩
  · subst ey
    cases ry
    obtain ⟨_, hd, vs, _, dd⟩ := dk_rd I3.hok hr
    obtain ⟨ff, hm, hf⟩ := none_map dd
    refine call_meetsIn PySem.F.slot_dict_get dd.typeIs PySem.F.entry_dict_get (PySem.F.args_dict_get_3 _ _ _) (meets_dict_get_default (noneKind X.prog X.w) a (show (noneKind X.prog X.w).is none .none = true from rfl) hd fv) ⟨_, hm, ?_⟩
    rw [hf]
    exact ⟨z, H3, I3.tok _, rz, q3⟩
/-- the receiver is any expression -/
def getNF (d y z : D) (k : D → Prop) : Prop := (∃ o, getD d y = some o ∧ k (o.getD z)) ∨ (∃ ks ds, d = .dct ks ds ∧ y = .non ∧ k z)
def gGetN (g ga gb : GE) : GE := fun e Q => g e fun d _ e1 => isDc d = true ∧ ga e1 fun y _ e2 => gb e2 fun z _ e3 => getNF d y z fun u => Q u false e3
theorem q_getN {o a b : Expr} {g ga gb : GE} {apos cpos : Pos} (hu : X.A.units + 1 < cLine) (ho : PE X o (tOf Θ g)) (ha : PE X a (tOf Θ ga)) (hb : PE X b (tOf Θ gb)) (m : M2 X o "get" apos a b cpos) :
    PE X (.Call (.Attribute o "get" apos) [a, b] [] cpos) (tOf Θ (gGetN g ga gb)) :=
  pe_conv (pe_dget2N hu ho ha hb m) fun σ H Q ⟨e, Qp, E, h, k⟩ => by
    refine ⟨e, _, E, h, fun v d fr H0 e0 r0 ⟨hd, h⟩ => ?_⟩
    obtain ⟨p, rfl, ia⟩ := con_isD (Con.of r0.rp) hd
    refine ⟨p, rfl, ia, e0, _, r0.er, h, fun w y fr1 H1 e1 r1 h1 => ⟨e1, _, r1.er, h1, fun w2 z fr2 H2 e2 r2 h2 => ?_⟩⟩
    have l := r1.le.trans r2.le
    have l0 := r0.le.trans l
    have rd := r0.rp.le l
    rcases h2 with ⟨o, q2, q3⟩ | ⟨ks, ds, hd, hy, q3⟩
    · obtain ⟨a', r, e', g, ro⟩ := dget_rp (Con.of rd) (r1.rp.le r2.le) q2
      cases e'
      refine .inl ⟨r, g, ?_⟩
      cases ro with
      | none => exact k _ _ _ _ _ (Res.from l0 (Res.mk r2.er r2.rp)) q3
      | some rp => exact k _ _ _ _ _ (Res.from l0 (Res.mk r2.er rp)) q3
    · subst hd hy
      have rw := r1.rp
      cases rw
      cases rd with
      | dct h1 _ _ => exact .inr ⟨_, rfl, (cut_rd h1).2, k _ _ _ _ _ (Res.from l0 (Res.mk r2.er r2.rp)) q3⟩
def gReprV (i : Nat) : GE := fun e Q => ∃ d b, getS e.sl i = some (d, b) ∧ pdD d = true ∧ Shw (toPy d) ∧ Q (.str (toPy d).shown) false e
def rLenR : List V → Hp → VK → Prop := fun xs H Q => ∃ a kvs, xs = [V.ref a] ∧ L2.Rd H a (.dK kvs) ∧ Q (.int kvs.length) H
theorem call_lenR : CallR X (.builtin "len") rLenR := by
  intro pins s σ H xs us Q I r h
  obtain ⟨a, kvs, rfl, ha, q⟩ := h
  obtain ⟨u, rfl, ru⟩ := vals1 r
  cases ru
  exact d_len I ha fun t s' I' => ⟨.int kvs.length, H, I', ⟨t, rfl⟩, q⟩
def gLenD (i : Nat) : GE := fun e Q => ∃ ks ds b, getS e.sl i = some (.dct ks ds, b) ∧ Q (.int ks.length) false e
theorem q_lenD (i : Nat) {x : Str} {pp p2 : Pos} (hm : X.mg "len" = none) (hg : Gl X "len" := by rfl) (hN : X.N[i]? = some x := by rfl) (hv : Vis X.env.scope x := by first | exact Or.inl rfl | exact Or.inr (Or.inl rfl) | exact Or.inr (Or.inr rfl))
    (hd : (x == ("__debug__" : Str)) = false := by decide) (hcd : (x == ("__classdict__" : Str)) = false := by decide) (he : starEach [.Name x p2] X.env = (false, eval (.Name x p2) X.env) :: starEach [] X.env := by rfl) (hpl : (backTo pos (starEach [] X.env)).any (·.1) = false := by rfl) :
    PE X (.Call (.Name "len" pp) [.Name x p2] [] pos) (tOf Θ (gLenD i)) :=
  pe_conv (pe_callB call_lenR hg hm (by decide +kernel) (pa_cons (pe_var hN hv hd hcd) pa_nil he) (by decide) (by decide) he hpl) fun σ H Q ⟨e, Qp, E, ⟨ks, ds, b, h0, h⟩, k⟩ => by
    obtain ⟨v, h1, c⟩ := slot_con E h0
    refine ⟨v, h1, ?_⟩
    cases c with
    | dct g1 g2 g3 => exact ⟨_, _, rfl, g1, by rw [← List.length_map (f := fun kv : Key × V => kv.1), g2]; exact k _ _ _ _ _ (Res.mk E (.int _)) h⟩
    | oth g => exact g.elim
end
end L2.Q
set_option Elab.async false
set_option linter.all false
set_option maxRecDepth 100000
set_option maxHeartbeats 4000000
namespace L2.Q
open PySem PySem.Spec PyProof.Rows L2 L2.Wb RZ
section
variable {Θ : Th} {X : Cx} {pos : Pos}
def tCallLS (i : Nat) (S : V → Option (Addr × Sp)) (E : L2.St → XK) (t : TA) : TE := fun σ H Q => ∃ v f sp, σ[i]? = some (some v) ∧ S v = some (f, sp) ∧ v = .ref f ∧ t σ H fun vs H1 => sp vs H1 Q (E σ)
theorem pe_callLS {CX : CXT} {k i : Nat} {S : V → Option (Addr × Sp)} {E : L2.St → XK} {x : Str} {p : Pos} {e : Expr} {es : List Expr} {t : TA}
    (A : ∀ v f sp, S v = some (f, sp) → ∃ fd ps, FnOk X.prog X.w X.K X.mg X.base CX k f fd ps sp ∧ PySem.W.keepIn X.K (.ref f) = true ∧ Binds X.K fd ps [])
    (hr : Room k X.A) (hN : X.N[i]? = some x) (hv : Vis X.env.scope x) (hx : ∀ σ, PassesAt CX X σ (E σ)) (ha : PA X (e :: es) t)
    (hdb : (x == ("__debug__" : Str)) = false := by decide) (hcd : (x == ("__classdict__" : Str)) = false := by decide)
    (he : starEach (e :: es) X.env = (false, eval e X.env) :: starEach es X.env := by rfl) (hpl : (backTo pos (starEach es X.env)).any (·.1) = false := by rfl) : PE X (.Call (.Name x p) (e :: es) [] pos) (tCallLS i S E t) := by
  refine ⟨fun pins s σ H Q I h => ?_⟩
  obtain ⟨v0, f, sp, hs, hS, ev, ht⟩ := h
  subst ev
  obtain ⟨fd, ps, F, hk, hb⟩ := A _ _ _ hS
  refine wpAny_Call_Name_kw (thn ((pe_var (pos := p) hN hv hdb hcd).run pins s σ H (fun v H1 => v = .ref f ∧ H1 = H) I ⟨.ref f, hs, rfl, rfl⟩) fun u s1 ⟨v, H1, I1, r1, q1⟩ => ?_)
  obtain ⟨rfl, rfl⟩ := q1
  cases r1
  refine PySem.W.callWith_K (h₀ := X.base) I.ok.mod.kin hk (thn (ha.run pos pins s1 σ _ _ I1 ht) fun us s2 ⟨vs, H2, I2, r, q⟩ => ⟨I2.kIn, ?_⟩) he hpl
  exact run_fnS F hr hb (hx σ) I2 r q
/-- the def's address, its promise -/
def gCallL (Z : Str → List Str → List D → Env → Prop) (i : Nat) (S : V → Option PSp) (ga : GA) : GE := fun e Q => ∃ v b p, getS e.sl i = some (.raw v, b) ∧ S v = some p ∧ ga e fun ds e1 => p ds e1.n (fun d fr n' => Q d fr ⟨e1.sl, n'⟩) fun c ks es n' => Z c ks es ⟨e1.sl, n'⟩
theorem q_callL (i : Nat) {k k' : Nat} {S : V → Option PSp} {x : Str} {a : Expr} {es : List Expr} {ga : GA} {pp : Pos} (tk : Takes X (wOf Θ))
    (A : ∀ v p, S v = some p → ∃ f fd prm, v = .ref f ∧ FnOk X.prog X.w X.K X.mg X.base (L2.CX X.prog X.w) k f fd prm (spOf Θ.C p) ∧ PySem.W.keepIn X.K (.ref f) = true ∧ Binds X.K fd prm [])
    (hr : Room k' X.A) (ha : PA X (a :: es) (tOfA Θ ga)) (hk : k ≤ k' := by decide) (hN : X.N[i]? = some x := by rfl) (hv : Vis X.env.scope x := by first | exact Or.inl rfl | exact Or.inr (Or.inl rfl) | exact Or.inr (Or.inr rfl))
    (hdb : (x == ("__debug__" : Str)) = false := by decide) (hcd : (x == ("__classdict__" : Str)) = false := by decide) (he : starEach (a :: es) X.env = (false, eval a X.env) :: starEach es X.env := by rfl) (hpl : (backTo pos (starEach es X.env)).any (·.1) = false := by rfl) :
    PE X (.Call (.Name x pp) (a :: es) [] pos) (tOf Θ (gCallL Θ.Z i S ga)) :=
  pe_conv (pe_callLS (k := k') (CX := L2.CX X.prog X.w) (S := fun v => match v with
    | .ref f => (S (.ref f)).map fun p => (f, spOf Θ.C p)
    | _ => none) (E := WE (wOf Θ)) (fun v f sp hS => by
      match v, hS with
      | .ref g, hS =>
        obtain ⟨p, h1, h2⟩ := Option.map_eq_some_iff.mp hS
        cases h2
        obtain ⟨f', fd, prm, e1, F, hk', hb⟩ := A _ _ h1
        cases e1
        exact ⟨fd, prm, ⟨F.len, fun A outer s H args us vs Q E hr' => F.run A outer s H args us vs Q E (hr'.mono hk)⟩, hk', hb⟩) hr hN hv (fun σ => passAt tk σ) ha hdb hcd he hpl) fun σ H Q ⟨e, Qp, E, ⟨v, b, p, h0, hS, h⟩, k⟩ => by
    obtain ⟨u, N0, hu, c, _⟩ := slot_rp E h0
    obtain ⟨f, fd, prm, ev, _⟩ := A _ _ hS
    subst ev
    cases c
    refine ⟨.ref f, f, spOf Θ.C p, hu, ?_, rfl, e, _, E, h, fun vs ds H1 e1 l1 E1 r1 h1 => callX_sp E1 r1 h1 (fun v d fr n' H' r q => k _ _ _ _ _ (r.from l1) q)⟩
    show (S (.ref f)).map _ = _
    rw [hS]; rfl
def gIxG (ps : Str → Option Int) (gb : GE) : GE := fun e Q => gb e fun y _ e1 => ∃ z i, y = .str z ∧ ps z = some i ∧ Q (.int i) false e1
theorem q_ixG {x : Str} {p : Addr} {b : Expr} {gb : GE} {pp : Pos} (ps : Str → Option Int) (hk : ∀ z i, ps z = some i → KDct X.K X.w p z (.int i)) (hm : X.mg x = some (.ref p)) (hb : PE X b (tOf Θ gb)) (hg : Gl X x := by rfl) (hd : (x == ("__debug__" : Str)) = false := by decide) (hs : PlainIx b := by exact fun _ _ => rfl) :
    PE X (.Subscript (.Name x pp) b pos) (tOf Θ (gIxG ps gb)) :=
  pe_conv (pe_ix ix_kdict (pe_glob hg hm (show RelV (.ref p) (.ref p) from rfl) hd) hb hs) fun σ H Q ⟨e, Qp, E, h, k⟩ => ⟨e, _, E, h, fun v y fr H1 e1 r1 ⟨z, i, hy, hp, hq⟩ => by
    subst hy
    exact ⟨p, z, _, rfl, r1.rp.strE, hk z i hp, k _ _ _ _ _ (Res.from r1.le (Res.mk r1.er (.int i))) hq⟩⟩
def gInG (ws : List D) (gb : GE) : GE := fun e Q => gb e fun y _ e1 => ∃ b, memT y (.tup ws) = some b ∧ Q (.bl b) false e1
theorem inG_go {p : Addr} {ws : List D} {gb : GE} (hdp : ∀ H, Dp X.K H (.ref p) (.tuple (toPyA ws))) (hn : ndA 64 ws = true) (hK : Θ.C.K = X.K) {σ : L2.St} {H : Hp} {Q : VK} (h : tOf Θ (gInG ws gb) σ H Q) : tOp (rInT X.K false) (tOf Θ gb) (tC (.ref p)) σ H Q := by
  obtain ⟨e, Qp, E, h, k⟩ := h
  refine ⟨e, _, E, h, fun v y fr H1 e1 r1 ⟨b, hb, hq⟩ => ?_⟩
  have hb' : (if nd 64 y && ndA 64 ws then some (ws.any fun z => eqD z y) else if isDc y && ndA 64 ws then some false else none) = some b := hb
  rw [hn, Bool.and_true, Bool.and_true] at hb'
  refine ⟨toPyA ws, .inr (hdp H1), (ndA_can hn).1, ?_⟩
  by_cases c : nd 64 y = true
  · rw [if_pos c] at hb'
    cases hb'
    refine .inl ⟨_, dp_cut (hK ▸ r1.rp.dp c), nd_pl c, ?_⟩
    rw [any_py, Bool.false_bne]
    exact k _ _ _ _ _ (Res.from r1.le (Res.mk r1.er (.bl _))) hq
  · rw [if_neg c] at hb'
    by_cases c2 : isDc y = true
    · rw [if_pos c2] at hb'
      cases hb'
      obtain ⟨a, rfl, ha⟩ := dc_at r1.rp c2
      exact .inr ⟨a, rfl, ha, k _ _ _ _ _ (Res.from r1.le (Res.mk r1.er (.bl _))) hq⟩
    · rw [if_neg c2] at hb'; cases hb'
theorem q_inG {x : Str} {p : Addr} {ws : List D} {a : Expr} {gb : GE} {pp : Pos} (hu : X.A.units + 65 < cLine) (hdp : ∀ H, Dp X.K H (.ref p) (.tuple (toPyA ws))) (hn : ndA 64 ws = true) (hm : X.mg x = some (.ref p)) (ha : PE X a (tOf Θ gb)) (hK : Θ.C.K = X.K := by rfl) (hg : Gl X x := by rfl) (hd : (x == ("__debug__" : Str)) = false := by decide)
    (hmk : behindInMarks .In (.Name x pp) = false := by rfl) : PE X (.Compare a [.In] [.Name x pp] pos) (tOf Θ (gInG ws gb)) :=
  pe_conv (pe_cmpR (op_inT hu) ha (pe_glob hg hm (show RelV (.ref p) (.ref p) from rfl) hd) hmk) fun σ H Q h => inG_go hdp hn hK h
def isBF : F2 := fun x y k => match x, y with
  | .bl a, .bl b => k (.bl (decide (a = b))) false
  | _, _ => False
theorem oq_isB : OpQ X Θ (compareOp .Is) isBF := ⟨_, op_isBl, fun σ H e v w x y k Q E rx ry h K => by
  match x, y, h with
  | .bl a, .bl b, h => exact ⟨a, b, rx.blE, ry.blE, K _ _ _ _ (Res.mk E (.bl _)) h⟩⟩
def rCnt (K : PySem.W.Frag) : V → List V → Hp → VK → Prop := fun x vs H Q => ∃ a xs dd y d, x = .ref a ∧ vs = [y] ∧ SqL K H a xs ∧ DpAll K H xs dd ∧ Dp K H y d ∧ Pl d ∧ PyData.plainAll dd = true ∧ Q (.int ((dd.countP fun z => PyData.eqv z d : Nat) : Int)) H
theorem mt_cnt (hu : X.A.units + 65 < cLine) : MtR X "list.count" (rCnt X.K) := by
  intro pins s σ H x vs v us Q I rx rv h
  obtain ⟨a, xs, dd, y, d, rfl, rfl, hs, hd, hy, pd, pp, q⟩ := h
  cases rx
  obtain ⟨u, rfl, ru⟩ := rv.one
  obtain ⟨its, rr, ⟨o, n, ho, hc, hdn, hdd⟩, _⟩ := I.list hs
  obtain ⟨as, rs⟩ := Dp.readsAll I dd xs its hd rr
  obtain ⟨bs, r2⟩ := Dp.reads I d y u hy ru
  refine SeqAt.count_list_data (vs := its.toArray) ⟨o, ho, hc, n, hdd⟩ (by simpa using rs) r2 pp pd.1 (by have := Nat.min_le_right (PyData.depthAll dd) d.depth; have := pd.2; omega) ⟨.int _, H, I.tok _, ⟨_, rfl⟩, q⟩
def gCnt (i : Nat) (ga : GA) : GE := fun e Q => (∃ ds b, getS e.sl i = some (.lst ds, b)) ∧ ga e fun as e1 => ∃ ds b d, getS e1.sl i = some (.lst ds, b) ∧ as = [d] ∧ nd 64 d = true ∧ ndA 64 ds = true ∧ Q (.int ((ds.countP fun z => eqD z d : Nat) : Int)) false e1
theorem cnt_py (d : D) : ∀ ds : List D, (toPyA ds).countP (fun z => PyData.eqv z (toPy d)) = ds.countP fun z => eqD z d := fun ds => by
  rw [toPyA_map, List.countP_map]; rfl
theorem q_count (i : Nat) {x : Str} {a : Expr} {ga : GA} {p apos cpos : Pos} (hu : X.A.units + 65 < cLine) (ha : PA X [a] (tOfA Θ ga)) (hK : Θ.C.K = X.K := by rfl) (hN : X.N[i]? = some x := by rfl) (hv : Vis X.env.scope x := by first | exact Or.inl rfl | exact Or.inr (Or.inl rfl) | exact Or.inr (Or.inr rfl)) (hd : (x == ("__debug__" : Str)) = false := by decide) (hcd : (x == ("__classdict__" : Str)) = false := by decide)
    (hbase : attributeBase (.Name x p) "count" X.env (eval (.Name x p) X.env) = eval (.Name x p) X.env := by rfl)
    (hfew : ((backTo cpos (starEach [a] X.env)).all (fun x => !x.1) && (backToKw cpos (keywordEach [] X.env)).all (fun x => x.1.isSome) && decide (([a] : List Expr).length + ([] : List Keyword).length + (if ([] : List Keyword).isEmpty then 0 else 1) < 30)) = true := by rfl)
    (hline : (apos.endLine == cpos.line) = true := by rfl) (hs : starEach [a] X.env = (false, eval a X.env) :: starEach [] X.env := by rfl) (hplain : (backTo cpos (starEach [] X.env)).any (·.1) = false := by rfl) :
    PE X (.Call (.Attribute (.Name x p) "count" apos) [a] [] cpos) (tOf Θ (gCnt i ga)) :=
  pe_conv (pe_bm PySem.F.plainAttrs_list PySem.F.slot_list_count PySem.F.type_list_count (mt_cnt hu) (pe_var hN hv hd hcd) ha hbase hfew hline hs hplain) fun σ H Q ⟨e, Qp, E, ⟨⟨ds0, b0, h0⟩, h⟩, k⟩ => by
    obtain ⟨v, hv, c⟩ := slot_con E h0
    have e0 : ∃ a xs, v = .ref a ∧ H a = some (.lst xs) := by
      cases c with
      | lst h1 h2 => exact ⟨_, _, rfl, h1⟩
      | oth hx => exact hx.elim
    obtain ⟨b, xs, rfl, hb⟩ := e0
    refine ⟨.ref b, hv, .inl ⟨rfl, _, SqL.of hb⟩, e, _, E, h, fun vs as H1 e1 l1 E1 r1 ⟨ds, fr, d, g0, g1, g2, g3, hq⟩ => ?_⟩
    subst g1
    obtain ⟨w, rfl, rw'⟩ := r1.one
    obtain ⟨v', hv', c'⟩ := slot_con E1 g0
    rw [hv] at hv'; cases hv'
    cases c' with
    | lst q1 q2 =>
      refine ⟨b, _, toPyA ds, w, toPy d, rfl, rfl, SqL.of q1, dpA_cut (hK ▸ q2.dp g3), dp_cut (hK ▸ rw'.dp g2), nd_pl g2, (ndA_can g3).1, ?_⟩
      rw [cnt_py]
      exact k _ _ _ _ _ (Res.from l1 (Res.mk E1 (.int _))) hq
    | oth hx => exact hx.elim
def gDclr (i : Nat) : GE := fun e Q => ∃ ks ds, getS e.sl i = some (.dct ks ds, true) ∧ Q .non false (e.set i (.dct [] []) true)
def keyD : Key → D
  | .inl i => .int i
  | .inr x => .str x
def itemsD (ks : List Key) (ds : List D) : List D := List.zipWith (fun k d => D.tup [keyD k, d]) ks ds
def tItemsR (te : TE) : TE := fun σ H Q => te σ H fun x H1 => ∃ (d : Addr) (kvs : List (Key × V)), x = .ref d ∧ L2.Rd H1 d (.dK kvs) ∧
  ∀ (H' : Hp) (p : Addr) (ts : List Addr), (∀ b o, H1 b = some o → H' b = some o) → H1 p = none → (∀ t ∈ ts, H1 t = none) → p ∉ ts → H' p = some (.lst (ts.map V.ref)) → Paired (fun (t : Addr) (q : Key × V) => H' t = some (.tup [kV q.1, q.2])) ts kvs → Q (.ref p) H'
theorem pe_itemsR {e : Expr} {te : TE} {p apos cpos : Pos} (hc : X.calm = true) (he : PE X e te) (hg : Gl X "list") (hm : X.mg "list" = none) (hv : bootBuiltins "list" = some (.type "list")) (hbase : attributeBase e "items" X.env (eval e X.env) = eval e X.env := by rfl) (hline : (apos.endLine == cpos.line) = true := by rfl)
    (hs : starEach [.Call (.Attribute e "items" apos) [] [] cpos] X.env = (false, eval (.Call (.Attribute e "items" apos) [] [] cpos) X.env) :: starEach [] X.env := by rfl) :
    PE X (.Call (.Name "list" p) [.Call (.Attribute e "items" apos) [] [] cpos] [] pos) (tItemsR te) := by
  refine ⟨fun pins s σ H Q I hq => ?_⟩
  refine wpAny_Call_Name_kw (ld_blt I hg hm hv ?_)
  refine PyProof.Rows.callWith_type1 ?_ hs rfl
  rw [hs]
  show wpAny _ _ (spliced ((false, eval (.Call (.Attribute e "items" apos) [] [] cpos) X.env) :: backTo pos (starEach [] X.env))) _ _ s
  refine Calls.spliced_cons ?_
  refine wpAny_Call_method (T := "dict") (id := "dict.items") hbase rfl hline F.plainAttrs_dict F.slot_dict_items F.type_dict_items (thn (he.run pins s σ H _ I hq) fun u s1 ⟨x, H1, I1, rx, d, kvs, ex, hd, q⟩ => ?_)
  subst ex
  obtain rfl : u = Value.ref d := rx
  obtain ⟨hz, hs0, vs, kv, hdo⟩ := dk_rd I1.hok hd
  obtain ⟨ep, hat⟩ := hdo.dictAt
  have lk : kvs.length = vs.length := Paired.length kv
  have I2 : Inv X pins σ H1 { s1 with heap := s1.heap.push { cls := .type "dict_items", data := .fields #[.ref d] } } := I1.kept (t' := s1.toks) fun b ob q => Heap.get?_push_of_some _ q
  refine ⟨hdo.typeIs, hdo.mapOf.noDict, ?_⟩
  show wpAny _ _ (callWith cpos (.builtin "dict.items") [.ref d] [] []) _ X.xe s1
  refine method_meetsIn F.slot_dict_items F.entry_dict_items rfl (PySem.evalArgs_none ⟨rfl, hdo.typeIs, F.args_dict_items_1 _, _, meets_dict_items (mixKind X.prog X.w) d hs0, ⟨vs, hdo⟩, ?_⟩)
  refine Calls.spliced_nil ?_
  refine PySem.W.kdx_call (knd := mixKind X.prog X.w) (kvs := vs) (ep := ep) (I1.ok.hd hc) ⟨_, Heap.get?_push_size _ rfl, rfl, rfl⟩ (hat.push _) (by omega) fun h' tk acc c as hk hS hl hG hacc => ?_
  obtain ⟨H', k1, k2, k3, k4, k5, k6, J⟩ := LiI.items_laid (tk := tk) I2 hz kv hk hS hl hG hacc
  exact ⟨.ref _, H', J, rfl, q H' _ as k1 k2 k3 k4 k5 k6⟩
theorem keyD_rp {C : Cn} {H : Hp} (k : Key) : Rp C H (kV k) (keyD k) := by
  cases k with
  | inl i => exact .int i
  | inr x => exact .str x
theorem items_rp {C : Cn} {N M : Addr → Prop} {H H' : Hp} : ∀ {Ts : List Addr} {kvs : List (Key × V)} {ks : List Key} {ds : List D} (sm : Le (cut N H) (cut M H')), kvs.map (·.1) = ks → RpA C (cut N H) (kvs.map (·.2)) ds →
    Paired (fun (t : Addr) (q : Key × V) => cut M H' t = some (.tup [kV q.1, q.2])) Ts kvs → RpA C (cut M H') (Ts.map V.ref) (itemsD ks ds)
  | [], [], ks, ds, sm, hk, r, _ => by subst hk; exact .nil
  | T :: Ts, q :: kvs, ks, ds, sm, hk, r, .cons a b => by
    subst hk
    cases r with
    | cons r1 r2 => exact .cons (.tup a (.cons (keyD_rp _) (.cons (r1.le sm) .nil))) (items_rp sm rfl r2 b)
def gItems (g : GE) : GE := fun e Q => g e fun d _ e1 => match d with
  | .dct ks ds => Q (.lst (itemsD ks ds)) true e1
  | _ => False
theorem paired_mono {α β : Type} {F G : α → β → Prop} : ∀ {xs : List α} {ys : List β}, Paired F xs ys → (∀ x y, x ∈ xs → F x y → G x y) → Paired G xs ys
  | _, _, .nil, _ => .nil
  | _, _, .cons a b, h => .cons (h _ _ List.mem_cons_self a) (paired_mono b fun x y hx => h x y (List.mem_cons_of_mem _ hx))
theorem q_items {a : Expr} {g : GE} {p apos cpos : Pos} (hc : X.calm = true) (hm : X.mg "list" = none) (ha : PE X a (tOf Θ g)) (hg : Gl X "list" := by rfl) (hbase : attributeBase a "items" X.env (eval a X.env) = eval a X.env := by rfl) (hline : (apos.endLine == cpos.line) = true := by rfl)
    (hs : starEach [.Call (.Attribute a "items" apos) [] [] cpos] X.env = (false, eval (.Call (.Attribute a "items" apos) [] [] cpos) X.env) :: starEach [] X.env := by rfl) :
    PE X (.Call (.Name "list" p) [.Call (.Attribute a "items" apos) [] [] cpos] [] pos) (tOf Θ (gItems g)) :=
  pe_conv (pe_itemsR hc ha hg hm (by decide +kernel) hbase hline hs) fun σ H Q ⟨e, Qp, E, h, k⟩ => ⟨e, _, E, h, fun v d fr H1 e1 r1 h1 => by
    match d, r1, h1 with
    | .dct ks ds, r1, h1 =>
      have rd := r1.rp
      have E1 := r1.er
      cases rd with
      | dct g1 g2 g3 =>
        refine ⟨_, _, rfl, (cut_rd g1).2, fun H' pA Ts sm p0 nw np hl hat => ?_⟩
        have sm' : Same H1 H' := sm
        obtain ⟨E', le⟩ := E1.stepNew (n' := e1.n) (Same.kept sm') (E1.ls.same fun b o _ q => sm' b o q) p0
        have ow : OwnAt Θ.C (cut (Mm Θ (fun b => b = pA) σ e1.sl) H') H' pA (.lst (itemsD ks ds)) := .lst hl (items_rp le g2 g3 (paired_mono hat fun T q hT q3 => by
          refine cutAt (fun z => ?_) q3
          have nm := E1.newM (nw T hT) (fun z => z)
          exact z.elim (fun z => nm (.inl z)) fun z => z.elim (fun z => nm (.inr (.inl z))) fun z => z.elim (fun z => np (by rw [← z]; exact hT)) fun z => nm (.inr (.inr (.inr z)))))
        exact k _ _ true _ _ (Res.from r1.le ⟨pA, rfl, E1.new0 p0, le, E', ow⟩) h1⟩
end
end L2.Q
set_option Elab.async false
set_option linter.all false
set_option maxRecDepth 100000
set_option maxHeartbeats 4000000
namespace PySem
open Sem (wp)
theorem meets_enumerate_new1 {v : Value} {o : Obj} {H : Heap → Prop} (B : Begins v o H) :
    Meets (Builtin.«enumerate.__new__» ⟨[.type "enumerate", v], []⟩) (fun _ R s => H s.heap ∧
      R (.ok (.ret (.ref (s.heap.push o).objs.size))) { s with heap := (s.heap.push o).push { cls := .type "enumerate", data := .fields #[.none, .bool false, .ref s.heap.objs.size, rawInt 0, .none, .none] } }) :=
  .of_wp fun prog w A R s h => by
    obtain ⟨hp, g, d, tk, os⟩ := s; obtain ⟨h1, h⟩ := h
    have hsub := sub_enumerate
    have q1 : ∀ {A' : Around} {E : Value → Shared → Prop} {Q : Value → Shared → Prop}, Q (.ref hp.objs.size) ⟨hp.push o, g, d, tk, os⟩ → wpAny (model prog w) A' (pyIter v) Q E ⟨hp, g, d, tk, os⟩ :=
      fun q => B.iter prog w _ _ ⟨hp, g, d, tk, os⟩ _ h1 q
    wp_walk using q1
    refine wpAny_stack_any fun st => wpAny_pure ?_
    split
    · rename_i c _ _ _ _ _
      cases (c == Value.type "enumerate")
      · wp_walk using q1
        exact ⟨_, rfl, h⟩
      · wp_walk using q1
        exact ⟨_, rfl, h⟩
    · wp_walk using q1
      exact ⟨_, rfl, h⟩
end PySem
namespace PySem
section
variable {prog : Program} {w : World} {A : Around} {E : Value → Shared → Prop} {s : Shared}
theorem call_enumerate_tup {l : Addr} {items : Array Value} {Q : Value → Shared → Prop} (hL : s.heap.IsTuple l items)
    (h : ∀ h', IsEnum h' (s.heap.objs.size + 1) s.heap.objs.size 0 .none → h'.IsTupleIter s.heap.objs.size l 0 → h'.objs.size = s.heap.objs.size + 2 →
      (∀ b o, s.heap.get? b = some o → h'.get? b = some o) → Q (.ref (s.heap.objs.size + 1)) { s with heap := h' }) :
    wpAny (model prog w) A (call (.type "enumerate") [.ref l]) Q E s := by
  refine callType_new F.called_enumerate (by decide) (F.typeCall_enumerate_1 _) (F.newCall_enumerate_1 _) (fun obj => F.args_object_init_2 obj _) F.entry_enumerate_new
    (meets_enumerate_new1 (begins_tuple l items)) ⟨hL, ?_⟩
  have hz : (s.heap.push { cls := .type "tuple_iterator", data := .fields #[.ref l, .int 0 0] }).objs.size = s.heap.objs.size + 1 := Heap.size_push ..
  show _ ∧ _
  rw [hz]
  have he : IsEnum ((s.heap.push { cls := .type "tuple_iterator", data := .fields #[.ref l, .int 0 0] }).push
      { cls := .type "enumerate", data := .fields #[.none, .bool false, .ref s.heap.objs.size, rawInt 0, .none, .none] }) (s.heap.objs.size + 1) s.heap.objs.size 0 .none := by
    have := Heap.get?_push_size (s.heap.push { cls := .type "tuple_iterator", data := .fields #[.ref l, .int 0 0] })
      (o := { cls := .type "enumerate", data := .fields #[.none, .bool false, .ref s.heap.objs.size, rawInt 0, .none, .none] }) rfl
    rw [hz] at this; exact this
  refine ⟨⟨_, he, rfl⟩, h _ he ⟨_, Heap.get?_push_of_some _ (Heap.get?_push_size _ rfl), rfl, rfl⟩ (by rw [Heap.size_push, hz]) fun b o x => Heap.get?_push_of_some _ (Heap.get?_push_of_some _ x)⟩
theorem wpAny_pyNext_enumT_end {e it l : Addr} {i : Nat} {c : Int} {items : Array Value} {old : Value} {Q : Option Value → Shared → Prop} (hh : A.in1.handled = none)
    (he : IsEnum s.heap e it c old) (hit : s.heap.IsTupleIter it l i) (hl : s.heap.IsTuple l items) (hx : items[i]? = none)
    (hQ : ∀ h', Heap.ExtBut it s.heap h' → Q none { s with heap := h' }) : wpAny (model prog w) A (pyNext (.ref e)) Q E s := by
  have hT : s.TypeIs (.ref e) "enumerate" := ⟨_, he, rfl⟩
  unfold pyNext
  refine wpAny_bind (wpAny_attempt (wpAny_callSpecial?_slot (name := Str.ofString "__next__") hT F.slot_enumerate_next
    (wpAny_call_entry F.slot_enumerate_next hT F.entry_enumerate_next ?_ (F.args_enumerate_next_1 _))))
  show wpAny _ _ (field (.ref e) 2 >>= _) _ _ _
  refine wpAny_bind (wpAny_field he rfl (x := .ref it) rfl ?_)
  refine wpAny_bind (wpAny_nextOf_tuple_end hh hit hl hx fun h' x he' hx' => ?_)
  obtain ⟨o, ho, hc⟩ := hx'
  refine wpAny_bind (wpAny_isInstance (T := "StopIteration") (b := true) ⟨o, ho, hc⟩ isSubtype_stop ?_)
  exact wpAny_pure (hQ _ he')
end
end PySem
namespace L2
open PySem PySem.Spec PyProof.Rows
/-- the tuple at a as it stands at each turn, each item in a new pair -/
def IteT (K : PySem.W.Frag) (a : Addr) : It :=
  ⟨fun i H => ∃ (xs : List V) (x : V), SqT K H a xs ∧ xs[i]? = some x, fun i H v H' => ∃ T x, v = .ref T ∧ H T = none ∧ H' = upd H T (.tup [.int (i : Nat), x]) ∧ ∀ xs, SqT K H a xs → xs[i]? = some x, fun i H => ∃ xs : List V, SqT K H a xs ∧ xs.length ≤ i⟩
theorem turn_enumT {P : Program} {w : World} {K : PySem.W.Frag} {elts : List Expr} {kk : Nat} {tpos : Pos} (a e it : Addr) :
    Turn P w K (.Tuple elts kk tpos) (IteT K a) [e, it] e (fun i h => (∃ old, IsEnum h e it ((i : Nat) : Int) old) ∧ h.IsTupleIter it a i ∧ e ≠ it ∧ a ≠ it ∧ a ≠ e) where
  mem := by simp
  obj := fun i h st b hb => by
    obtain ⟨⟨old, he⟩, ⟨o, ho, hc, hd⟩, _⟩ := st
    have e' : b = e ∨ b = it := by simpa using hb
    rcases e' with z | z
    · rw [z]; exact ⟨_, he, fun v q => nomatch q⟩
    · rw [z]; exact ⟨o, ho, fun v q => by rw [hd] at q; cases q⟩
  keep := fun i h h' st k => let ⟨⟨old, he⟩, hi, hne⟩ := st; ⟨⟨old, k e (by simp) _ he⟩, hi.at fun o q => k it (by simp) o q, hne⟩
  item := by
    intro X hP hw hK hc i pins s σ H E I hf st hg
    subst hP hw hK
    obtain ⟨⟨old, he⟩, hit, hne, hai, hae⟩ := st
    obtain ⟨xs, x, hq, hx⟩ := hg
    obtain ⟨its, rv, p, hz⟩ := I.tuple hq
    obtain ⟨u, hu, ru⟩ := rv.get hx
    have hel : e < s.heap.objs.size := Heap.lt_size he
    have hil : it < s.heap.objs.size := by obtain ⟨_, q, _⟩ := hit; exact Heap.lt_size q
    have hlt : i < its.toArray.size := by
      have := (List.getElem?_eq_some_iff.mp hu).1
      simpa using this
    have pt : s.heap.IsTuple a its.toArray := p
    have DD : Draws X.prog X.w X.A.in1 it [it, a] its.toArray.size _ _ := Draws.tuple (show X.A.in1.handled = none from I.ok.hd hc) it a hai its.toArray
    refine wpAny_pyNext_enum_itemD DD he ⟨hit, pt⟩ hlt hne (fun z => by
      have e' : e = it ∨ e = a := by simpa using z
      rcases e' with z | z
      · exact hne z
      · exact hae z.symm) fun x' h' tk hx' ho hst hT hsz hk => ?_
    obtain ⟨hit', pt'⟩ := hst
    have ex : x' = u := by
      have q1 : its.toArray[i]? = some u := by simpa using hu
      rw [q1] at hx'; exact (Option.some.inj hx').symm
    subst ex
    refine ⟨_, rfl, wpAny_letOwnedTupleGo_enum (s := { s with heap := h', toks := tk + 1 }) ho fun h'' he' sb => ?_⟩
    have hT2 : h''.get? s.heap.objs.size = some { cls := .type "tuple", data := .seq #[.int i tk, x'] } := (sb.2 _ (Nat.ne_of_gt hel)).trans hT
    have new : ObjOk X.prog X.w (upd H s.heap.objs.size (.tup [.int (i : Nat), x])) h'' s.heap.objs.size (.tup [.int (i : Nat), x]) :=
      ⟨by show 2 ≤ sizeLine; decide, [.int i tk, x'], .cons ⟨_, rfl⟩ (.cons ru .nil), ⟨_, hT2, rfl, _, rfl⟩⟩
    have I1 : Inv X pins σ (upd H s.heap.objs.size (.tup [.int (i : Nat), x])) { s with heap := h'', toks := tk + 1 } :=
      I.turnedNew (ch := [e, it]) (fun b ob hb q => (sb.2 b (fun z => hb (by simp [z]))).trans (hk b ob (fun z => hb (by simp [z])) (fun z => hb (by simp [z])) q)) hf (Nat.le_refl _) new
    refine ⟨.ref s.heap.objs.size, _, I1, rfl, ⟨_, x, rfl, I.hok.fresh (Nat.le_refl _), rfl, fun ys hy => by rw [I.tuple_inj hy hq]; exact hx⟩, ⟨⟨x', ?_⟩, hit'.at fun o q => (sb.2 it (Ne.symm hne)).trans q, hne, hai, hae⟩, fun b hb => ?_⟩
    · have e1 : ((i + 1 : Nat) : Int) = (i : Int) + 1 := by omega
      rw [e1]; exact he'
    · have hb' : b < s.heap.objs.size := by
        have e' : b = e ∨ b = it := by simpa using hb
        rcases e' with z | z
        · rw [z]; exact hel
        · rw [z]; exact hil
      rw [upd_ne (Nat.ne_of_lt hb')]
      exact (hf b hb).1
  done := by
    intro X hP hw hK hc i pins s σ H E I hf st hg
    subst hP hw hK
    obtain ⟨⟨old, he⟩, hit, hne, hai, hae⟩ := st
    obtain ⟨xs, hq, hx⟩ := hg
    obtain ⟨its, rv, p, hz⟩ := I.tuple hq
    obtain ⟨f0, f1, f2, f3, f4, f5⟩ := hf it (by simp)
    have hl := rv.length
    have pt : s.heap.IsTuple a its.toArray := p
    exact wpAny_pyNext_enumT_end (show X.A.in1.handled = none from I.ok.hd hc) he hit pt (by simp; omega) fun h' eb => ⟨rfl, I.turned (t' := s.toks) (fun b o hb q => eb b o hb q) f0 f1 f3 f4 f5⟩
  self := fun A i s Q E st h => let ⟨⟨_, he⟩, _⟩ := st; wpAny_pyIter_enum he h
/-- enumerate(x), x a list or a tuple -/
def iEnumA (K : PySem.W.Frag) (ta : TA) : TI := fun σ H R => ta σ H fun vs H1 => ∃ a xs, vs = [.ref a] ∧ ((SqL K H1 a xs ∧ R (Ite K a) H1) ∨ (SqT K H1 a xs ∧ R (IteT K a) H1))
theorem pi_enumA {X : Cx} {e : Expr} {ta : TA} {p pos tpos : Pos} {elts : List Expr} {kk : Nat} (hg : Gl X "enumerate") (hm : X.mg "enumerate" = none) (ha : PA X [e] ta) (hs : starEach [e] X.env = [(false, eval e X.env)] := by rfl) :
    PI X (.Tuple elts kk tpos) (.Call (.Name "enumerate" p) [e] [] pos) (iEnumA X.K ta) := by
  refine ⟨fun pins s σ H R I h => ?_⟩
  refine Call_ (ld_blt I hg hm boot_enumerate (PyProof.Rows.callWith_type1 (thn (ha.run pos pins s σ H _ I h) fun us s1 ⟨vs, H1, I1, r1, q1⟩ => ?_) hs rfl))
  obtain ⟨a, xs, ex, q⟩ := q1
  subst ex
  cases r1 with
  | cons r rr =>
    cases rr
    cases r
    have fpk : ∀ b, b ∈ [s1.heap.objs.size + 1, s1.heap.objs.size] → FpOk X pins H1 b := fun b hb => by
      have e' : b = s1.heap.objs.size + 1 ∨ b = s1.heap.objs.size := by simpa using hb
      have hle : s1.heap.objs.size ≤ b := by
        rcases e' with z | z
        · rw [z]; exact Nat.le_add_right _ _
        · rw [z]; exact Nat.le_refl _
      exact I1.fpOk hle (I1.hok.fresh hle)
    rcases q with ⟨hq, q⟩ | ⟨hq, q⟩
    · obtain ⟨its, rv, p', hz⟩ := I1.list hq
      refine call_enumerate_list p'.isList fun h' he hit hsz hk => wpAny_pyIter_enum he ?_
      have I2 : Inv X pins σ H1 { s1 with heap := h' } := I1.kept (t' := s1.toks) hk
      exact ⟨s1.heap.objs.size + 1, [s1.heap.objs.size + 1, s1.heap.objs.size], _, _, H1, rfl, I2, turn_enum a (s1.heap.objs.size + 1) s1.heap.objs.size, ⟨⟨.none, he⟩, hit, Nat.succ_ne_self _⟩, fpk, q⟩
    · obtain ⟨its, rv, p', hz⟩ := I1.tuple hq
      have pt : s1.heap.IsTuple a its.toArray := p'
      have ha1 : a < s1.heap.objs.size := by obtain ⟨o, ho, _⟩ := pt; exact Heap.lt_size ho
      refine call_enumerate_tup pt fun h' he hit hsz hk => wpAny_pyIter_enum he ?_
      have I2 : Inv X pins σ H1 { s1 with heap := h' } := I1.kept (t' := s1.toks) hk
      exact ⟨s1.heap.objs.size + 1, [s1.heap.objs.size + 1, s1.heap.objs.size], _, _, H1, rfl, I2, turn_enumT a (s1.heap.objs.size + 1) s1.heap.objs.size, ⟨⟨.none, he⟩, hit, Nat.succ_ne_self _, Nat.ne_of_lt ha1, Nat.ne_of_lt (Nat.lt_succ_of_lt ha1)⟩, fpk, q⟩
end L2
set_option Elab.async false
set_option linter.all false
set_option maxRecDepth 100000
set_option maxHeartbeats 4000000
namespace L2
open PySem PySem.Spec PyProof.Rows
theorem ps_setDc {X : Cx} {i : Nat} {y : Str} {py : Pos} {kx vx tg iter : Expr} {ifs : List Expr} {scope : Scope} {own : List (Str × Nat)} {pos spos : Pos} {wi : TI} {g : TG} {tt : TT} {tk tv : TE} (hc : X.calm = true) (hN : X.N.Nodup) (hy : X.N[i]? = some y) (hyl : X.env.scope.names.lookup y = some .local)
    (hsw : swapsWith (.DictComp kx vx [⟨tg, iter, ifs, 0⟩] scope pos) (some (.Name y py)) spos.line X.env = pure true) (hi : PI X tg iter wi) (ok : BlkOk X.N X.env.scope scope own)
    (hg : ∀ (s : Shared) (H : Hp) (C : Addr) (cl : List (Str × Addr)) (fp : List Addr), PG (X.blk s H scope (compEnvC scope cl C X.env) fp) tg g) (ht : ∀ (s : Shared) (H : Hp) (C : Addr) (cl : List (Str × Addr)) (fp : List Addr), PTs (X.blk s H scope (compEnvC scope cl C X.env) fp) ifs tt)
    (hk : ∀ (s : Shared) (H : Hp) (C : Addr) (cl : List (Str × Addr)) (fp : List Addr), PE (X.blk s H scope (compEnvC scope cl C X.env) fp) kx tk)
    (he : ∀ (s : Shared) (H : Hp) (C : Addr) (cl : List (Str × Addr)) (fp : List Addr), PE (X.blk s H scope (compEnvC scope cl C X.env) fp) vx tv) (hs : ∀ x, foldedSetIterable iter X.env x = pure x := by intro _; rfl) :
    PS X (.Assign [.Name y py] (.DictComp kx vx [⟨tg, iter, ifs, 0⟩] scope pos) spos) (tAsg (tDc wi g tt tk tv (own.map (·.2))) (gName i)) := by
  refine ⟨fun pins s σ H D I h => ?_⟩
  rw [exec_Assign_Name_used _ _ _ _ hsw]
  refine wpAny_bind (wpAny_standAt (wpAny_bind ?_))
  show wpAny _ X.A (do let _ ← comprehension (.DictComp kx vx [⟨tg, iter, ifs, 0⟩] scope pos) scope X.env (firstIterPos [⟨tg, iter, ifs, 0⟩] pos) newDict false (eval iter X.env) (some (assign (.Name y py) X.env))) _ _ s
  have h : tDc wi g tt tk tv (own.map (·.2)) σ H (fun x H1 => gName i x σ H1 D.nx) := h
  refine wpAny_bind (thn (dc_core (Qf := fun _ s' => SP X pins D .next s') hc hN I hi ok hg ht hk he hs h fun L C s' m H' I' q hn f => ?_) fun _ s' hq => wpAny_pure (wpAny_pure hq))
  show wpAny _ _ (assign (.Name y py) X.env (.ref L)) _ _ _
  refine wpAny_assign_Name (store_ok2 (v := V.ref L) I' hN hy (.inl hyl) rfl (fun s2 I2 ⟨a, sb, ha⟩ => ?_) (.inr hyl))
  obtain ⟨f0, f1, f2, f3, f4, f5⟩ := f
  have haC : C ≠ a := by
    rcases ha with z | z
    · rw [z]; exact f1
    · exact fun e => f4 y a z e.symm
  refine ⟨m, hn.sameBut sb haC, fun h3 sb3 => ?_⟩
  exact ⟨_, H', I2.turned (t' := s2.toks) (fun b o hb e => (sb3.2 b hb).trans e) f0 f1 f3 f4 f5, q⟩
end L2
namespace L2.Q
open PySem PySem.Spec PyProof.Rows L2 L2.Wb RZ
section
variable {Θ : Th} {X : Cx} {pos : Pos}
theorem q_setDc {i : Nat} {y : Str} {py spos : Pos} {kx vx tg iter : Expr} {scope : Scope} (own : List (Str × Nat)) {S : List Nat} {gi : GI} {t : GG} {gk gv : GE} (hc : X.calm = true) (hN : X.N.Nodup) (hy : X.N[i]? = some y) (ok : BlkOk X.N X.env.scope scope own) (hi : PI X tg iter (tOfI Θ gi))
    (hg : ∀ a o h (s : Shared) (H : Hp) (C : Addr) (cl : List (Str × Addr)) (fp : List Addr), PG (X.blk s H scope (compEnvC scope cl C X.env) fp) tg (tOfG (Θ.ext a o h) S t))
    (hk : ∀ a o h (s : Shared) (H : Hp) (C : Addr) (cl : List (Str × Addr)) (fp : List Addr), PE (X.blk s H scope (compEnvC scope cl C X.env) fp) kx (tOf (Θ.ext a o h) gk))
    (he : ∀ a o h (s : Shared) (H : Hp) (C : Addr) (cl : List (Str × Addr)) (fp : List Addr), PE (X.blk s H scope (compEnvC scope cl C X.env) fp) vx (tOf (Θ.ext a o h) gv)) (hyl : X.env.scope.names.lookup y = some .local := by rfl)
    (hsw : swapsWith (.DictComp kx vx [⟨tg, iter, [], 0⟩] scope pos) (some (.Name y py)) spos.line X.env = pure true := by rfl) (hs : ∀ i, i ∈ S → i ∈ own.map (·.2) := by decide) (hsf : ∀ x, foldedSetIterable iter X.env x = pure x := by intro _; rfl) :
    PS X (.Assign [.Name y py] (.DictComp kx vx [⟨tg, iter, [], 0⟩] scope pos) spos) (tOfS Θ (gSet i (gDc gi (own.map (·.2)) t gk gv))) := by
  refine ps_conv (ps_setDc (g := fun v σ H Q => ∃ a o h, tOfG (Θ.ext a o h) S t v σ H Q) (tk := fun σ H Q => ∃ a o h, tOf (Θ.ext a o h) gk σ H Q) (tv := fun σ H Q => ∃ a o h, tOf (Θ.ext a o h) gv σ H Q) hc hN hy hyl hsw hi ok (fun s H C cl fp => ?_) (fun s H C cl fp => pts_nil) (fun s H C cl fp => ?_) (fun s H C cl fp => ?_) hsf) fun Dn σ H ⟨e, De, E, h, m⟩ => ?_
  · exact ⟨fun pins s' σ H' v u Q I r ⟨a, o, h, q⟩ => (hg a o h s H C cl fp).run pins s' σ H' v u Q I r q⟩
  · exact ⟨fun pins s' σ H' Q I ⟨a, o, h, q⟩ => (hk a o h s H C cl fp).run pins s' σ H' Q I q⟩
  · exact ⟨fun pins s' σ H' Q I ⟨a, o, h, q⟩ => (he a o h s H C cl fp).run pins s' σ H' Q I q⟩
  · refine dc_go hs (fun _ _ _ h => h) (fun a o h v σ H Q q => ⟨a, o, h, q⟩) (fun a o h σ H Q ⟨e, Qp, E, q, k⟩ => k _ _ _ (Le.refl _) E q) (fun a o h σ H Q q => ⟨a, o, h, q⟩) (fun a o h σ H Q q => ⟨a, o, h, q⟩) ⟨e, _, E, h, fun v d fr H1 e1 r h1 => ?_⟩
    obtain ⟨E', le⟩ := store_go (i := i) r
    exact m.nx _ _ _ le E' h1
def gsNever : GS := fun _ _ => False
theorem q_never {st : Stmt} : PS X st (tOfS Θ gsNever) := ⟨fun pins s σ H D I ⟨_, _, _, h, _⟩ => h.elim⟩
def geNever : GE := fun _ _ => False
def tyInF : F2 := fun x y k => ∃ (n : String) (ns : List String), x = .raw (.ty n) ∧ y = .tup (ns.map fun m => .raw (.ty m)) ∧ PySem.WbT.Plain n ∧ (∀ m ∈ ns, PySem.WbT.Plain m) ∧ k (.bl (ns.any fun m => decide (m = n))) false
theorem tys_rp {C : Cn} {H : Hp} : ∀ {ns : List String} {vs : List V}, RpA C H vs (ns.map fun m => .raw (.ty m)) → vs = ns.map V.ty
  | [], _, .nil => rfl
  | n :: ns, _, .cons a b => by cases a; rw [tys_rp b]; rfl
theorem oq_tyIn : OpQ X Θ (compareOp .In) tyInF := ⟨_, op_tyIn, fun σ H e v w x y k Q E rx ry ⟨n, ns, ex, ey, hn, hns, h⟩ K => by
  subst ex ey
  cases rx
  obtain ⟨a, xs, rfl, h1, r1⟩ := ry.tupE
  rw [tys_rp r1] at h1
  exact ⟨n, a, ns, rfl, rfl, hn, hns, SqT.of h1, K _ _ _ _ (Res.mk E (.bl _)) h⟩⟩
theorem wlk_enumT {Θ0 : Th} {K : PySem.W.Frag} {G : Hp} {a : Addr} {xs : List V} {ds : List D} (h : G a = some (.tup xs)) (r : RpA Θ0.C G xs ds) : Wlk Θ0 (IteT K a) G (enumD 0 ds) := by
  refine ⟨fun Θ i d σ H e hC hd E l => ?_, fun Θ σ H e hC E l => ?_⟩
  · obtain ⟨d', hd', rfl⟩ := enumD_get hd
    have h1 := (cut_in (l.t _ _ h)).2
    obtain ⟨v, hv, rv⟩ := (r.le l).get hd'
    refine ⟨⟨xs, v, SqT.of h1, hv⟩, fun x H' ⟨T, u, e0, hT, e1, y⟩ => ?_⟩
    subst e0; subst e1
    have := y xs (SqT.of h1)
    rw [hv] at this; cases this
    have z := turn_new (us := [.int ((i : Nat) : Int), v]) (ds := [.int ((i : Nat) : Int), d']) E hT (.cons (.int _) (.cons (by rw [hC.1]; exact rv) .nil))
    rw [Nat.zero_add]
    exact z
  · exact ⟨xs, SqT.of (cut_in (l.t _ _ h)).2, by rw [enumD_len, r.len]; exact Nat.le_refl _⟩
def giEnumA (ga : GA) : GI := fun e Q => ga e fun ds e1 => ∃ xs, (ds = [.lst xs] ∨ ds = [.tup xs]) ∧ Q (enumD 0 xs) e1
theorem qi_enumA {a : Expr} {ga : GA} {p tpos : Pos} {elts : List Expr} {kk : Nat} (hg : Gl X "enumerate") (hm : X.mg "enumerate" = none) (ha : PA X [a] (tOfA Θ ga)) (hs : starEach [a] X.env = [(false, eval a X.env)] := by rfl) : PI X (.Tuple elts kk tpos) (.Call (.Name "enumerate" p) [a] [] pos) (tOfI Θ (giEnumA ga)) :=
  pi_conv (pi_enumA hg hm ha hs) fun σ H R ⟨e, Qp, E, h, k⟩ => ⟨e, _, E, h, fun vs ds H1 e1 l1 E1 r1 ⟨xs, h0, h1⟩ => by
    rcases h0 with h0 | h0
    · subst h0
      obtain ⟨v, rfl, rv⟩ := r1.one
      cases rv with
      | lst g1 g2 => exact ⟨_, _, rfl, .inl ⟨SqL.of (cut_in g1).2, k _ _ _ _ l1 E1 (wlk_enum g1 g2) h1⟩⟩
    · subst h0
      obtain ⟨v, rfl, rv⟩ := r1.one
      cases rv with
      | tup g1 g2 => exact ⟨_, _, rfl, .inr ⟨SqT.of (cut_in g1).2, k _ _ _ _ l1 E1 (wlk_enumT g1 g2) h1⟩⟩⟩
end
/-- no own local among the comprehension's targets -/
def ownB : Sl → Bool
  | some (_, true) => true
  | _ => false
theorem noOwn_of {vs : List Nat} {e : L2.Q.Env} (h : (vs.all fun i => !ownB (getS e.sl i)) = true) : NoOwn vs e := fun i hi d z => by
  have := List.all_eq_true.mp h i hi
  rw [z] at this; cases this
theorem lc_each {vs : List Nat} {t : GG} {g : GE} {e1 : Env} {ds : List D} {Q : D → Bool → Env → Prop} (f : D → D) (no : NoOwn vs e1) (hl : ds.length ≤ 1000000)
    (hb : ∀ d ∈ ds, ∀ (K : D → Bool → Env → Prop) (K' : Env → Prop), (∀ fr e5, backE vs e1 e5 = e1 → K (f d) fr e5) → t d (wipeE e1 vs) fun e3 => gtYes e3 fun b e4 => (b = true → g e4 K) ∧ (b = false → K' e4))
    (hq : Q (.lst (ds.map f)) true e1) : gLcI vs t gtYes g ds e1 Q := by
  refine lc_map (fun _ => true) f no hl (fun d hd K K' hk _ => hb d hd K K' (hk rfl)) ?_
  rw [List.filter_eq_self.mpr fun _ _ => rfl]
  exact hq
section
variable {a b : Int} {xs ys : List D} {x y : Str} {p q : Bool} {k : D → Bool → Prop} {d : D} {ks : List Key} {neg : Bool}
theorem f_add : addF (.int a) (.int b) k = k (.int (a + b)) false := rfl
theorem f_addL : addF (.lst xs) (.lst ys) k = (xs.length + ys.length ≤ 1000000 ∧ k (.lst (xs ++ ys)) true) := rfl
theorem f_addT : addF (.tup xs) (.tup ys) k = (xs.length + ys.length ≤ 1000000 ∧ k (.tup (xs ++ ys)) false) := rfl
theorem f_sub : subF (.int a) (.int b) k = k (.int (a - b)) false := rfl
theorem f_mul : mulF (.int a) (.int b) k = (((-(2 ^ 64) < a ∧ a < 2 ^ 64) ∨ (-(2 ^ 64) < b ∧ b < 2 ^ 64)) ∧ k (.int (a * b)) false) := rfl
theorem f_mulT {ds : List D} : mulF (.tup ds) (.int b) k = (-1000000 ≤ b ∧ b ≤ 1000 ∧ ds.length ≤ 1000 ∧ (b ≤ 0 → ds = []) ∧ k (.tup (List.replicate b.toNat ds).flatten) false) := rfl
theorem f_mulL {ds : List D} : mulF (.lst ds) (.int b) k = (-1000000 ≤ b ∧ b ≤ 1000000 ∧ ds.length * b.toNat ≤ 1000000 ∧ k (.lst (List.replicate b.toNat ds).flatten) true) := rfl
theorem f_div : divF (.int a) (.int b) k = (0 < b ∧ b < 1073741824 ∧ k (.int (a / b)) false) := rfl
theorem f_mod : modF (.int a) (.int b) k = (0 < b ∧ k (.int (a % b)) false) := rfl
theorem f_lt : ltF (.int a) (.int b) k = k (.bl (decide (a < b))) false := rfl
theorem f_le : leF (.int a) (.int b) k = k (.bl (decide (a ≤ b))) false := rfl
theorem f_gt : gtF (.int a) (.int b) k = k (.bl (decide (b < a))) false := rfl
theorem f_ge : geF (.int a) (.int b) k = k (.bl (decide (b ≤ a))) false := rfl
theorem f_is : isF d .non k = ∃ b, isNon d = some b ∧ k (.bl b) false := rfl
theorem f_isnt : isntF d .non k = ∃ b, isNon d = some b ∧ k (.bl (!b)) false := rfl
theorem f_isT {m n : String} : isTF (.raw (.ty m)) (.raw (.ty n)) k = k (.bl (decide (m = n))) false := rfl
theorem f_isntT {m n : String} : isntTF (.raw (.ty m)) (.raw (.ty n)) k = k (.bl (!decide (m = n))) false := rfl
theorem f_isB : isBF (.bl p) (.bl q) k = k (.bl (decide (p = q))) false := rfl
theorem f_inL : inAF neg d (.lst xs) k = ∃ b, memT d (.lst xs) = some b ∧ k (.bl (neg != b)) false := rfl
theorem f_inT : inAF neg d (.tup xs) k = ∃ b, memT d (.tup xs) = some b ∧ k (.bl (neg != b)) false := rfl
theorem f_inD : inAF neg d (.dct ks xs) k = ∃ o, getD (.dct ks xs) d = some o ∧ k (.bl (neg != o.isSome)) false := rfl
theorem f_ixL : ixAF (.lst xs) (.int a) k = ∃ d, atI xs a = some d ∧ k d false := rfl
theorem f_ixT : ixAF (.tup xs) (.int a) k = ∃ d, atI xs a = some d ∧ k d false := rfl
theorem f_ixD : ixAF (.dct ks xs) d k = ∃ z, getD (.dct ks xs) d = some (some z) ∧ k z false := rfl
theorem f_slL {lo hi : Option Int} : slF (.lst xs) lo hi k = k (.lst (cutD xs lo hi)) true := rfl
theorem f_slT {lo hi : Option Int} : slF (.tup xs) lo hi k = k (.tup (cutD xs lo hi)) false := rfl
theorem f_lenL : lenSF [.lst xs] k = k (.int xs.length) false := rfl
theorem f_lenT : lenSF [.tup xs] k = k (.int xs.length) false := rfl
theorem f_list : lstF [.lst xs] k = k (.lst xs) true := rfl
theorem f_listT : lstF [.tup xs] k = k (.lst xs) true := rfl
theorem f_tup : tupF [.lst xs] k = k (.tup xs) false := rfl
theorem f_tupT : tupF [.tup xs] k = k (.tup xs) false := rfl
theorem f_ty : tyF [d] k = ∃ n, tyName d = some n ∧ k (.raw (.ty n)) false := rfl
theorem f_ia {f : Int → Int → Int} : iaF f (.int a) (.int b) k = k (.int (f a b)) false := rfl
theorem f_dict : dictF [.dct ks xs] k = k (.dct ks xs) true := rfl
theorem f_all : allF [.lst xs] k = ∃ ns, blsOf xs = some ns ∧ k (.bl (ns.all id)) false := rfl
theorem f_intB : intF [.bl p] k = k (.int (if p then 1 else 0)) false := rfl
theorem f_app {as : List D} {kk : D → List D → Prop} : appF xs [d] kk = (xs.length < 1000000 ∧ kk .non (xs ++ [d])) := rfl
end
theorem for_go {gi : GI} {t : GG} {b : GS} {De : QE} {e : L2.Q.Env} (ds : List D) (e1 : L2.Q.Env) (hgi : ∀ Q : List D → L2.Q.Env → Prop, Q ds e1 → gi e Q) (P : Nat → L2.Q.Env → Prop) (p0 : P 0 e1)
    (step : ∀ i d e2, ds[i]? = some d → P i e2 → t d e2 fun e3 => b { nx := P (i + 1), ct := P (i + 1), bk := De.nx, rt := De.rt } e3) (fin : ∀ e2, P ds.length e2 → De.nx e2) : gFor gi t b De e := hgi _ ⟨P, p0, step, fin⟩
theorem lc_go2 {gi : GI} {vs : List Nat} {t : GG} {c : GT} {g : GE} {e : L2.Q.Env} {Q : D → Bool → L2.Q.Env → Prop} (ds : List D) (e1 : L2.Q.Env) (hgi : ∀ Q : List D → L2.Q.Env → Prop, Q ds e1 → gi e Q) (h : gLcI vs t c g ds e1 Q) : gLc gi vs t c g e Q := hgi _ h
theorem dc_each {gi : GI} {vs : List Nat} {t : GG} {gk gv : GE} {e : L2.Q.Env} {Q : D → Bool → L2.Q.Env → Prop} (xs : List Str) (e1 : L2.Q.Env) (hgi : ∀ Q : List D → L2.Q.Env → Prop, Q (xs.map D.str) e1 → gi e Q) (F : Str → D) (hn : xs.Nodup) (hl : xs.length ≤ 100000) (no : NoOwn vs e1)
    (step : ∀ x ∈ xs, ∀ K : D → D → L2.Q.Env → Prop, (∀ e5, backE vs e1 e5 = e1 → K (.str x) (F x) e5) → t (.str x) (wipeE e1 vs) fun e3 => gk e3 fun y _ e4 => gv e4 fun z _ e5 => K y z e5)
    (hq : Q (.dct (xs.map Sum.inr) (xs.map F)) true e1) : gDc gi vs t gk gv e Q := by
  refine hgi _ ⟨no, by rw [List.length_map]; omega, fun i ks es e2 => ks = (xs.take i).map Sum.inr ∧ es = (xs.take i).map F ∧ e2 = e1, ⟨by rw [List.take_zero]; rfl, by rw [List.take_zero]; rfl, rfl⟩, fun i d ks es e2 hd ⟨h1, h2, h3⟩ => ?_, fun ks es e2 ⟨h1, h2, h3⟩ => ?_⟩
  · subst h1; subst h2; subst h3
    rw [List.getElem?_map] at hd
    obtain ⟨x, hx, hxd⟩ := Option.map_eq_some_iff.mp hd
    subst hxd
    have hi := (List.getElem?_eq_some_iff.mp hx).1
    have ht : xs.take (i + 1) = xs.take i ++ [x] := by rw [List.take_add_one, hx]; rfl
    have nin : (Sum.inr x : Key) ∉ (xs.take i).map (Sum.inr : Str → Key) := fun z => by
      obtain ⟨y, hy, e⟩ := List.mem_map.mp z
      have e' : y = x := Sum.inr.inj e
      have h3 : (xs.take (i + 1)).Nodup := hn.sublist (List.take_sublist _ _)
      rw [ht] at h3
      exact (List.nodup_append.mp h3).2.2 y hy x List.mem_cons_self e'
    refine step x (List.mem_of_getElem? hx) _ fun e5 he => ⟨by rw [List.length_map, List.length_take]; omega, .inr x, rfl, ?_, ?_, he⟩
    · show (putD _ _ _ _).1 = _
      unfold putD
      rw [if_neg nin, ht, List.map_append]; rfl
    · show (putD _ _ _ _).2 = _
      unfold putD
      rw [if_neg nin, ht, List.map_append]; rfl
  · rw [List.length_map] at h1 h2
    rw [List.take_length] at h1 h2
    rw [h1, h2, h3]; exact hq
end L2.Q
local macro_rules | `(tactic| one_item) => `(tactic| try dsimp only [L2.Q.gSeq, L2.Q.gNext, L2.Q.gIfS, L2.Q.gB, L2.Q.gtNot, L2.Q.gtAnd, L2.Q.gtOr, L2.Q.gtYes, L2.Q.gVar, L2.Q.gC, L2.Q.gA0, L2.Q.gA1, L2.Q.gTup, L2.Q.gLst, L2.Q.g2, L2.Q.gAnd, L2.Q.gOr, L2.Q.gNot, L2.Q.gIf, L2.Q.gCall, L2.Q.gCallX, L2.Q.gCallK, L2.Q.gCallL, L2.Q.gMeth, L2.Q.gFld, L2.Q.gAsg, L2.Q.ggTup, L2.Q.ggCons, L2.Q.ggNil, L2.Q.ggName, L2.Q.gRet, L2.Q.gRetV, L2.Q.gRetN, L2.Q.gDrop, L2.Q.gSet, L2.Q.giSeq, L2.Q.giEnumA, L2.Q.giR1, L2.Q.giR2, L2.Q.giZip, L2.Q.gB1, L2.Q.gNeg, L2.Q.gIxV, L2.Q.gInV, L2.Q.gLenV, L2.Q.gLenD, L2.Q.gReprV, L2.Q.gLm, L2.Q.gAug, L2.Q.gAugI, L2.Q.gCnt, L2.Q.gGetN, L2.Q.gItems, L2.Q.gListZip, L2.Q.gNd, L2.Q.gSl, L2.Q.gO0, L2.Q.gO1, L2.Q.gCmpV, L2.Q.gChain, L2.Q.gInG, L2.Q.gIxG, L2.Q.gDclr, L2.Q.gJoin, L2.Q.gPar, L2.Q.gBreak, L2.Q.gCont, L2.Q.ggItem, L2.Q.gsNever, L2.Q.geNever, L2.Q.noZ,
  L2.Q.Env.set, L2.Q.Env.frz, L2.Q.Env.clr, L2.Q.getS, L2.Q.setS, L2.Q.wipeE, L2.Q.backE, L2.Q.wipeS, L2.Q.backS, List.map, L2.Q.eqF, L2.Q.neF, L2.Q.inF, L2.Q.isNon,
  L2.Q.f_add, L2.Q.f_addL, L2.Q.f_addT, L2.Q.f_sub, L2.Q.f_mul, L2.Q.f_mulT, L2.Q.f_mulL, L2.Q.f_div, L2.Q.f_mod, L2.Q.f_lt, L2.Q.f_le, L2.Q.f_gt, L2.Q.f_ge, L2.Q.f_is, L2.Q.f_isnt, L2.Q.f_isT, L2.Q.f_isntT, L2.Q.f_isB, L2.Q.f_inL, L2.Q.f_inT, L2.Q.f_inD, L2.Q.f_ixL, L2.Q.f_ixT, L2.Q.f_ixD, L2.Q.f_slL, L2.Q.f_slT, L2.Q.f_lenL, L2.Q.f_lenT, L2.Q.f_list, L2.Q.f_listT, L2.Q.f_tup, L2.Q.f_tupT, L2.Q.f_ty, L2.Q.f_intB, L2.Q.f_ia, L2.Q.f_dict, L2.Q.f_all, L2.Q.f_app])
set_option Elab.async false
set_option linter.all false
set_option maxRecDepth 100000
set_option maxHeartbeats 4000000
namespace L2.Q.Wbm
open PySem PySem.Spec PyProof.Rows L2 L2.Wb L2.Q
structure Row where
  names : List Str
  beams : List (Str × Int)
  most : Int
  lean : Int
def bmD (p : Str × Int) : D := .tup [.str p.1, .int p.2]
def yD (r : Row) : D := .ins "Yard" ["_things", "_beams", "_most", "_lean"] [.tup (r.names.map D.str), .tup (r.beams.map bmD), .int r.most, .int r.lean]
def rowD (r : Row) : D := .tup [.lst (r.names.map D.str), .lst (r.beams.map bmD), .int r.most, .int r.lean]
structure Row.ok (r : Row) : Prop where
  n8 : r.names.length ≤ 8
  b3 : r.beams.length ≤ 3
  bn : (r.beams.map (·.1)).Nodup
  nn : r.names.Nodup
def panD : Option Str → D
  | none => .non
  | some x => .str x
structure Wg where
  b : Str
  l : Option Str
  q : Option Str
deriving DecidableEq
def wD (x : Wg) : D := .tup [.str x.b, panD x.l, panD x.q]
def rwD (x : Wg × Str) : D := .tup [.str x.1.b, panD x.1.l, panD x.1.q, .str x.2]
def words : List Str := ["left", "even", "right"]
def okP (r : Row) (p : Option Str) : Prop := ∀ x, p = some x → x ∈ r.names
def unlP : Option Str → Option Str → Bool
  | none, _ => true
  | some x, some y => !(x == y)
  | some _, none => true
structure okW (r : Row) (x : Wg) : Prop where
  b : x.b ∈ r.beams.map (·.1)
  l : okP r x.l
  q : okP r x.q
  u : unlP x.l x.q = true
structure okR (r : Row) (x : Wg × Str) : Prop where
  w : okW r x.1
  d : x.2 ∈ words
theorem eqD_str (x y : Str) : eqD (.str x) (.str y) = (x == y) := by unfold eqD toPy; rw [PyData.eqv]
theorem eqD_int (x y : Int) : eqD (.int x) (.int y) = (x == y) := by unfold eqD toPy; rw [PyData.eqv]
theorem eqD_sn (x : Str) : eqD (.str x) .non = false := by unfold eqD toPy; simp [PyData.eqv]
theorem eqD_ns (x : Str) : eqD .non (.str x) = false := by unfold eqD toPy; simp [PyData.eqv]
theorem eqD_nn : eqD .non .non = true := by unfold eqD toPy; simp [PyData.eqv]
theorem pan_nd (p : Option Str) : nd 64 (panD p) = true := by cases p <;> rfl
theorem strs_nd : ∀ l : List Str, ndA 64 (l.map D.str) = true
  | [] => rfl
  | x :: l => by show (true && ndA 64 (l.map D.str)) = true; rw [strs_nd l]; rfl
theorem any_strs (x : Str) : ∀ l : List Str, ((l.map D.str).any fun z => eqD z (.str x)) = l.any fun z => z == x
  | [] => rfl
  | y :: l => by rw [List.map_cons, List.any_cons, any_strs x l, eqD_str]; rfl
theorem any_in {x : Str} {l : List Str} : (l.any fun z => z == x) = decide (x ∈ l) := by
  rw [Bool.eq_iff_iff, List.any_eq_true, decide_eq_true_eq]
  exact ⟨fun ⟨z, h, e⟩ => by rw [← eq_of_beq e]; exact h, fun h => ⟨x, h, beq_self_eq_true _⟩⟩
theorem mem_strs (x : Str) (l : List Str) : memT (.str x) (.lst (l.map D.str)) = some (decide (x ∈ l)) := by
  show (if _ then _ else _) = _
  rw [if_pos (by rw [strs_nd]; rfl), any_strs, any_in]
theorem mem_strsT (x : Str) (l : List Str) : memT (.str x) (.tup (l.map D.str)) = some (decide (x ∈ l)) := by
  show (if _ then _ else _) = _
  rw [if_pos (by rw [strs_nd]; rfl), any_strs, any_in]
theorem mem_pans {r : Row} {p : Option Str} (h : okP r p) : memT (panD p) (.lst ([D.non] ++ r.names.map D.str)) = some true := by
  have e : ndA 64 ([D.non] ++ r.names.map D.str) = true := by show (true && ndA 64 (r.names.map D.str)) = true; rw [strs_nd]; rfl
  show (if _ then _ else _) = _
  rw [if_pos (by rw [pan_nd, e]; rfl)]
  show some (eqD .non (panD p) || (r.names.map D.str).any _) = _
  cases p with
  | none => rw [show panD none = .non from rfl, eqD_nn]; rfl
  | some x => rw [show panD (some x) = .str x from rfl, any_strs, any_in, decide_eq_true (h x rfl), Bool.or_true]
theorem ne_pan (p q : Option Str) (h : p ≠ none) : (!eqD (panD p) (panD q)) = unlP p q := by
  cases p with
  | none => exact absurd rfl h
  | some x =>
    cases q with
    | none => show (!eqD (.str x) .non) = true; rw [eqD_sn]; rfl
    | some y => show (!eqD (.str x) (.str y)) = _; rw [eqD_str]; rfl
def lookS : List (Str × Int) → Str → Option Int
  | [], _ => none
  | p :: r, b => if p.1 = b then some p.2 else lookS r b
def p_is_number : PSp := fun ds n R Y => ∃ i lo hi : Int, ds = [.int i, .int lo, .int hi] ∧ R (.bl (decide (lo ≤ i) && decide (i ≤ hi))) false n
def p_is_list : PSp := fun ds n R Y => ∃ xs, (ds = [.lst xs] ∨ ds = [.tup xs]) ∧ R (.bl true) false n
def p_is_tuple : PSp := fun ds n R Y => ∃ (xs : List D) (m : Nat), ds = [.tup xs, .int m] ∧ xs.length = m ∧ R (.bl true) false n
def p_Y_things : PSp := fun ds n R Y => ∃ r, ds = [yD r] ∧ R (.lst (r.names.map D.str)) true n
def p_Y_beams : PSp := fun ds n R Y => ∃ r, ds = [yD r] ∧ R (.lst (r.beams.map bmD)) true n
def p_Y_most : PSp := fun ds n R Y => ∃ r, ds = [yD r] ∧ R (.int r.most) false n
def p_Y_lean : PSp := fun ds n R Y => ∃ r, ds = [yD r] ∧ R (.int r.lean) false n
def p_Y_step : PSp := fun ds n R Y => ∃ r b s, ds = [yD r, .str b] ∧ lookS r.beams b = some s ∧ R (.int s) false n
def p_pans_of : PSp := fun ds n R Y => ∃ r : Row, ds = [yD r] ∧ r.ok ∧ R (.lst ([D.non] ++ r.names.map D.str)) true n
def p_names_of : PSp := fun ds n R Y => ∃ r : Row, ds = [yD r] ∧ r.ok ∧ R (.lst ((r.beams.map (·.1)).map D.str)) true n
def p_are_unlike : PSp := fun ds n R Y => ∃ p q, ds = [panD p, panD q] ∧ R (.bl (unlP p q)) false n
def p_is_weighing : PSp := fun ds n R Y => ∃ r x, ds = [yD r, wD x] ∧ r.ok ∧ okW r x ∧ R (.bl true) false n
def p_is_row : PSp := fun ds n R Y => ∃ r x, ds = [yD r, rwD x] ∧ r.ok ∧ okR r x ∧ R (.bl true) false n
def p_need_each (fr fw : Addr) : PSp := fun ds n R Y => ∃ r xs v t, ds = [yD r, t, .raw v] ∧ r.ok ∧ (t = .lst xs ∨ t = .tup xs) ∧ ((v = V.ref fr ∧ ∀ d ∈ xs, ∃ x, d = rwD x ∧ okR r x) ∨ (v = V.ref fw ∧ ∀ d ∈ xs, ∃ x, d = wD x ∧ okW r x)) ∧ R .non false n
def p_need_log : PSp := fun ds n R Y => ∃ r xs t, ds = [yD r, t] ∧ r.ok ∧ (t = .lst xs ∨ t = .tup xs) ∧ (∀ d ∈ xs, ∃ x, d = rwD x ∧ okR r x) ∧ R .non false n
def p_need_weighings : PSp := fun ds n R Y => ∃ r xs t, ds = [yD r, t] ∧ r.ok ∧ (t = .lst xs ∨ t = .tup xs) ∧ (∀ d ∈ xs, ∃ x, d = wD x ∧ okW r x) ∧ R .non false n
def sOne (fr fw : Addr) : V → Option PSp := fun v => if v = .ref fr then some p_is_row else if v = .ref fw then some p_is_weighing else none
def dfD (ks : List Str) (F : Str → Int) : D := .dct (ks.map Sum.inr) (ks.map fun x => .int (F x))
def wdD (ks : List Str) (wt : Str → Int) (k2 : List Str) (ln : Str → Int) : D := .tup [dfD ks wt, dfD k2 ln]
def updF (F : Str → Int) (b : Str) (v : Int) : Str → Int := fun x => if x = b then v else F x
theorem getK_df {F : Str → Int} {x : Str} : ∀ ks : List Str, getK (ks.map (Sum.inr : Str → Key)) (ks.map fun x => D.int (F x)) (.inr x) = if x ∈ ks then some (.int (F x)) else none
  | [] => rfl
  | k :: ks => by
    show (if (Sum.inr k : Key) = .inr x then _ else getK (ks.map (Sum.inr : Str → Key)) (ks.map fun x => D.int (F x)) (.inr x)) = _
    by_cases c : k = x
    · rw [if_pos (by rw [c]), if_pos (by rw [c]; exact List.mem_cons_self), c]
    · rw [if_neg (fun z => c (Sum.inr.inj z)), getK_df ks]
      by_cases c2 : x ∈ ks
      · rw [if_pos c2, if_pos (List.mem_cons_of_mem _ c2)]
      · rw [if_neg c2, if_neg (fun z => (List.mem_cons.mp z).elim (fun z => c z.symm) c2)]
theorem setK_df {F : Str → Int} {b : Str} {v : Int} : ∀ ks : List Str, setK (ks.map (Sum.inr : Str → Key)) (ks.map fun x => D.int (F x)) (.inr b) (.int v) = ks.map fun x => D.int (updF F b v x)
  | [] => rfl
  | k :: ks => by
    show (if (Sum.inr k : Key) = .inr b then D.int v else .int (F k)) :: setK (ks.map (Sum.inr : Str → Key)) (ks.map fun x => D.int (F x)) (.inr b) (.int v) = _
    rw [setK_df ks, List.map_cons]
    congr 1
    unfold updF
    by_cases c : k = b
    · rw [if_pos (by rw [c]), if_pos c]
    · rw [if_neg (fun z => c (Sum.inr.inj z)), if_neg c]
theorem getD_df {ks : List Str} {F : Str → Int} {x : Str} (h : x ∈ ks) : getD (dfD ks F) (.str x) = some (some (.int (F x))) := by
  show some (getK _ _ _) = _
  rw [getK_df, if_pos h]
structure okD (ks names : List Str) (F : Str → Int) (lo hi : Int) : Prop where
  len : ks.length = names.length
  n8 : names.length ≤ 8
  at_ : ∀ x ∈ names, x ∈ ks ∧ lo ≤ F x ∧ F x ≤ hi
structure okWd (r : Row) (ks : List Str) (wt : Str → Int) (k2 : List Str) (ln : Str → Int) : Prop where
  w : okD ks r.names wt 1 r.most
  l : okD k2 (r.beams.map (·.1)) ln (-r.lean) r.lean
def wordOf (t : Int) : Str := if t > 0 then "left" else if t = 0 then "even" else "right"
def turnN (w : Str) : Int := if w = "left" then -1 else if w = "right" then 1 else 0
def v_TURNS (w : Str) : Option Int := if w ∈ words then some (turnN w) else none
def stF (r : Row) (b : Str) : Int := (lookS r.beams b).getD 0
def wtP (wt : Str → Int) : Option Str → Int
  | none => 0
  | some x => wt x
def tellR (st wt : Str → Int) : (Str → Int) → List Wg → List (Wg × Str)
  | _, [] => []
  | ln, x :: xs => (x, wordOf (wtP wt x.l - wtP wt x.q + ln x.b)) :: tellR st wt (updF ln x.b (ln x.b + turnN (wordOf (wtP wt x.l - wtP wt x.q + ln x.b)) * st x.b)) xs
def shF (st : Str → Int) : List (Wg × Str) → Str → Int
  | [], _ => 0
  | x :: xs, b => (if x.1.b = b then turnN x.2 * st b else 0) + shF st xs b
def ndD (P : Program) (w : World) (ks : List Str) (wt : Str → Int) : D := nDict P w ((none, 0) :: ks.map fun x => (some (.inr x), wt x))
def p_turn : PSp := fun ds n R Y => ∃ r b w, ds = [yD r, .str b, .str w] ∧ b ∈ r.beams.map (·.1) ∧ w ∈ words ∧ R (.int (turnN w * stF r b)) false n
def p_shifts : PSp := fun ds n R Y => ∃ r xs t, ds = [yD r, t] ∧ r.ok ∧ (t = .lst (xs.map rwD) ∨ t = .tup (xs.map rwD)) ∧ (∀ x ∈ xs, okR r x) ∧ R (dfD (r.beams.map (·.1)) (shF (stF r) xs)) true n
def p_word_of : PSp := fun ds n R Y => ∃ t, ds = [.int t] ∧ R (.str (wordOf t)) false n
def p_in_pans (P : Program) (w : World) : PSp := fun ds n R Y => ∃ ks wt k2 ln, ds = [wdD ks wt k2 ln] ∧ ks.length ≤ 8 ∧ R (ndD P w ks wt) false n
def p_words : PSp := fun ds n R Y => ∃ r ks wt k2 ln xs t, ds = [yD r, wdD ks wt k2 ln, t] ∧ r.ok ∧ okWd r ks wt k2 ln ∧ (t = .lst (xs.map wD) ∨ t = .tup (xs.map wD)) ∧ (∀ x ∈ xs, okW r x) ∧ xs.length ≤ 1000 ∧ R (.lst ((tellR (stF r) wt ln xs).map rwD)) true n
def p_are_numbers : PSp := fun ds n R Y => ∃ ks F names lo hi, ds = [dfD ks F, .lst (names.map D.str), .int lo, .int hi] ∧ okD ks names F lo hi ∧ R (.bl true) false n
def p_is_some_world : PSp := fun ds n R Y => ∃ r ks wt k2 ln, ds = [yD r, wdD ks wt k2 ln] ∧ r.ok ∧ okWd r ks wt k2 ln ∧ R (.bl true) false n
def p_need_some_world : PSp := fun ds n R Y => ∃ r ks wt k2 ln, ds = [yD r, wdD ks wt k2 ln] ∧ r.ok ∧ okWd r ks wt k2 ln ∧ R .non false n
def p_told_by : PSp := p_words
def p_is_world : PSp := fun ds n R Y => ∃ r ks wt k2 ln xs t, ds = [yD r, t, wdD ks wt k2 ln] ∧ r.ok ∧ okWd r ks wt k2 ln ∧ (t = .lst (xs.map rwD) ∨ t = .tup (xs.map rwD)) ∧ (∀ x ∈ xs, okR r x) ∧ xs.length ≤ 1000 ∧ ∀ b, (b = true ↔ tellR (stF r) wt ln (xs.map (·.1)) = xs) → R (.bl b) false n
theorem lookS_mem {b : Str} : ∀ {ps : List (Str × Int)}, b ∈ ps.map (·.1) → ∃ s, lookS ps b = some s
  | [], h => by cases h
  | p :: ps, h => by
    unfold lookS
    by_cases c : p.1 = b
    · exact ⟨_, if_pos c⟩
    · rw [if_neg c]
      exact lookS_mem ((List.mem_cons.mp h).elim (fun z => absurd z.symm c) (fun z => z))
theorem stF_of {r : Row} {b : Str} (h : b ∈ r.beams.map (·.1)) : lookS r.beams b = some (stF r b) := by
  obtain ⟨s, hs⟩ := lookS_mem h
  unfold stF
  rw [hs]; rfl
theorem tellR_len {st wt : Str → Int} : ∀ {xs : List Wg} {ln : Str → Int}, (tellR st wt ln xs).length = xs.length
  | [], _ => rfl
  | x :: xs, ln => congrArg Nat.succ tellR_len
theorem wordOf_mem (t : Int) : wordOf t ∈ words := by
  unfold wordOf words
  split
  · simp
  · split <;> simp
theorem turnN_le (w : Str) : -(2 ^ 64) < turnN w ∧ turnN w < 2 ^ 64 := by
  unfold turnN
  split
  · decide
  · split <;> decide
theorem atD_df {ks : List Str} {F : Str → Int} {x : Str} (h : x ∈ ks) : atD (dfD ks F) (.str x) = some (.int (F x)) := by
  show (getD (dfD ks F) (.str x)).bind id = _
  rw [getD_df h]; rfl
theorem ixAF_df {ks : List Str} {F : Str → Int} {x : Str} {k : D → Bool → Prop} (h : x ∈ ks) (hk : k (.int (F x)) false) : ixAF (dfD ks F) (.str x) k := ⟨_, getD_df h, hk⟩
theorem inAF_df {ks : List Str} {F : Str → Int} {x : Str} {k : D → Bool → Prop} (h : x ∈ ks) (hk : k (.bl true) false) : inAF false (.str x) (dfD ks F) k := ⟨_, getD_df h, hk⟩
theorem putI_df {ks : List Str} {F : Str → Int} {b : Str} {v : Int} (h : b ∈ ks) (hl : ks.length < 1000000) : putI (dfD ks F) (.str b) (.int v) = some (dfD ks (updF F b v)) := by
  show (if (ks.map (Sum.inr : Str → Key)).length < 1000000 then _ else none) = _
  rw [if_pos (by rw [List.length_map]; exact hl)]
  show some (D.dct (putD _ _ _ _).1 (putD _ _ _ _).2) = _
  unfold putD
  rw [if_pos (List.mem_map_of_mem h)]
  show some (D.dct _ (setK _ _ _ _)) = _
  rw [setK_df]; rfl
theorem shF_snoc (st : Str → Int) (x : Wg × Str) (b : Str) : ∀ xs : List (Wg × Str), shF st (xs ++ [x]) b = shF st xs b + (if x.1.b = b then turnN x.2 * st b else 0)
  | [] => by show _ + (0 : Int) = 0 + _; rw [Int.add_zero, Int.zero_add]
  | y :: xs => by
    show _ + shF st (xs ++ [x]) b = (_ + shF st xs b) + _
    rw [shF_snoc st x b xs, Int.add_assoc]
theorem shF_step (st : Str → Int) (x : Wg × Str) (xs : List (Wg × Str)) : updF (shF st xs) x.1.b (shF st xs x.1.b + turnN x.2 * st x.1.b) = shF st (xs ++ [x]) := by
  funext b
  rw [shF_snoc]
  unfold updF
  by_cases c : b = x.1.b
  · rw [if_pos c, if_pos c.symm, c]
  · rw [if_neg c, if_neg (fun z => c z.symm), Int.add_zero]
theorem zip_nd (wt : Str → Int) : ∀ ks : List Str, ((ks.map (Sum.inr : Str → Key)).map some).zip (ks.map wt) = ks.map fun x => (some (Sum.inr x), wt x)
  | [] => rfl
  | k :: ks => by
    show _ :: ((ks.map (Sum.inr : Str → Key)).map some).zip (ks.map wt) = _
    rw [zip_nd wt ks]; rfl
theorem getN_nd {wt : Str → Int} : ∀ {ks : List Str} {x : Str}, x ∈ ks → getN (ks.map fun x => ((some (Sum.inr x) : Option Key), wt x)) (some (.inr x)) = some (wt x)
  | [], x, h => by cases h
  | k :: ks, x, h => by
    show (if (some (Sum.inr k) : Option Key) = some (.inr x) then some (wt k) else getN (ks.map fun x => ((some (Sum.inr x) : Option Key), wt x)) (some (.inr x))) = _
    by_cases c : k = x
    · rw [if_pos (by rw [c]), c]
    · rw [if_neg (fun z => c (Sum.inr.inj (Option.some.inj z)))]
      exact getN_nd ((List.mem_cons.mp h).elim (fun z => absurd z.symm c) fun z => z)
theorem nd_at {P : Program} {w : World} {ks : List Str} {wt : Str → Int} {r : Row} {p : Option Str} (hp : okP r p) (hk : ∀ x ∈ r.names, x ∈ ks) {k : D → Bool → Prop} (h : k (.int (wtP wt p)) false) : ixNF P w (ndD P w ks wt) (panD p) k := by
  cases p with
  | none => exact ⟨_, none, 0, rfl, rfl, rfl, h⟩
  | some x => exact ⟨_, some (.inr x), wt x, rfl, rfl, by show (if (none : Option Key) = some (.inr x) then _ else _) = _; rw [if_neg (fun z => nomatch z)]; exact getN_nd (hk x (hp x rfl)), h⟩
theorem eqD_pan (p q : Option Str) : eqD (panD p) (panD q) = decide (p = q) := by
  cases p with
  | none =>
    cases q with
    | none => rw [show panD none = .non from rfl, eqD_nn]; rfl
    | some y => rw [show panD none = .non from rfl, show panD (some y) = .str y from rfl, eqD_ns]; rfl
  | some x =>
    cases q with
    | none => rw [show panD none = .non from rfl, show panD (some x) = .str x from rfl, eqD_sn]; rfl
    | some y =>
      rw [show panD (some x) = .str x from rfl, show panD (some y) = .str y from rfl, eqD_str, Bool.eq_iff_iff, beq_iff_eq, decide_eq_true_eq]
      exact ⟨fun h => by rw [h], fun h => Option.some.inj h⟩
theorem eqv_tup4 (a b c d a' b' c' d' : PyData) : PyData.eqv (.tuple [a, b, c, d]) (.tuple [a', b', c', d']) = (PyData.eqv a a' && (PyData.eqv b b' && (PyData.eqv c c' && PyData.eqv d d'))) := by
  simp [PyData.eqv, PyData.eqvAll]
theorem eqD_rw (x y : Wg × Str) : eqD (rwD x) (rwD y) = decide (x = y) := by
  show PyData.eqv (.tuple [.str x.1.b, toPy (panD x.1.l), toPy (panD x.1.q), .str x.2]) (.tuple [.str y.1.b, toPy (panD y.1.l), toPy (panD y.1.q), .str y.2]) = _
  rw [eqv_tup4]
  have e1 := eqD_str x.1.b y.1.b
  have e2 := eqD_pan x.1.l y.1.l
  have e3 := eqD_pan x.1.q y.1.q
  have e4 := eqD_str x.2 y.2
  unfold eqD at e1 e2 e3 e4
  rw [show PyData.eqv (.str x.1.b) (.str y.1.b) = _ from e1, e2, e3, show PyData.eqv (.str x.2) (.str y.2) = _ from e4, Bool.eq_iff_iff]
  obtain ⟨⟨b, l, q⟩, w⟩ := x
  obtain ⟨⟨b', l', q'⟩, w'⟩ := y
  simp [and_assoc]
theorem rw_nd (x : Wg × Str) (k : Nat) : nd (k + 2) (rwD x) = true := by
  have e : ∀ p, nd (k + 1) (panD p) = true := fun p => by cases p <;> rfl
  show (true && (nd (k + 1) (panD x.1.l) && (nd (k + 1) (panD x.1.q) && (true && true)))) = true
  rw [e, e]; rfl
theorem rws_nd : ∀ xs : List (Wg × Str), ndA 63 (xs.map rwD) = true
  | [] => rfl
  | x :: xs => by show (nd 63 (rwD x) && ndA 63 (xs.map rwD)) = true; rw [rws_nd xs, rw_nd x 61]; rfl
theorem eqD_rws : ∀ xs ys : List (Wg × Str), PyData.eqvAll (toPyA (xs.map rwD)) (toPyA (ys.map rwD)) = decide (xs = ys)
  | [], [] => by show PyData.eqvAll [] [] = _; rw [PyData.eqvAll]; rfl
  | [], y :: ys => by show PyData.eqvAll [] (_ :: _) = _; rw [PyData.eqvAll]; rfl; all_goals simp
  | x :: xs, [] => by show PyData.eqvAll (_ :: _) [] = _; rw [PyData.eqvAll]; rfl; all_goals simp
  | x :: xs, y :: ys => by
    show PyData.eqvAll (toPy (rwD x) :: toPyA (xs.map rwD)) (toPy (rwD y) :: toPyA (ys.map rwD)) = _
    rw [PyData.eqvAll, eqD_rws xs ys, show PyData.eqv (toPy (rwD x)) (toPy (rwD y)) = _ from eqD_rw x y, Bool.eq_iff_iff]
    simp
theorem eqT_rws (xs ys : List (Wg × Str)) : eqT (.lst (xs.map rwD)) (.lst (ys.map rwD)) = some (decide (xs = ys)) := by
  unfold eqT
  rw [if_pos (by show (ndA 63 (xs.map rwD) && ndA 63 (ys.map rwD)) = true; rw [rws_nd, rws_nd]; rfl)]
  show some (PyData.eqv (.list _) (.list _)) = _
  rw [PyData.eqv, eqD_rws]
end L2.Q.Wbm
set_option Elab.async false
set_option linter.all false
set_option maxRecDepth 100000
set_option maxHeartbeats 4000000
namespace L2.Q.Lw
open PySem PySem.Spec PyProof.Rows L2 L2.Wb L2.Q L2.Q.Wbm
def top (i : Nat) : Stmt := PySem.Challenge.pw_wearybeams_k04_what_is_no_world.main.body.getD i (.Pass ⟨0, 0, 0, 0⟩)
def meth (i j : Nat) : Stmt := match top i with
  | .ClassDef _ _ _ body _ _ _ _ _ _ _ => body.getD j (.Pass ⟨0, 0, 0, 0⟩)
  | _ => .Pass ⟨0, 0, 0, 0⟩
theorem _root_.L2.Room.u65 {k : Nat} {A : Around} (r : Room k A) : A.units + 65 < cLine := by have := r.un; omega
theorem _root_.L2.Room.u1 {k : Nat} {A : Around} (r : Room k A) : A.units + 1 < cLine := by have := r.un; omega
section
variable {P : Program} {w : World} {K : PySem.W.Frag} {mg : Str → Option Value} {base : Heap}
abbrev s_is_number : Stmt := top 8
theorem sc_is_number : FnScope ["thing", "first", "last"] ["thing", "first", "last"] (defScope s_is_number) := ⟨rfl, rfl, rfl, by decide +kernel, rfl, by decide +kernel, by decide +kernel⟩
abbrev l_is_number : List Str := ["thing", "first", "last"]
theorem ok_is_number {f : Addr} {fd : FuncData} (C : Cn) (hK : C.K = K) (F : Fun K "is_number" "is_number" s_is_number f fd)  (n_int : mg "int" = none) (n_type : mg "type" = none) : FnOk P w K mg base (L2.CX P w) 1 f fd ["thing", "first", "last"] (spOf C p_is_number) :=
  q_fun F sc_is_number C (fun ds n R Y h => by obtain ⟨_, _, _, rfl, _⟩ := h; rfl) fun m M H std n3 ms Y cdv A outer s E hr tk => ⟨_,
    (qs_one (q_ret (q_and (q_cmp oq_isT (q_tcall cq_type (by rfl) n_type (qa_cons (q_var 0) qa_nil)) (q_ty (n := "int") (by rfl) n_int)) (q_one (q_chain oq_le oq_le (q_var 1) (q_var 0) (q_var 2)))))), fun ds n R h => by
    obtain ⟨i, lo, hi, rfl, hR⟩ := h
    refine ⟨_, rfl, fun _ => ⟨fun c => ?_, fun c => ?_⟩, fun c => (nomatch c)⟩
    · have c' : decide (lo ≤ i) = true := c
      rw [c', Bool.true_and] at hR; exact hR
    · have c' : decide (lo ≤ i) = false := c
      rw [c', Bool.false_and] at hR; exact hR⟩
abbrev s_is_list : Stmt := top 9
theorem sc_is_list : FnScope ["thing"] ["thing"] (defScope s_is_list) := ⟨rfl, rfl, rfl, by decide +kernel, rfl, by decide +kernel, by decide +kernel⟩
abbrev l_is_list : List Str := ["thing"]
theorem ok_is_list {f : Addr} {fd : FuncData} (C : Cn) (hK : C.K = K) (F : Fun K "is_list" "is_list" s_is_list f fd)  (n_list : mg "list" = none) (n_tuple : mg "tuple" = none) (n_type : mg "type" = none) : FnOk P w K mg base (L2.CX P w) 1 f fd ["thing"] (spOf C p_is_list) :=
  q_fun F sc_is_list C (fun ds n R Y h => by obtain ⟨_, h, _⟩ := h; rcases h with rfl | rfl <;> rfl) fun m M H std n3 ms Y cdv A outer s E hr tk => ⟨_,
    (qs_one (q_ret (q_cmp oq_tyIn (q_tcall cq_type (by rfl) n_type (qa_cons (q_var 0) qa_nil)) (q_tup (qa_cons (q_ty (n := "list") (by rfl) n_list) (qa_cons (q_ty (n := "tuple") (by rfl) n_tuple) qa_nil))) (by rfl)))), fun ds n R h => by
    obtain ⟨xs, h, hR⟩ := h
    rcases h with rfl | rfl
    · exact ⟨"list", rfl, by decide, "list", ["list", "tuple"], rfl, rfl, PySem.WbT.plain_list, by simp [PySem.WbT.plain_list, PySem.WbT.plain_tuple], hR⟩
    · exact ⟨"tuple", rfl, by decide, "tuple", ["list", "tuple"], rfl, rfl, PySem.WbT.plain_tuple, by simp [PySem.WbT.plain_list, PySem.WbT.plain_tuple], hR⟩⟩
abbrev s_is_tuple : Stmt := top 10
theorem sc_is_tuple : FnScope ["thing", "many"] ["thing", "many"] (defScope s_is_tuple) := ⟨rfl, rfl, rfl, by decide +kernel, rfl, by decide +kernel, by decide +kernel⟩
abbrev l_is_tuple : List Str := ["thing", "many"]
theorem ok_is_tuple {f : Addr} {fd : FuncData} (C : Cn) (hK : C.K = K) (F : Fun K "is_tuple" "is_tuple" s_is_tuple f fd)  (n_len : mg "len" = none) (n_tuple : mg "tuple" = none) (n_type : mg "type" = none) : FnOk P w K mg base (L2.CX P w) 1 f fd ["thing", "many"] (spOf C p_is_tuple) :=
  q_fun F sc_is_tuple C (fun ds n R Y h => by obtain ⟨_, _, rfl, _⟩ := h; rfl) fun m M H std n3 ms Y cdv A outer s E hr tk => ⟨_,
    (qs_one (q_ret (q_and (q_cmp oq_isT (q_tcall cq_type (by rfl) n_type (qa_cons (q_var 0) qa_nil)) (q_ty (n := "tuple") (by rfl) n_tuple)) (q_one (q_cmp (oq_eq hr.u65 hK) (q_lenV 0 n_len) (q_var 1)))))), fun ds n R h => by
    obtain ⟨xs, m, rfl, hl, hR⟩ := h
    refine ⟨_, rfl, fun _ => ⟨_, rfl, ?_⟩, fun c => (nomatch c)⟩
    rw [eqD_int, hl, beq_self_eq_true]
    exact hR⟩
abbrev s_Y_things : Stmt := meth 42 1
theorem sc_Y_things : FnScope ["self"] ["self"] (defScope s_Y_things) := ⟨rfl, rfl, rfl, by decide +kernel, rfl, by decide +kernel, by decide +kernel⟩
abbrev l_Y_things : List Str := ["self"]
theorem ok_Y_things {f : Addr} {fd : FuncData} (C : Cn) (hK : C.K = K) (F : Fun K "things" "Yard.things" s_Y_things f fd)  (n_list : mg "list" = none) (c_Y : Cls K (C.cA "Yard")) (na_things : NoAttr K (C.cA "Yard") "_things") : FnOk P w K mg base (L2.CX P w) 1 f fd ["self"] (spOf C p_Y_things) :=
  q_fun F sc_Y_things C (fun ds n R Y h => by obtain ⟨_, rfl, _⟩ := h; rfl) fun m M H std n3 ms Y cdv A outer s E hr tk => ⟨_,
    (qs_one (q_ret (q_tcall cq_list (by rfl) n_list (qa_cons (q_fld c_Y na_things (q_var 0)) qa_nil)))), fun ds n R h => by
    obtain ⟨r, rfl, hR⟩ := h
    exact ⟨rfl, _, rfl, hR⟩⟩
abbrev s_Y_beams : Stmt := meth 42 2
theorem sc_Y_beams : FnScope ["self"] ["self"] (defScope s_Y_beams) := ⟨rfl, rfl, rfl, by decide +kernel, rfl, by decide +kernel, by decide +kernel⟩
abbrev l_Y_beams : List Str := ["self"]
theorem ok_Y_beams {f : Addr} {fd : FuncData} (C : Cn) (hK : C.K = K) (F : Fun K "beams" "Yard.beams" s_Y_beams f fd)  (n_list : mg "list" = none) (c_Y : Cls K (C.cA "Yard")) (na_beams : NoAttr K (C.cA "Yard") "_beams") : FnOk P w K mg base (L2.CX P w) 1 f fd ["self"] (spOf C p_Y_beams) :=
  q_fun F sc_Y_beams C (fun ds n R Y h => by obtain ⟨_, rfl, _⟩ := h; rfl) fun m M H std n3 ms Y cdv A outer s E hr tk => ⟨_,
    (qs_one (q_ret (q_tcall cq_list (by rfl) n_list (qa_cons (q_fld c_Y na_beams (q_var 0)) qa_nil)))), fun ds n R h => by
    obtain ⟨r, rfl, hR⟩ := h
    exact ⟨rfl, _, rfl, hR⟩⟩
abbrev s_Y_most : Stmt := meth 42 3
theorem sc_Y_most : FnScope ["self"] ["self"] (defScope s_Y_most) := ⟨rfl, rfl, rfl, by decide +kernel, rfl, by decide +kernel, by decide +kernel⟩
abbrev l_Y_most : List Str := ["self"]
theorem ok_Y_most {f : Addr} {fd : FuncData} (C : Cn) (hK : C.K = K) (F : Fun K "most" "Yard.most" s_Y_most f fd)   (c_Y : Cls K (C.cA "Yard")) (na_most : NoAttr K (C.cA "Yard") "_most") : FnOk P w K mg base (L2.CX P w) 1 f fd ["self"] (spOf C p_Y_most) :=
  q_fun F sc_Y_most C (fun ds n R Y h => by obtain ⟨_, rfl, _⟩ := h; rfl) fun m M H std n3 ms Y cdv A outer s E hr tk => ⟨_,
    (qs_one (q_ret (q_fld c_Y na_most (q_var 0)))), fun ds n R h => by
    obtain ⟨r, rfl, hR⟩ := h
    exact ⟨rfl, _, rfl, hR⟩⟩
abbrev s_Y_lean : Stmt := meth 42 4
theorem sc_Y_lean : FnScope ["self"] ["self"] (defScope s_Y_lean) := ⟨rfl, rfl, rfl, by decide +kernel, rfl, by decide +kernel, by decide +kernel⟩
abbrev l_Y_lean : List Str := ["self"]
theorem ok_Y_lean {f : Addr} {fd : FuncData} (C : Cn) (hK : C.K = K) (F : Fun K "lean" "Yard.lean" s_Y_lean f fd)   (c_Y : Cls K (C.cA "Yard")) (na_lean : NoAttr K (C.cA "Yard") "_lean") : FnOk P w K mg base (L2.CX P w) 1 f fd ["self"] (spOf C p_Y_lean) :=
  q_fun F sc_Y_lean C (fun ds n R Y h => by obtain ⟨_, rfl, _⟩ := h; rfl) fun m M H std n3 ms Y cdv A outer s E hr tk => ⟨_,
    (qs_one (q_ret (q_fld c_Y na_lean (q_var 0)))), fun ds n R h => by
    obtain ⟨r, rfl, hR⟩ := h
    exact ⟨rfl, _, rfl, hR⟩⟩
abbrev s_Y_step : Stmt := meth 42 5
theorem sc_Y_step : FnScope ["self", "beam", "name", "number"] ["self", "beam"] (defScope s_Y_step) := ⟨rfl, rfl, rfl, by decide +kernel, rfl, by decide +kernel, by decide +kernel⟩
abbrev l_Y_step : List Str := ["self", "beam"]
theorem ok_Y_step {f : Addr} {fd : FuncData} (C : Cn) (hK : C.K = K) (F : Fun K "step" "Yard.step" s_Y_step f fd)   (c_Y : Cls K (C.cA "Yard")) (na_beams : NoAttr K (C.cA "Yard") "_beams") : FnOk P w K mg base (L2.CX P w) 2 f fd ["self", "beam"] (spOf C p_Y_step) :=
  q_fun F sc_Y_step C (fun ds n R Y h => by obtain ⟨_, _, _, rfl, _⟩ := h; rfl) fun m M H std n3 ms Y cdv A outer s E hr tk => ⟨_,
    (qs_cons (q_for (passes_of rfl) rfl (qi_seq (q_fld c_Y na_beams (q_var 0))) (qg_tup (n := 2) rfl (qgs_cons (qg_name (i := 2) sc_Y_step.nd rfl (by first | exact Or.inl rfl | exact Or.inr rfl)) (qgs_cons (qg_name (i := 3) sc_Y_step.nd rfl (by first | exact Or.inl rfl | exact Or.inr rfl)) qgs_nil))) (qs_one (q_ifS (qt_cmp (oq_eq hr.u65 hK) (q_var 2) (q_var 1)) (qs_one (q_retV 3)) qs_nil))) (qs_one q_never)), fun ds n R h => by
    obtain ⟨r, b, s, rfl, hs, hR⟩ := h
    refine ⟨rfl, _, rfl, fun i e => (∃ s2 s3, e = (⟨[some (yD r, false), some (.str b, false), s2, s3], n⟩ : L2.Q.Env)) ∧ lookS (r.beams.drop i) b = some s, ⟨⟨_, _, rfl⟩, hs⟩, fun i d e hd ⟨⟨s2, s3, he⟩, hl⟩ => ?_, fun e ⟨_, hl⟩ => ?_⟩
    · subst he
      rw [List.getElem?_map] at hd
      obtain ⟨p, hp, hpd⟩ := Option.map_eq_some_iff.mp hd
      subst hpd
      obtain ⟨hi, hpi⟩ := List.getElem?_eq_some_iff.mp hp
      rw [List.drop_eq_getElem_cons hi, hpi] at hl
      refine ⟨rfl, rfl, _, rfl, fun c => ?_, fun c => ?_⟩
      · have e1 : p.1 = b := by
          rw [show eqD (.str p.1) (.str b) = _ from eqD_str _ _] at c
          exact eq_of_beq c
        have e2 : some p.2 = some s := by rw [← hl]; exact (if_pos e1).symm
        cases e2
        exact hR
      · have e1 : p.1 ≠ b := fun z => by
          rw [show eqD (.str p.1) (.str b) = _ from eqD_str _ _, z, beq_self_eq_true] at c; cases c
        refine ⟨⟨_, _, rfl⟩, ?_⟩
        rw [← hl]; exact (if_neg e1).symm
    · rw [List.length_map, List.drop_length] at hl
      cases hl⟩
abbrev s_pans_of : Stmt := top 13
theorem sc_pans_of : FnScope ["yard"] ["yard"] (defScope s_pans_of) := ⟨rfl, rfl, rfl, by decide +kernel, rfl, by decide +kernel, by decide +kernel⟩
abbrev l_pans_of : List Str := ["yard"]
theorem ok_pans_of {f : Addr} {fd : FuncData} (C : Cn) (hK : C.K = K) (F : Fun K "pans_of" "pans_of" s_pans_of f fd)   {f_things : Addr} {d_things : FuncData} (M_things : MethQ P w K mg base C "Yard" "things" 1 f_things d_things l_Y_things p_Y_things) : FnOk P w K mg base (L2.CX P w) 2 f fd ["yard"] (spOf C p_pans_of) :=
  q_fun F sc_pans_of C (fun ds n R Y h => by obtain ⟨_, rfl, _⟩ := h; rfl) fun m M H std n3 ms Y cdv A outer s E hr tk => ⟨_,
    (qs_one (q_ret (q_op oq_add (q_lst (qa_cons q_non qa_nil)) (q_meth0 M_things hr (q_var 0))))), fun ds n R h => by
    obtain ⟨r, rfl, ok, hR⟩ := h
    have := ok.n8
    exact ⟨by decide, _, _, rfl, by decide, r, rfl, by simp; omega, hR⟩⟩
abbrev s_names_of : Stmt := top 14
theorem sc_names_of : FnScope ["yard", "name", "_"] ["yard"] (defScope s_names_of) := ⟨rfl, rfl, rfl, by decide +kernel, rfl, by decide +kernel, by decide +kernel⟩
abbrev l_names_of : List Str := ["yard"]
theorem ok_names_of {f : Addr} {fd : FuncData} (C : Cn) (hK : C.K = K) (F : Fun K "names_of" "names_of" s_names_of f fd)   {f_beams : Addr} {d_beams : FuncData} (M_beams : MethQ P w K mg base C "Yard" "beams" 1 f_beams d_beams l_Y_beams p_Y_beams) : FnOk P w K mg base (L2.CX P w) 2 f fd ["yard"] (spOf C p_names_of) :=
  q_fun F sc_names_of C (fun ds n R Y h => by obtain ⟨_, rfl, _⟩ := h; rfl) fun m M H std n3 ms Y cdv A outer s E hr tk => ⟨_,
    (qs_one (q_ret (q_lc [("name", 1), ("_", 2)] rfl sc_names_of.nd (blkOk_by (own := [("name", 1), ("_", 2)]) (N := ["yard", "name", "_"]) (sc := defScope s_names_of) (by decide +kernel)) (qi_seq (q_meth0 M_beams hr (q_var 0))) (fun _ _ _ _ _ _ _ _ => (qg_tup (n := 2) rfl (qgs_cons (qg_name (i := 1) sc_names_of.nd rfl (by first | exact Or.inl rfl | exact Or.inr rfl)) (qgs_cons (qg_name (i := 2) sc_names_of.nd rfl (by first | exact Or.inl rfl | exact Or.inr rfl)) qgs_nil)))) (fun _ _ _ _ _ _ _ _ => (q_var 1))))), fun ds n R h => by
    obtain ⟨r, rfl, ok, hR⟩ := h
    have := ok.b3
    refine ⟨_, _, rfl, by decide, r, rfl, ?_⟩
    refine lc_each (fun d => match d with | .tup (x :: _) => x | _ => .non) (noOwn_of rfl) (by simp; omega) (fun d hd K K' hk => ?_) ?_
    · obtain ⟨p, _, rfl⟩ := List.mem_map.mp hd
      exact ⟨rfl, rfl, fun _ => hk _ _ rfl, fun z => (nomatch z)⟩
    · have e : (r.beams.map bmD).map (fun d => match d with | .tup (x :: _) => x | _ => .non) = (r.beams.map (·.1)).map D.str := by rw [List.map_map, List.map_map]; rfl
      rw [e]; exact hR⟩
abbrev s_are_unlike : Stmt := top 15
theorem sc_are_unlike : FnScope ["left", "right"] ["left", "right"] (defScope s_are_unlike) := ⟨rfl, rfl, rfl, by decide +kernel, rfl, by decide +kernel, by decide +kernel⟩
abbrev l_are_unlike : List Str := ["left", "right"]
theorem ok_are_unlike {f : Addr} {fd : FuncData} (C : Cn) (hK : C.K = K) (F : Fun K "_are_unlike" "_are_unlike" s_are_unlike f fd)   : FnOk P w K mg base (L2.CX P w) 1 f fd ["left", "right"] (spOf C p_are_unlike) :=
  q_fun F sc_are_unlike C (fun ds n R Y h => by obtain ⟨_, _, rfl, _⟩ := h; rfl) fun m M H std n3 ms Y cdv A outer s E hr tk => ⟨_,
    (qs_one (q_ret (q_or (q_cmp oq_is (q_var 0) q_non) (q_one (q_cmp (oq_ne hr.u65 hK) (q_var 0) (q_var 1)))))), fun ds n R h => by
    obtain ⟨p, q, rfl, hR⟩ := h
    cases p with
    | none => exact ⟨true, rfl, fun _ => hR, fun c => (nomatch c)⟩
    | some x =>
      refine ⟨false, rfl, fun c => (nomatch c), fun _ => ⟨rfl, pan_nd q, ?_⟩⟩
      have e := ne_pan (some x) q (by simp)
      rw [← e] at hR
      exact hR⟩
abbrev s_is_weighing : Stmt := top 16
theorem sc_is_weighing : FnScope ["yard", "thing", "beam", "left", "right", "pans"] ["yard", "thing"] (defScope s_is_weighing) := ⟨rfl, rfl, rfl, by decide +kernel, rfl, by decide +kernel, by decide +kernel⟩
abbrev l_is_weighing : List Str := ["yard", "thing"]
theorem ok_is_weighing {f : Addr} {fd : FuncData} (C : Cn) (hK : C.K = K) (F : Fun K "is_weighing" "is_weighing" s_is_weighing f fd)   {f_is_tuple : Addr} {d_is_tuple : FuncData} (D_is_tuple : DefQ P w K mg base C "is_tuple" 1 f_is_tuple d_is_tuple l_is_tuple p_is_tuple) {f_pans_of : Addr} {d_pans_of : FuncData} (D_pans_of : DefQ P w K mg base C "pans_of" 2 f_pans_of d_pans_of l_pans_of p_pans_of) {f_are_unlike : Addr} {d_are_unlike : FuncData} (D__are_unlike : DefQ P w K mg base C "_are_unlike" 1 f_are_unlike d_are_unlike l_are_unlike p_are_unlike) {f_names_of : Addr} {d_names_of : FuncData} (D_names_of : DefQ P w K mg base C "names_of" 2 f_names_of d_names_of l_names_of p_names_of) : FnOk P w K mg base (L2.CX P w) 3 f fd ["yard", "thing"] (spOf C p_is_weighing) :=
  q_fun F sc_is_weighing C (fun ds n R Y h => by obtain ⟨_, _, rfl, _⟩ := h; rfl) fun m M H std n3 ms Y cdv A outer s E hr tk => ⟨_,
    (qs_cons (q_ifS (qt_not (qt_val (q_callD D_is_tuple hr (qa_cons (q_var 1) (qa_cons q_int qa_nil))))) (qs_one (q_ret q_bl)) qs_nil) (qs_cons (q_asg (q_var 1) (qg_tup (n := 3) rfl (qgs_cons (qg_name (i := 2) sc_is_weighing.nd rfl (by first | exact Or.inl rfl | exact Or.inr rfl)) (qgs_cons (qg_name (i := 3) sc_is_weighing.nd rfl (by first | exact Or.inl rfl | exact Or.inr rfl)) (qgs_cons (qg_name (i := 4) sc_is_weighing.nd rfl (by first | exact Or.inl rfl | exact Or.inr rfl)) qgs_nil))))) (qs_cons (q_set (i := 5) sc_is_weighing.nd rfl (by first | exact Or.inl rfl | exact Or.inr rfl) (q_callD D_pans_of hr (qa_cons (q_var 0) qa_nil))) (qs_one (q_ret (q_and (q_cmp (oq_inA hr.u65 hK) (q_var 2) (q_callD D_names_of hr (qa_cons (q_var 0) qa_nil)) (by rfl)) (q_and (q_inV 5 hr.u65 (q_var 3) hK) (q_and (q_inV 5 hr.u65 (q_var 4) hK) (q_one (q_callD D__are_unlike hr (qa_cons (q_var 3) (qa_cons (q_var 4) qa_nil)))))))))))), fun ds n R h => by
    obtain ⟨r, x, rfl, ok, hw, hR⟩ := h
    change (_ : GS) _ (⟨[some (_, false), some (_, false), none, none, none, none], n⟩ : L2.Q.Env)
    one_item
    refine ⟨_, 3, rfl, rfl, fun c => (nomatch c), fun _ => ?_⟩
    refine ⟨rfl, rfl, r, rfl, ok, ?_⟩
    refine ⟨r, rfl, ok, ?_⟩
    one_item
    refine ⟨true, by rw [mem_strs, decide_eq_true hw.b], fun _ => ?_, fun c => (nomatch c)⟩
    refine ⟨true, mem_pans hw.l, fun _ => ?_, fun c => (nomatch c)⟩
    refine ⟨true, mem_pans hw.q, fun _ => ?_, fun c => (nomatch c)⟩
    refine ⟨x.l, x.q, rfl, ?_⟩
    rw [hw.u]; exact hR⟩
abbrev s_is_row : Stmt := top 17
theorem sc_is_row : FnScope ["yard", "thing"] ["yard", "thing"] (defScope s_is_row) := ⟨rfl, rfl, rfl, by decide +kernel, rfl, by decide +kernel, by decide +kernel⟩
theorem ok_is_row {f : Addr} {fd : FuncData} (C : Cn) (hK : C.K = K) (F : Fun K "is_row" "is_row" s_is_row f fd) {aW : Addr} (m_WORDS : mg "WORDS" = some (.ref aW)) (g_WORDS : ∀ H, Dp K H (.ref aW) (.tuple (toPyA (words.map D.str))))  {f_is_weighing : Addr} {d_is_weighing : FuncData} (D_is_weighing : DefQ P w K mg base C "is_weighing" 3 f_is_weighing d_is_weighing l_is_weighing p_is_weighing) {f_is_tuple : Addr} {d_is_tuple : FuncData} (D_is_tuple : DefQ P w K mg base C "is_tuple" 1 f_is_tuple d_is_tuple l_is_tuple p_is_tuple) : FnOk P w K mg base (L2.CX P w) 4 f fd ["yard", "thing"] (spOf C p_is_row) :=
  q_fun F sc_is_row C (fun ds n R Y h => by obtain ⟨_, _, rfl, _⟩ := h; rfl) fun m M H std n3 ms Y cdv A outer s E hr tk => ⟨_,
    (qs_one (q_ret (q_and (q_callD D_is_tuple hr (qa_cons (q_var 1) (qa_cons q_int qa_nil))) (q_and (q_callD D_is_weighing hr (qa_cons (q_var 0) (qa_cons (q_sl (q_var 1) qo_none (qo_some q_int)) qa_nil))) (q_one (q_inG hr.u65 g_WORDS (by rfl) m_WORDS (q_ixV 1 hr.u1 q_int) hK)))))), fun ds n R h => by
    obtain ⟨r, x, rfl, ok, hw, hR⟩ := h
    change (_ : GS) _ (⟨[some (_, false), some (_, false)], n⟩ : L2.Q.Env)
    one_item
    refine ⟨_, 4, rfl, rfl, fun _ => ?_, fun c => (nomatch c)⟩
    refine ⟨r, x.1, rfl, ok, hw.w, fun _ => ?_, fun c => (nomatch c)⟩
    refine ⟨rfl, _, rfl, true, by rw [mem_strsT, decide_eq_true hw.d], hR⟩⟩
abbrev s_need_each : Stmt := top 18
theorem sc_need_each : FnScope ["yard", "things", "is_one", "at", "thing"] ["yard", "things", "is_one"] (defScope s_need_each) := ⟨rfl, rfl, rfl, by decide +kernel, rfl, by decide +kernel, by decide +kernel⟩
abbrev l_need_each : List Str := ["yard", "things", "is_one"]
theorem ok_need_each {f : Addr} {fd : FuncData} (C : Cn) (hK : C.K = K) (F : Fun K "_need_each" "_need_each" s_need_each f fd) {fr fw : Addr} (hne : fr ≠ fw) (A_is_one : ∀ v p, sOne fr fw v = some p → ∃ f fd prm, v = .ref f ∧ FnOk P w K mg base (L2.CX P w) 4 f fd prm (spOf C p) ∧ PySem.W.keepIn K (.ref f) = true ∧ Binds K fd prm []) (n_enumerate : mg "enumerate" = none) {f_is_list : Addr} {d_is_list : FuncData} (D_is_list : DefQ P w K mg base C "is_list" 1 f_is_list d_is_list l_is_list p_is_list) : FnOk P w K mg base (L2.CX P w) 5 f fd ["yard", "things", "is_one"] (spOf C (p_need_each fr fw)) :=
  q_fun F sc_need_each C (fun ds n R Y h => by obtain ⟨_, _, _, _, rfl, _⟩ := h; rfl) fun m M H std n3 ms Y cdv A outer s E hr tk => ⟨_,
    (qs_cons (q_ifS (qt_not (qt_val (q_callD D_is_list hr (qa_cons (q_var 1) qa_nil)))) (qs_one q_never) qs_nil) (qs_one (q_for (passes_of rfl) rfl (qi_enumA (by rfl) n_enumerate (qa_cons (q_var 1) qa_nil)) (qg_tup (n := 2) rfl (qgs_cons (qg_name (i := 3) sc_need_each.nd rfl (by first | exact Or.inl rfl | exact Or.inr rfl)) (qgs_cons (qg_name (i := 4) sc_need_each.nd rfl (by first | exact Or.inl rfl | exact Or.inr rfl)) qgs_nil))) (qs_one (q_ifS (qt_not (qt_val (q_callL 2 tk A_is_one hr (qa_cons (q_var 0) (qa_cons (q_var 4) qa_nil))))) (qs_one q_never) qs_nil))))), fun ds n R h => by
    obtain ⟨r, xs, v, t, rfl, ok, ht, hv, hR⟩ := h
    change (_ : GS) _ (⟨[some (_, false), some (_, false), some (_, false), none, none], n⟩ : L2.Q.Env)
    one_item
    refine ⟨xs, by rcases ht with rfl | rfl <;> simp, fun c => (nomatch c), fun _ => ?_⟩
    refine ⟨xs, by rcases ht with rfl | rfl <;> simp, ?_⟩
    refine ⟨fun i e => ∃ s3 s4, e = (⟨[some (yD r, false), some (t, false), some (.raw v, false), s3, s4], n⟩ : L2.Q.Env), ⟨_, _, rfl⟩, fun i d e hd ⟨s3, s4, he⟩ => ?_, fun e ⟨s3, s4, he⟩ => by subst he; exact hR⟩
    subst he
    obtain ⟨d', hd', rfl⟩ := enumD_get hd
    have hm := List.mem_of_getElem? hd'
    one_item
    refine ⟨rfl, rfl, ?_⟩
    rcases hv with ⟨e, hx⟩ | ⟨e, hx⟩
    · obtain ⟨x, hx1, hx2⟩ := hx d' hm
      subst hx1; subst e
      exact ⟨_, _, p_is_row, rfl, if_pos rfl, r, x, rfl, ok, hx2, fun c => (nomatch c), fun _ => ⟨_, _, rfl⟩⟩
    · obtain ⟨x, hx1, hx2⟩ := hx d' hm
      subst hx1; subst e
      refine ⟨_, _, p_is_weighing, rfl, ?_, r, x, rfl, ok, hx2, fun c => (nomatch c), fun _ => ⟨_, _, rfl⟩⟩
      unfold sOne
      rw [if_neg (fun z => hne (V.ref.inj z).symm), if_pos rfl]⟩
abbrev s_need_log : Stmt := top 19
theorem sc_need_log : FnScope ["yard", "log"] ["yard", "log"] (defScope s_need_log) := ⟨rfl, rfl, rfl, by decide +kernel, rfl, by decide +kernel, by decide +kernel⟩
abbrev l_need_log : List Str := ["yard", "log"]
theorem ok_need_log {f : Addr} {fd : FuncData} (C : Cn) (hK : C.K = K) (F : Fun K "need_log" "need_log" s_need_log f fd) {fr fw : Addr} (a_is_row : mg "is_row" = some (.ref fr))  {f_need_each : Addr} {d_need_each : FuncData} (D__need_each : DefQ P w K mg base C "_need_each" 5 f_need_each d_need_each l_need_each (p_need_each fr fw)) : FnOk P w K mg base (L2.CX P w) 6 f fd ["yard", "log"] (spOf C p_need_log) :=
  q_fun F sc_need_log C (fun ds n R Y h => by obtain ⟨_, _, _, rfl, _⟩ := h; rfl) fun m M H std n3 ms Y cdv A outer s E hr tk => ⟨_,
    (qs_one (q_drop (q_callD D__need_each hr (qa_cons (q_var 0) (qa_cons (q_var 1) (qa_cons (q_gcls (by rfl) a_is_row) qa_nil)))))), fun ds n R h => by
    obtain ⟨r, xs, t, rfl, ok, ht, hx, hR⟩ := h
    exact ⟨r, xs, _, t, rfl, ok, ht, .inl ⟨rfl, hx⟩, hR⟩⟩
abbrev s_need_weighings : Stmt := top 20
theorem sc_need_weighings : FnScope ["yard", "things"] ["yard", "things"] (defScope s_need_weighings) := ⟨rfl, rfl, rfl, by decide +kernel, rfl, by decide +kernel, by decide +kernel⟩
abbrev l_need_weighings : List Str := ["yard", "things"]
theorem ok_need_weighings {f : Addr} {fd : FuncData} (C : Cn) (hK : C.K = K) (F : Fun K "need_weighings" "need_weighings" s_need_weighings f fd) {fr fw : Addr} (a_is_weighing : mg "is_weighing" = some (.ref fw))  {f_need_each : Addr} {d_need_each : FuncData} (D__need_each : DefQ P w K mg base C "_need_each" 5 f_need_each d_need_each l_need_each (p_need_each fr fw)) : FnOk P w K mg base (L2.CX P w) 6 f fd ["yard", "things"] (spOf C p_need_weighings) :=
  q_fun F sc_need_weighings C (fun ds n R Y h => by obtain ⟨_, _, _, rfl, _⟩ := h; rfl) fun m M H std n3 ms Y cdv A outer s E hr tk => ⟨_,
    (qs_one (q_drop (q_callD D__need_each hr (qa_cons (q_var 0) (qa_cons (q_var 1) (qa_cons (q_gcls (by rfl) a_is_weighing) qa_nil)))))), fun ds n R h => by
    obtain ⟨r, xs, t, rfl, ok, ht, hx, hR⟩ := h
    exact ⟨r, xs, _, t, rfl, ok, ht, .inr ⟨rfl, hx⟩, hR⟩⟩
end
end L2.Q.Lw
set_option Elab.async false
set_option linter.all false
set_option maxRecDepth 100000
set_option maxHeartbeats 4000000
namespace L2.Q
open PySem PySem.Spec PyProof.Rows L2 L2.Wb RZ
section
variable {Θ : Th} {X : Cx} {pos : Pos}
def gLenA (i : Nat) : GE := fun e Q => ∃ d b, getS e.sl i = some (d, b) ∧ ((∃ z, d = .str z ∧ z.length ≤ 1000000 ∧ Q (.int z.length) false e) ∨ (∃ ds, (d = .lst ds ∨ d = .tup ds) ∧ Q (.int ds.length) false e))
theorem q_lenA (i : Nat) {x : Str} {pp p2 : Pos} (hm : X.mg "len" = none) (hg : Gl X "len" := by rfl) (hN : X.N[i]? = some x := by rfl) (hv : Vis X.env.scope x := by first | exact Or.inl rfl | exact Or.inr (Or.inl rfl) | exact Or.inr (Or.inr rfl))
    (hd : (x == ("__debug__" : Str)) = false := by decide) (hcd : (x == ("__classdict__" : Str)) = false := by decide) (he : starEach [.Name x p2] X.env = (false, eval (.Name x p2) X.env) :: starEach [] X.env := by rfl) (hpl : (backTo pos (starEach [] X.env)).any (·.1) = false := by rfl) :
    PE X (.Call (.Name "len" pp) [.Name x p2] [] pos) (tOf Θ (gLenA i)) :=
  pe_conv (pe_callB (CallR.or call_lenQ call_len_str) hg hm (by decide +kernel) (pa_cons (pe_var hN hv hd hcd) pa_nil he) (by decide) (by decide) he hpl) fun σ H Q ⟨e, Qp, E, ⟨d, b, q, h⟩, k⟩ => by
    obtain ⟨v, h1, c⟩ := slot_con E q
    refine ⟨v, h1, ?_⟩
    rcases h with ⟨z, hd, hz, h⟩ | ⟨ds, hd, h⟩
    · subst hd
      cases c with
      | str => exact .inr ⟨z, rfl, mil hz, k _ _ _ _ _ (Res.mk E (.int _)) h⟩
      | oth g => exact g.elim
    · rcases hd with hd | hd
      · subst hd
        cases c with
        | lst g1 g2 => exact .inl (.inl ⟨_, _, rfl, .inl (SqL.of g1), by rw [g2.len]; exact k _ _ _ _ _ (Res.mk E (.int _)) h⟩)
        | oth g => exact g.elim
      · subst hd
        cases c with
        | tup _ g1 g2 => exact .inl (.inl ⟨_, _, rfl, .inr (SqT.of g1), by rw [g2.len]; exact k _ _ _ _ _ (Res.mk E (.int _)) h⟩)
        | oth g => exact g.elim
/-- "..".join(x), x a local list as it is -/
def gJoinV (z : Str) (i : Nat) : GE := fun e Q => ∃ ds ys b, getS e.sl i = some (.lst ds, b) ∧ strsOf ds = some ys ∧ (ys.map (·.length)).sum + ys.length * z.length ≤ 16777216 ∧ Q (.str (Txt.join z ys)) false e
theorem q_joinV (i : Nat) {z x : Str} {k0 : Nat} {p0 p apos : Pos} (hN : X.N[i]? = some x := by rfl) (hv : Vis X.env.scope x := by first | exact Or.inl rfl | exact Or.inr (Or.inl rfl) | exact Or.inr (Or.inr rfl)) (hd : (x == ("__debug__" : Str)) = false := by decide) (hcd : (x == ("__classdict__" : Str)) = false := by decide)
    (hbase : attributeBase (.Constant (.str z) k0 p0) "join" X.env (eval (.Constant (.str z) k0 p0) X.env) = eval (.Constant (.str z) k0 p0) X.env := by rfl)
    (hfew : ((backTo pos (starEach [.Name x p] X.env)).all (fun x => !x.1) && (backToKw pos (keywordEach [] X.env)).all (fun x => x.1.isSome)
      && decide (([.Name x p] : List Expr).length + ([] : List Keyword).length + (if ([] : List Keyword).isEmpty then 0 else 1) < 30)) = true := by rfl)
    (hline : (apos.endLine == pos.line) = true := by rfl) (hs : starEach [.Name x p] X.env = (false, eval (.Name x p) X.env) :: starEach [] X.env := by rfl) (hplain : (backTo pos (starEach [] X.env)).any (·.1) = false := by rfl) :
    PE X (.Call (.Attribute (.Constant (.str z) k0 p0) "join" apos) [.Name x p] [] pos) (tOf Θ (gJoinV z i)) :=
  pe_conv (pe_bm PySem.F.plainAttrs_str PySem.F.slot_str_join PySem.F.type_str_join mt_join pe_str (pa_cons (pe_var hN hv hd hcd) pa_nil hs) hbase hfew hline hs hplain) fun σ H Q ⟨e, Qp, E, ⟨ds, ys, b, h0, hy, hz, h⟩, k⟩ => by
    obtain ⟨v, hv', c⟩ := slot_con E h0
    refine ⟨rfl, v, hv', ?_⟩
    cases c with
    | lst g1 g2 =>
      rw [strs_rp g2 hy] at g1
      exact ⟨z, _, ys, rfl, rfl, .inl (SqL.of g1), hz, k _ _ _ _ _ (Res.mk E (.str _)) h⟩
    | oth g => exact g.elim
end
theorem f_ixS {z : Str} {a : Int} {k : D → Bool → Prop} : ixAF (.str z) (.int a) k = (z.length ≤ 1000000 ∧ ∃ c, atI z.cps.toList a = some c ∧ k (.str ⟨#[c]⟩) false) := rfl
end L2.Q
set_option Elab.async false
set_option linter.all false
set_option maxRecDepth 100000
set_option maxHeartbeats 4000000
namespace L2.Q
open PySem PySem.Spec PyProof.Rows L2 L2.Wb RZ
def idxS (b : Str) : List Str → Nat
  | [] => 0
  | x :: xs => if x = b then 0 else idxS b xs + 1
section
variable {Θ : Th} {X : Cx} {pos : Pos}
def gIdx (i : Nat) (ga : GA) : GE := fun e Q => (∃ ds b, getS e.sl i = some (.lst ds, b)) ∧ ga e fun as e1 => ∃ ns x b, getS e1.sl i = some (.lst (ns.map D.str), b) ∧ as = [.str x] ∧ x ∈ ns ∧ Q (.int ((idxS x ns : Nat) : Int)) false e1
end
end L2.Q
set_option Elab.async false
set_option linter.all false
set_option maxRecDepth 100000
set_option maxHeartbeats 4000000
namespace L2.Q
open PySem PySem.Spec PyProof.Rows L2 L2.Wb RZ
section
variable {Θ : Th} {X : Cx} {pos : Pos}
def gPar3 (i j k : Nat) (ga gb gc : GE) : GS := fun De e => ga e fun d fr e1 => gb e1 fun d' fr' e2 => gc e2 fun d'' fr'' e3 => De.nx (((e3.set k d'' fr'').set j d' fr').set i d fr)
def gDnT : GE := fun e Q => Q (.dcT [] []) true e
end
end L2.Q
set_option Elab.async false
set_option linter.all false
set_option maxRecDepth 100000
set_option maxHeartbeats 4000000
namespace L2.Q
open PySem PySem.Spec PyProof.Rows L2 L2.Wb RZ
theorem e_gSeq  {g h : GS} {De : QE} {s0 : Sl} {r0 : List Sl} {n0 : Nat} : gSeq g h De ⟨s0 :: r0, n0⟩ = (fun (De : QE) (e : L2.Q.Env) => g { De with nx := h De } e) De ⟨s0 :: r0, n0⟩ := rfl
theorem e_gNext  {De : QE} {s0 : Sl} {r0 : List Sl} {n0 : Nat} : gNext  De ⟨s0 :: r0, n0⟩ = (fun (De : QE) (e : L2.Q.Env) => De.nx e) De ⟨s0 :: r0, n0⟩ := rfl
theorem e_gIfS  {t : GT} {g h : GS} {De : QE} {s0 : Sl} {r0 : List Sl} {n0 : Nat} : gIfS t g h De ⟨s0 :: r0, n0⟩ = (fun (De : QE) (e : L2.Q.Env) => t e fun b e1 => (b = true → g De e1) ∧ (b = false → h De e1)) De ⟨s0 :: r0, n0⟩ := rfl
theorem e_gB  {g : GE} {Q : Bool → L2.Q.Env → Prop} {s0 : Sl} {r0 : List Sl} {n0 : Nat} : gB g ⟨s0 :: r0, n0⟩ Q = (fun (e : L2.Q.Env) (Q : Bool → L2.Q.Env → Prop) => g e fun d _ e1 => match d with
  | .bl b => Q b e1
  | _ => False) ⟨s0 :: r0, n0⟩ Q := rfl
theorem e_gtNot  {g : GT} {Q : Bool → L2.Q.Env → Prop} {s0 : Sl} {r0 : List Sl} {n0 : Nat} : gtNot g ⟨s0 :: r0, n0⟩ Q = (fun (e : L2.Q.Env) (Q : Bool → L2.Q.Env → Prop) => g e fun b e1 => Q (!b) e1) ⟨s0 :: r0, n0⟩ Q := rfl
theorem e_gtAnd  {g h : GT} {Q : Bool → L2.Q.Env → Prop} {s0 : Sl} {r0 : List Sl} {n0 : Nat} : gtAnd g h ⟨s0 :: r0, n0⟩ Q = (fun (e : L2.Q.Env) (Q : Bool → L2.Q.Env → Prop) => g e fun b e1 => (b = true → h e1 Q) ∧ (b = false → Q false e1)) ⟨s0 :: r0, n0⟩ Q := rfl
theorem e_gtOr  {g h : GT} {Q : Bool → L2.Q.Env → Prop} {s0 : Sl} {r0 : List Sl} {n0 : Nat} : gtOr g h ⟨s0 :: r0, n0⟩ Q = (fun (e : L2.Q.Env) (Q : Bool → L2.Q.Env → Prop) => g e fun b e1 => (b = true → Q true e1) ∧ (b = false → h e1 Q)) ⟨s0 :: r0, n0⟩ Q := rfl
theorem e_gtYes  {Q : Bool → L2.Q.Env → Prop} {s0 : Sl} {r0 : List Sl} {n0 : Nat} : gtYes  ⟨s0 :: r0, n0⟩ Q = (fun (e : L2.Q.Env) (Q : Bool → L2.Q.Env → Prop) => Q true e) ⟨s0 :: r0, n0⟩ Q := rfl
theorem e_gVar  {i : Nat} {Q : D → Bool → L2.Q.Env → Prop} {s0 : Sl} {r0 : List Sl} {n0 : Nat} : gVar i ⟨s0 :: r0, n0⟩ Q = (fun (e : L2.Q.Env) (Q : D → Bool → L2.Q.Env → Prop) => match getS e.sl i with
  | some (d, _) => Q d false (e.frz i)
  | none => False) ⟨s0 :: r0, n0⟩ Q := rfl
theorem e_gC  {d : D} {Q : D → Bool → L2.Q.Env → Prop} {s0 : Sl} {r0 : List Sl} {n0 : Nat} : gC d ⟨s0 :: r0, n0⟩ Q = (fun (e : L2.Q.Env) (Q : D → Bool → L2.Q.Env → Prop) => Q d false e) ⟨s0 :: r0, n0⟩ Q := rfl
theorem e_gA0  {Q : List D → L2.Q.Env → Prop} {s0 : Sl} {r0 : List Sl} {n0 : Nat} : gA0  ⟨s0 :: r0, n0⟩ Q = (fun (e : L2.Q.Env) (Q : List D → L2.Q.Env → Prop) => Q [] e) ⟨s0 :: r0, n0⟩ Q := rfl
theorem e_gA1  {g : GE} {ga : GA} {Q : List D → L2.Q.Env → Prop} {s0 : Sl} {r0 : List Sl} {n0 : Nat} : gA1 g ga ⟨s0 :: r0, n0⟩ Q = (fun (e : L2.Q.Env) (Q : List D → L2.Q.Env → Prop) => g e fun d _ e1 => ga e1 fun ds e2 => Q (d :: ds) e2) ⟨s0 :: r0, n0⟩ Q := rfl
theorem e_gTup  {ga : GA} {Q : D → Bool → L2.Q.Env → Prop} {s0 : Sl} {r0 : List Sl} {n0 : Nat} : gTup ga ⟨s0 :: r0, n0⟩ Q = (fun (e : L2.Q.Env) (Q : D → Bool → L2.Q.Env → Prop) => ga e fun ds e1 => ds.length ≤ 1000000 ∧ Q (.tup ds) false e1) ⟨s0 :: r0, n0⟩ Q := rfl
theorem e_gLst  {ga : GA} {Q : D → Bool → L2.Q.Env → Prop} {s0 : Sl} {r0 : List Sl} {n0 : Nat} : gLst ga ⟨s0 :: r0, n0⟩ Q = (fun (e : L2.Q.Env) (Q : D → Bool → L2.Q.Env → Prop) => ga e fun ds e1 => ds.length ≤ 1000000 ∧ Q (.lst ds) true e1) ⟨s0 :: r0, n0⟩ Q := rfl
theorem e_g2  {f : F2} {ga gb : GE} {Q : D → Bool → L2.Q.Env → Prop} {s0 : Sl} {r0 : List Sl} {n0 : Nat} : g2 f ga gb ⟨s0 :: r0, n0⟩ Q = (fun (e : L2.Q.Env) (Q : D → Bool → L2.Q.Env → Prop) => ga e fun x _ e1 => gb e1 fun y _ e2 => f x y fun z fr => Q z fr e2) ⟨s0 :: r0, n0⟩ Q := rfl
theorem e_gAnd  {g h : GE} {Q : D → Bool → L2.Q.Env → Prop} {s0 : Sl} {r0 : List Sl} {n0 : Nat} : gAnd g h ⟨s0 :: r0, n0⟩ Q = (fun (e : L2.Q.Env) (Q : D → Bool → L2.Q.Env → Prop) => g e fun d _ e1 => match d with
  | .bl b => (b = true → h e1 Q) ∧ (b = false → Q (.bl false) false e1)
  | _ => False) ⟨s0 :: r0, n0⟩ Q := rfl
theorem e_gOr  {g h : GE} {Q : D → Bool → L2.Q.Env → Prop} {s0 : Sl} {r0 : List Sl} {n0 : Nat} : gOr g h ⟨s0 :: r0, n0⟩ Q = (fun (e : L2.Q.Env) (Q : D → Bool → L2.Q.Env → Prop) => g e fun d _ e1 => match d with
  | .bl b => (b = true → Q (.bl true) false e1) ∧ (b = false → h e1 Q)
  | _ => False) ⟨s0 :: r0, n0⟩ Q := rfl
theorem e_gNot  {g : GE} {Q : D → Bool → L2.Q.Env → Prop} {s0 : Sl} {r0 : List Sl} {n0 : Nat} : gNot g ⟨s0 :: r0, n0⟩ Q = (fun (e : L2.Q.Env) (Q : D → Bool → L2.Q.Env → Prop) => g e fun d _ e1 => match d with
  | .bl b => Q (.bl (!b)) false e1
  | _ => False) ⟨s0 :: r0, n0⟩ Q := rfl
theorem e_gIf  {t : GT} {g h : GE} {Q : D → Bool → L2.Q.Env → Prop} {s0 : Sl} {r0 : List Sl} {n0 : Nat} : gIf t g h ⟨s0 :: r0, n0⟩ Q = (fun (e : L2.Q.Env) (Q : D → Bool → L2.Q.Env → Prop) => t e fun b e1 => (b = true → g e1 Q) ∧ (b = false → h e1 Q)) ⟨s0 :: r0, n0⟩ Q := rfl
theorem e_gCallX  {Z : Str → List Str → List D → Env → Prop} {p : PSp} {ga : GA} {Q : D → Bool → L2.Q.Env → Prop} {s0 : Sl} {r0 : List Sl} {n0 : Nat} : gCallX Z p ga ⟨s0 :: r0, n0⟩ Q = (fun (e : L2.Q.Env) (Q : D → Bool → L2.Q.Env → Prop) => ga e fun ds e1 => p ds e1.n (fun d fr n' => Q d fr ⟨e1.sl, n'⟩) fun c ks es n' => Z c ks es ⟨e1.sl, n'⟩) ⟨s0 :: r0, n0⟩ Q := rfl
theorem e_gCallK  {Z : ZT} {p : PSp} {n m : Nat} {ix : List Nat} {ga gk : GA} {Q : D → Bool → L2.Q.Env → Prop} {s0 : Sl} {r0 : List Sl} {n0 : Nat} : gCallK Z p n m ix ga gk ⟨s0 :: r0, n0⟩ Q = (fun (e : L2.Q.Env) (Q : D → Bool → L2.Q.Env → Prop) => ga e fun ds e1 => gk e1 fun es e2 => ds.length = n ∧ es.length = m ∧ p (pkL .non ix (ds ++ es)) e2.n (fun d fr n' => Q d fr ⟨e2.sl, n'⟩) fun c ks es n' => Z c ks es ⟨e2.sl, n'⟩) ⟨s0 :: r0, n0⟩ Q := rfl
theorem e_gCallL  {Z : Str → List Str → List D → Env → Prop} {i : Nat} {S : V → Option PSp} {ga : GA} {Q : D → Bool → L2.Q.Env → Prop} {s0 : Sl} {r0 : List Sl} {n0 : Nat} : gCallL Z i S ga ⟨s0 :: r0, n0⟩ Q = (fun (e : L2.Q.Env) (Q : D → Bool → L2.Q.Env → Prop) => ∃ v b p, getS e.sl i = some (.raw v, b) ∧ S v = some p ∧ ga e fun ds e1 => p ds e1.n (fun d fr n' => Q d fr ⟨e1.sl, n'⟩) fun c ks es n' => Z c ks es ⟨e1.sl, n'⟩) ⟨s0 :: r0, n0⟩ Q := rfl
theorem e_gMeth  {Z : ZT} {c m : Str} {p : PSp} {g : GE} {ga : GA} {Q : D → Bool → L2.Q.Env → Prop} {s0 : Sl} {r0 : List Sl} {n0 : Nat} : gMeth Z c m p g ga ⟨s0 :: r0, n0⟩ Q = (fun (e : L2.Q.Env) (Q : D → Bool → L2.Q.Env → Prop) => g e fun d _ e1 => ∃ fs ds, d = .ins c fs ds ∧ m ∉ fs ∧ ga e1 fun as e2 => p (d :: as) e2.n (fun z fr n' => Q z fr ⟨e2.sl, n'⟩) fun c ks es n' => Z c ks es ⟨e2.sl, n'⟩) ⟨s0 :: r0, n0⟩ Q := rfl
theorem e_gFld  {c f : Str} {g : GE} {Q : D → Bool → L2.Q.Env → Prop} {s0 : Sl} {r0 : List Sl} {n0 : Nat} : gFld c f g ⟨s0 :: r0, n0⟩ Q = (fun (e : L2.Q.Env) (Q : D → Bool → L2.Q.Env → Prop) => g e fun d _ e1 => match d with
  | .ins c' fs ds => c' = c ∧ ∃ x, getK fs ds f = some x ∧ Q x false e1
  | _ => False) ⟨s0 :: r0, n0⟩ Q := rfl
theorem e_gAsg  {g : GE} {t : GG} {De : QE} {s0 : Sl} {r0 : List Sl} {n0 : Nat} : gAsg g t De ⟨s0 :: r0, n0⟩ = (fun (De : QE) (e : L2.Q.Env) => g e fun d _ e1 => t d e1 De.nx) De ⟨s0 :: r0, n0⟩ := rfl
theorem e_ggTup  {n : Nat} {g : GGs} {d : D} {Q : L2.Q.Env → Prop} {s0 : Sl} {r0 : List Sl} {n0 : Nat} : ggTup n g d ⟨s0 :: r0, n0⟩ Q = (fun (d : D) (e : L2.Q.Env) (Q : L2.Q.Env → Prop) => match d with
  | .tup ds => ds.length = n ∧ g ds e Q
  | _ => False) d ⟨s0 :: r0, n0⟩ Q := rfl
theorem e_ggCons  {g : GG} {h : GGs} {ds : List D} {Q : L2.Q.Env → Prop} {s0 : Sl} {r0 : List Sl} {n0 : Nat} : ggCons g h ds ⟨s0 :: r0, n0⟩ Q = (fun (ds : List D) (e : L2.Q.Env) (Q : L2.Q.Env → Prop) => match ds with
  | [] => False
  | d :: r => g d e fun e1 => h r e1 Q) ds ⟨s0 :: r0, n0⟩ Q := rfl
theorem e_ggNil  {ds : List D} {Q : L2.Q.Env → Prop} {s0 : Sl} {r0 : List Sl} {n0 : Nat} : ggNil  ds ⟨s0 :: r0, n0⟩ Q = (fun (ds : List D) (e : L2.Q.Env) (Q : L2.Q.Env → Prop) => ds = [] ∧ Q e) ds ⟨s0 :: r0, n0⟩ Q := rfl
theorem e_ggName  {i : Nat} {d : D} {Q : L2.Q.Env → Prop} {s0 : Sl} {r0 : List Sl} {n0 : Nat} : ggName i d ⟨s0 :: r0, n0⟩ Q = (fun (d : D) (e : L2.Q.Env) (Q : L2.Q.Env → Prop) => Q (e.set i d false)) d ⟨s0 :: r0, n0⟩ Q := rfl
theorem e_gRet  {g : GE} {De : QE} {s0 : Sl} {r0 : List Sl} {n0 : Nat} : gRet g De ⟨s0 :: r0, n0⟩ = (fun (De : QE) (e : L2.Q.Env) => g e fun d fr e1 => De.rt d fr e1.n) De ⟨s0 :: r0, n0⟩ := rfl
theorem e_gRetV  {i : Nat} {De : QE} {s0 : Sl} {r0 : List Sl} {n0 : Nat} : gRetV i De ⟨s0 :: r0, n0⟩ = (fun (De : QE) (e : L2.Q.Env) => match getS e.sl i with
  | some (d, b) => De.rt d b e.n
  | none => False) De ⟨s0 :: r0, n0⟩ := rfl
theorem e_gRetN  {De : QE} {s0 : Sl} {r0 : List Sl} {n0 : Nat} : gRetN  De ⟨s0 :: r0, n0⟩ = (fun (De : QE) (e : L2.Q.Env) => De.rt .non false e.n) De ⟨s0 :: r0, n0⟩ := rfl
theorem e_gDrop  {g : GE} {De : QE} {s0 : Sl} {r0 : List Sl} {n0 : Nat} : gDrop g De ⟨s0 :: r0, n0⟩ = (fun (De : QE) (e : L2.Q.Env) => g e fun _ _ e1 => De.nx e1) De ⟨s0 :: r0, n0⟩ := rfl
theorem e_gSet  {i : Nat} {g : GE} {De : QE} {s0 : Sl} {r0 : List Sl} {n0 : Nat} : gSet i g De ⟨s0 :: r0, n0⟩ = (fun (De : QE) (e : L2.Q.Env) => g e fun d fr e1 => De.nx (e1.set i d fr)) De ⟨s0 :: r0, n0⟩ := rfl
theorem e_giSeq  {g : GE} {Q : List D → L2.Q.Env → Prop} {s0 : Sl} {r0 : List Sl} {n0 : Nat} : giSeq g ⟨s0 :: r0, n0⟩ Q = (fun (e : L2.Q.Env) (Q : List D → L2.Q.Env → Prop) => g e fun d _ e1 => match d with
  | .lst ds => Q ds e1
  | .tup ds => Q ds e1
  | _ => False) ⟨s0 :: r0, n0⟩ Q := rfl
theorem e_giEnumA  {ga : GA} {Q : List D → L2.Q.Env → Prop} {s0 : Sl} {r0 : List Sl} {n0 : Nat} : giEnumA ga ⟨s0 :: r0, n0⟩ Q = (fun (e : L2.Q.Env) (Q : List D → L2.Q.Env → Prop) => ga e fun ds e1 => ∃ xs, (ds = [.lst xs] ∨ ds = [.tup xs]) ∧ Q (enumD 0 xs) e1) ⟨s0 :: r0, n0⟩ Q := rfl
theorem e_giR1  {ga : GA} {Q : List D → L2.Q.Env → Prop} {s0 : Sl} {r0 : List Sl} {n0 : Nat} : giR1 ga ⟨s0 :: r0, n0⟩ Q = (fun (e : L2.Q.Env) (Q : List D → L2.Q.Env → Prop) => ga e fun ds e1 => match ds with
  | [.int j] => -(2 ^ 62) ≤ j ∧ j < 2 ^ 62 ∧ Q (rangeD 0 j.toNat) e1
  | _ => False) ⟨s0 :: r0, n0⟩ Q := rfl
theorem e_giR2  {ga : GA} {Q : List D → L2.Q.Env → Prop} {s0 : Sl} {r0 : List Sl} {n0 : Nat} : giR2 ga ⟨s0 :: r0, n0⟩ Q = (fun (e : L2.Q.Env) (Q : List D → L2.Q.Env → Prop) => ga e fun ds e1 => match ds with
  | [.int i, .int j] => (-(2 ^ 62) ≤ i ∧ i < 2 ^ 62 ∧ -(2 ^ 62) ≤ j ∧ j < 2 ^ 62) ∧ Q (rangeD i (j - i).toNat) e1
  | _ => False) ⟨s0 :: r0, n0⟩ Q := rfl
theorem e_giZip  {ga : GA} {Q : List D → L2.Q.Env → Prop} {s0 : Sl} {r0 : List Sl} {n0 : Nat} : giZip ga ⟨s0 :: r0, n0⟩ Q = (fun (e : L2.Q.Env) (Q : List D → L2.Q.Env → Prop) => ga e fun ds e1 => match ds with
  | [.lst ds, .lst es] => Q (zipD ds es) e1
  | [.tup ds, .tup es] => Q (zipD ds es) e1
  | _ => False) ⟨s0 :: r0, n0⟩ Q := rfl
theorem e_gB1  {f : List D → (D → Bool → Prop) → Prop} {ga : GA} {Q : D → Bool → L2.Q.Env → Prop} {s0 : Sl} {r0 : List Sl} {n0 : Nat} : gB1 f ga ⟨s0 :: r0, n0⟩ Q = (fun (e : L2.Q.Env) (Q : D → Bool → L2.Q.Env → Prop) => ga e fun ds e1 => f ds fun z fr => Q z fr e1) ⟨s0 :: r0, n0⟩ Q := rfl
theorem e_gNeg  {g : GE} {Q : D → Bool → L2.Q.Env → Prop} {s0 : Sl} {r0 : List Sl} {n0 : Nat} : gNeg g ⟨s0 :: r0, n0⟩ Q = (fun (e : L2.Q.Env) (Q : D → Bool → L2.Q.Env → Prop) => g e fun d _ e1 => match d with
  | .int a => Q (.int (-a)) false e1
  | _ => False) ⟨s0 :: r0, n0⟩ Q := rfl
theorem e_gIxV  {i : Nat} {gb : GE} {Q : D → Bool → L2.Q.Env → Prop} {s0 : Sl} {r0 : List Sl} {n0 : Nat} : gIxV i gb ⟨s0 :: r0, n0⟩ Q = (fun (e : L2.Q.Env) (Q : D → Bool → L2.Q.Env → Prop) => (getS e.sl i).isSome = true ∧ gb e fun y _ e1 => match getS e1.sl i with
  | some (d, _) => ixAF d y fun z fr => Q z fr e1
  | none => False) ⟨s0 :: r0, n0⟩ Q := rfl
theorem e_gInV  {neg : Bool} {i : Nat} {ga : GE} {Q : D → Bool → L2.Q.Env → Prop} {s0 : Sl} {r0 : List Sl} {n0 : Nat} : gInV neg i ga ⟨s0 :: r0, n0⟩ Q = (fun (e : L2.Q.Env) (Q : D → Bool → L2.Q.Env → Prop) => ga e fun y _ e1 => match getS e1.sl i with
  | some (d, _) => inAF neg y d fun z fr => Q z fr e1
  | none => False) ⟨s0 :: r0, n0⟩ Q := rfl
theorem e_gLenV  {i : Nat} {Q : D → Bool → L2.Q.Env → Prop} {s0 : Sl} {r0 : List Sl} {n0 : Nat} : gLenV i ⟨s0 :: r0, n0⟩ Q = (fun (e : L2.Q.Env) (Q : D → Bool → L2.Q.Env → Prop) => match getS e.sl i with
  | some (.lst ds, _) => Q (.int ds.length) false e
  | some (.tup ds, _) => Q (.int ds.length) false e
  | some (.dct ks ds, true) => Q (.int ks.length) false e
  | _ => False) ⟨s0 :: r0, n0⟩ Q := rfl
theorem e_gLenD  {i : Nat} {Q : D → Bool → L2.Q.Env → Prop} {s0 : Sl} {r0 : List Sl} {n0 : Nat} : gLenD i ⟨s0 :: r0, n0⟩ Q = (fun (e : L2.Q.Env) (Q : D → Bool → L2.Q.Env → Prop) => ∃ ks ds b, getS e.sl i = some (.dct ks ds, b) ∧ Q (.int ks.length) false e) ⟨s0 :: r0, n0⟩ Q := rfl
theorem e_gLenA  {i : Nat} {Q : D → Bool → L2.Q.Env → Prop} {s0 : Sl} {r0 : List Sl} {n0 : Nat} : gLenA i ⟨s0 :: r0, n0⟩ Q = (fun (e : L2.Q.Env) (Q : D → Bool → L2.Q.Env → Prop) => ∃ d b, getS e.sl i = some (d, b) ∧ ((∃ z, d = .str z ∧ z.length ≤ 1000000 ∧ Q (.int z.length) false e) ∨ (∃ ds, (d = .lst ds ∨ d = .tup ds) ∧ Q (.int ds.length) false e))) ⟨s0 :: r0, n0⟩ Q := rfl
theorem e_gReprV  {i : Nat} {Q : D → Bool → L2.Q.Env → Prop} {s0 : Sl} {r0 : List Sl} {n0 : Nat} : gReprV i ⟨s0 :: r0, n0⟩ Q = (fun (e : L2.Q.Env) (Q : D → Bool → L2.Q.Env → Prop) => ∃ d b, getS e.sl i = some (d, b) ∧ pdD d = true ∧ Shw (toPy d) ∧ Q (.str (toPy d).shown) false e) ⟨s0 :: r0, n0⟩ Q := rfl
theorem e_gLm  {i : Nat} {f : LmF} {ga : GA} {Q : D → Bool → L2.Q.Env → Prop} {s0 : Sl} {r0 : List Sl} {n0 : Nat} : gLm i f ga ⟨s0 :: r0, n0⟩ Q = (fun (e : L2.Q.Env) (Q : D → Bool → L2.Q.Env → Prop) => match getS e.sl i with
  | some (.lst _, true) => ga e fun as e1 => match getS e1.sl i with
    | some (.lst ds, true) => f ds as fun d ds' => Q d false (e1.set i (.lst ds') true)
    | _ => False
  | _ => False) ⟨s0 :: r0, n0⟩ Q := rfl
theorem e_gAug  {i : Nat} {f : F2} {g : GE} {De : QE} {s0 : Sl} {r0 : List Sl} {n0 : Nat} : gAug i f g De ⟨s0 :: r0, n0⟩ = (fun (De : QE) (e : L2.Q.Env) => match getS e.sl i with
  | some (x, false) => g e fun y _ e1 => f x y fun z fr => De.nx (e1.set i z fr)
  | _ => False) De ⟨s0 :: r0, n0⟩ := rfl
theorem e_gAugI  {i : Nat} {f : F2} {gj gv : GE} {De : QE} {s0 : Sl} {r0 : List Sl} {n0 : Nat} : gAugI i f gj gv De ⟨s0 :: r0, n0⟩ = (fun (De : QE) (e : L2.Q.Env) => match getS e.sl i with
  | some (_, true) => gj e fun j _ e1 => match getS e1.sl i with
    | some (c, true) => ∃ d, atD c j = some d ∧ gv e1 fun y _ e2 => match getS e2.sl i with
      | some (c2, true) => f d y fun z _ => ∃ c', putI c2 j z = some c' ∧ De.nx (e2.set i c' true)
      | _ => False
    | _ => False
  | _ => False) De ⟨s0 :: r0, n0⟩ := rfl
theorem e_gCnt  {i : Nat} {ga : GA} {Q : D → Bool → L2.Q.Env → Prop} {s0 : Sl} {r0 : List Sl} {n0 : Nat} : gCnt i ga ⟨s0 :: r0, n0⟩ Q = (fun (e : L2.Q.Env) (Q : D → Bool → L2.Q.Env → Prop) => (∃ ds b, getS e.sl i = some (.lst ds, b)) ∧ ga e fun as e1 => ∃ ds b d, getS e1.sl i = some (.lst ds, b) ∧ as = [d] ∧ nd 64 d = true ∧ ndA 64 ds = true ∧ Q (.int ((ds.countP fun z => eqD z d : Nat) : Int)) false e1) ⟨s0 :: r0, n0⟩ Q := rfl
theorem e_gGetN  {g ga gb : GE} {Q : D → Bool → L2.Q.Env → Prop} {s0 : Sl} {r0 : List Sl} {n0 : Nat} : gGetN g ga gb ⟨s0 :: r0, n0⟩ Q = (fun (e : L2.Q.Env) (Q : D → Bool → L2.Q.Env → Prop) => g e fun d _ e1 => isDc d = true ∧ ga e1 fun y _ e2 => gb e2 fun z _ e3 => getNF d y z fun u => Q u false e3) ⟨s0 :: r0, n0⟩ Q := rfl
theorem e_gItems  {g : GE} {Q : D → Bool → L2.Q.Env → Prop} {s0 : Sl} {r0 : List Sl} {n0 : Nat} : gItems g ⟨s0 :: r0, n0⟩ Q = (fun (e : L2.Q.Env) (Q : D → Bool → L2.Q.Env → Prop) => g e fun d _ e1 => match d with
  | .dct ks ds => Q (.lst (itemsD ks ds)) true e1
  | _ => False) ⟨s0 :: r0, n0⟩ Q := rfl
theorem e_gListZip  {ga : GA} {Q : D → Bool → L2.Q.Env → Prop} {s0 : Sl} {r0 : List Sl} {n0 : Nat} : gListZip ga ⟨s0 :: r0, n0⟩ Q = (fun (e : L2.Q.Env) (Q : D → Bool → L2.Q.Env → Prop) => ga e fun ds e1 => match ds with
  | [.lst xs, .lst ys] => Q (.lst (pairsD xs ys)) true e1
  | _ => False) ⟨s0 :: r0, n0⟩ Q := rfl
theorem e_gNd  {P : Program} {w : World} {j : Nat} {c : Int} {Q : D → Bool → L2.Q.Env → Prop} {s0 : Sl} {r0 : List Sl} {n0 : Nat} : gNd P w j c ⟨s0 :: r0, n0⟩ Q = (fun (e : L2.Q.Env) (Q : D → Bool → L2.Q.Env → Prop) => ∃ ks is b, getS e.sl j = some (.dct ks (is.map D.int), b) ∧ ks.length + 1 ≤ 1000000 ∧ Q (nDict P w ((none, c) :: (ks.map some).zip is)) false e) ⟨s0 :: r0, n0⟩ Q := rfl
theorem e_gSl  {g : GE} {gl gu : GO} {Q : D → Bool → L2.Q.Env → Prop} {s0 : Sl} {r0 : List Sl} {n0 : Nat} : gSl g gl gu ⟨s0 :: r0, n0⟩ Q = (fun (e : L2.Q.Env) (Q : D → Bool → L2.Q.Env → Prop) => g e fun d _ e1 => gl e1 fun lo e2 => gu e2 fun hi e3 => slF d lo hi fun z fr => Q z fr e3) ⟨s0 :: r0, n0⟩ Q := rfl
theorem e_gO0  {Q : Option Int → L2.Q.Env → Prop} {s0 : Sl} {r0 : List Sl} {n0 : Nat} : gO0  ⟨s0 :: r0, n0⟩ Q = (fun (e : L2.Q.Env) (Q : Option Int → L2.Q.Env → Prop) => Q none e) ⟨s0 :: r0, n0⟩ Q := rfl
theorem e_gO1  {g : GE} {Q : Option Int → L2.Q.Env → Prop} {s0 : Sl} {r0 : List Sl} {n0 : Nat} : gO1 g ⟨s0 :: r0, n0⟩ Q = (fun (e : L2.Q.Env) (Q : Option Int → L2.Q.Env → Prop) => g e fun d _ e1 => match d with
  | .int i => Q (some i) e1
  | _ => False) ⟨s0 :: r0, n0⟩ Q := rfl
theorem e_gCmpV  {f : D → D → Option Bool} {i : Nat} {gb : GE} {Q : D → Bool → L2.Q.Env → Prop} {s0 : Sl} {r0 : List Sl} {n0 : Nat} : gCmpV f i gb ⟨s0 :: r0, n0⟩ Q = (fun (e : L2.Q.Env) (Q : D → Bool → L2.Q.Env → Prop) => (getS e.sl i).isSome = true ∧ gb e fun y _ e1 => ∃ d b c, getS e1.sl i = some (d, b) ∧ f d y = some c ∧ Q (.bl c) false e1) ⟨s0 :: r0, n0⟩ Q := rfl
theorem e_gChain  {f f' : F2} {ga gb gc : GE} {Q : D → Bool → L2.Q.Env → Prop} {s0 : Sl} {r0 : List Sl} {n0 : Nat} : gChain f f' ga gb gc ⟨s0 :: r0, n0⟩ Q = (fun (e : L2.Q.Env) (Q : D → Bool → L2.Q.Env → Prop) => ga e fun x _ e1 => gb e1 fun y _ e2 => f x y fun z fr => match z with
  | .bl b => (b = true → gc e2 fun w _ e3 => f' y w fun z fr => Q z fr e3) ∧ (b = false → Q (.bl false) false e2)
  | _ => False) ⟨s0 :: r0, n0⟩ Q := rfl
theorem e_gInG  {ws : List D} {gb : GE} {Q : D → Bool → L2.Q.Env → Prop} {s0 : Sl} {r0 : List Sl} {n0 : Nat} : gInG ws gb ⟨s0 :: r0, n0⟩ Q = (fun (e : L2.Q.Env) (Q : D → Bool → L2.Q.Env → Prop) => gb e fun y _ e1 => ∃ b, memT y (.tup ws) = some b ∧ Q (.bl b) false e1) ⟨s0 :: r0, n0⟩ Q := rfl
theorem e_gIxG  {ps : Str → Option Int} {gb : GE} {Q : D → Bool → L2.Q.Env → Prop} {s0 : Sl} {r0 : List Sl} {n0 : Nat} : gIxG ps gb ⟨s0 :: r0, n0⟩ Q = (fun (e : L2.Q.Env) (Q : D → Bool → L2.Q.Env → Prop) => gb e fun y _ e1 => ∃ z i, y = .str z ∧ ps z = some i ∧ Q (.int i) false e1) ⟨s0 :: r0, n0⟩ Q := rfl
theorem e_gDclr  {i : Nat} {Q : D → Bool → L2.Q.Env → Prop} {s0 : Sl} {r0 : List Sl} {n0 : Nat} : gDclr i ⟨s0 :: r0, n0⟩ Q = (fun (e : L2.Q.Env) (Q : D → Bool → L2.Q.Env → Prop) => ∃ ks ds, getS e.sl i = some (.dct ks ds, true) ∧ Q .non false (e.set i (.dct [] []) true)) ⟨s0 :: r0, n0⟩ Q := rfl
theorem e_gJoin  {g : GE} {ga : GA} {Q : D → Bool → L2.Q.Env → Prop} {s0 : Sl} {r0 : List Sl} {n0 : Nat} : gJoin g ga ⟨s0 :: r0, n0⟩ Q = (fun (e : L2.Q.Env) (Q : D → Bool → L2.Q.Env → Prop) => g e fun d _ e1 => match d with
  | .str z => ga e1 fun as e2 => ∃ ds ys, as = [.lst ds] ∧ strsOf ds = some ys ∧ (ys.map (·.length)).sum + ys.length * z.length ≤ 16777216 ∧ Q (.str (Txt.join z ys)) false e2
  | _ => False) ⟨s0 :: r0, n0⟩ Q := rfl
theorem e_gJoinV  {z : Str} {i : Nat} {Q : D → Bool → L2.Q.Env → Prop} {s0 : Sl} {r0 : List Sl} {n0 : Nat} : gJoinV z i ⟨s0 :: r0, n0⟩ Q = (fun (e : L2.Q.Env) (Q : D → Bool → L2.Q.Env → Prop) => ∃ ds ys b, getS e.sl i = some (.lst ds, b) ∧ strsOf ds = some ys ∧ (ys.map (·.length)).sum + ys.length * z.length ≤ 16777216 ∧ Q (.str (Txt.join z ys)) false e) ⟨s0 :: r0, n0⟩ Q := rfl
theorem e_gPar  {i j : Nat} {ga gb : GE} {De : QE} {s0 : Sl} {r0 : List Sl} {n0 : Nat} : gPar i j ga gb De ⟨s0 :: r0, n0⟩ = (fun (De : QE) (e : L2.Q.Env) => ga e fun x fx e1 => gb e1 fun y fy e2 => De.nx ((e2.set j y fy).set i x fx)) De ⟨s0 :: r0, n0⟩ := rfl
theorem e_gBreak  {De : QE} {s0 : Sl} {r0 : List Sl} {n0 : Nat} : gBreak  De ⟨s0 :: r0, n0⟩ = (fun (De : QE) (e : L2.Q.Env) => De.bk e) De ⟨s0 :: r0, n0⟩ := rfl
theorem e_gCont  {De : QE} {s0 : Sl} {r0 : List Sl} {n0 : Nat} : gCont  De ⟨s0 :: r0, n0⟩ = (fun (De : QE) (e : L2.Q.Env) => De.ct e) De ⟨s0 :: r0, n0⟩ := rfl
theorem e_ggItem  {i : Nat} {g : GE} {d : D} {Q : L2.Q.Env → Prop} {s0 : Sl} {r0 : List Sl} {n0 : Nat} : ggItem i g d ⟨s0 :: r0, n0⟩ Q = (fun (d : D) (e : L2.Q.Env) (Q : L2.Q.Env → Prop) => match getS e.sl i with
  | some (_, true) => g e fun j _ e1 => match getS e1.sl i with
    | some (c, true) => ∃ c', putI c j d = some c' ∧ Q (e1.set i c' true)
    | _ => False
  | _ => False) d ⟨s0 :: r0, n0⟩ Q := rfl
theorem e_gDnew  {Q : D → Bool → L2.Q.Env → Prop} {s0 : Sl} {r0 : List Sl} {n0 : Nat} : gDnew  ⟨s0 :: r0, n0⟩ Q = (fun (e : L2.Q.Env) (Q : D → Bool → L2.Q.Env → Prop) => Q (.dct [] []) true e) ⟨s0 :: r0, n0⟩ Q := rfl
theorem e_ggLst  {n : Nat} {g : GGs} {d : D} {Q : L2.Q.Env → Prop} {s0 : Sl} {r0 : List Sl} {n0 : Nat} : ggLst n g d ⟨s0 :: r0, n0⟩ Q = (fun (d : D) (e : L2.Q.Env) (Q : L2.Q.Env → Prop) => match d with
  | .lst ds => ds.length = n ∧ g ds e Q
  | _ => False) d ⟨s0 :: r0, n0⟩ Q := rfl
theorem e_gGet1  {i : Nat} {ga : GE} {Q : D → Bool → L2.Q.Env → Prop} {s0 : Sl} {r0 : List Sl} {n0 : Nat} : gGet1 i ga ⟨s0 :: r0, n0⟩ Q = (fun (e : L2.Q.Env) (Q : D → Bool → L2.Q.Env → Prop) => (∃ d b, getS e.sl i = some (d, b) ∧ isDc d = true) ∧ ga e fun y _ e1 => ∃ d b o, getS e1.sl i = some (d, b) ∧ getD d y = some o ∧ Q (o.getD .non) false e1) ⟨s0 :: r0, n0⟩ Q := rfl
theorem e_gGet2  {i : Nat} {ga gb : GE} {Q : D → Bool → L2.Q.Env → Prop} {s0 : Sl} {r0 : List Sl} {n0 : Nat} : gGet2 i ga gb ⟨s0 :: r0, n0⟩ Q = (fun (e : L2.Q.Env) (Q : D → Bool → L2.Q.Env → Prop) => (∃ d b, getS e.sl i = some (d, b) ∧ isDc d = true) ∧ ga e fun y _ e1 => gb e1 fun z _ e2 => ∃ d b o, getS e2.sl i = some (d, b) ∧ getD d y = some o ∧ Q (o.getD z) false e2) ⟨s0 :: r0, n0⟩ Q := rfl
theorem e_gDnT  {Q : D → Bool → L2.Q.Env → Prop} {s0 : Sl} {r0 : List Sl} {n0 : Nat} : gDnT  ⟨s0 :: r0, n0⟩ Q = (fun (e : L2.Q.Env) (Q : D → Bool → L2.Q.Env → Prop) => Q (.dcT [] []) true e) ⟨s0 :: r0, n0⟩ Q := rfl
theorem e_gIdx  {i : Nat} {ga : GA} {Q : D → Bool → L2.Q.Env → Prop} {s0 : Sl} {r0 : List Sl} {n0 : Nat} : gIdx i ga ⟨s0 :: r0, n0⟩ Q = (fun (e : L2.Q.Env) (Q : D → Bool → L2.Q.Env → Prop) => (∃ ds b, getS e.sl i = some (.lst ds, b)) ∧ ga e fun as e1 => ∃ ns x b, getS e1.sl i = some (.lst (ns.map D.str), b) ∧ as = [.str x] ∧ x ∈ ns ∧ Q (.int ((idxS x ns : Nat) : Int)) false e1) ⟨s0 :: r0, n0⟩ Q := rfl
theorem e_gPar3  {i j k : Nat} {ga gb gc : GE} {De : QE} {s0 : Sl} {r0 : List Sl} {n0 : Nat} : gPar3 i j k ga gb gc De ⟨s0 :: r0, n0⟩ = (fun (De : QE) (e : L2.Q.Env) => ga e fun d fr e1 => gb e1 fun d' fr' e2 => gc e2 fun d'' fr'' e3 => De.nx (((e3.set k d'' fr'').set j d' fr').set i d fr)) De ⟨s0 :: r0, n0⟩ := rfl
theorem e_set {s0 : Sl} {r0 : List Sl} {n0 i : Nat} {d : D} {b : Bool} : Env.set ⟨s0 :: r0, n0⟩ i d b = ⟨setS (s0 :: r0) i (some (d, b)), n0⟩ := rfl
theorem e_clr {s0 : Sl} {r0 : List Sl} {n0 i : Nat} : Env.clr ⟨s0 :: r0, n0⟩ i = ⟨setS (s0 :: r0) i none, n0⟩ := rfl
theorem e_frz {s0 : Sl} {r0 : List Sl} {n0 i : Nat} : Env.frz ⟨s0 :: r0, n0⟩ i = (match getS (s0 :: r0) i with | some (d, true) => ⟨setS (s0 :: r0) i (some (d, false)), n0⟩ | _ => ⟨s0 :: r0, n0⟩) := rfl
theorem e_wipe {s0 : Sl} {r0 : List Sl} {n0 : Nat} {vs : List Nat} : wipeE ⟨s0 :: r0, n0⟩ vs = ⟨wipeS (s0 :: r0) vs, n0⟩ := rfl
theorem e_back {s0 s1 : Sl} {r0 r1 : List Sl} {n0 n1 : Nat} {vs : List Nat} : backE vs ⟨s0 :: r0, n0⟩ ⟨s1 :: r1, n1⟩ = ⟨backS (s0 :: r0) (s1 :: r1) vs, n1⟩ := rfl
theorem m_1 {α β : Type} {f : α → β} {x0 : α} : List.map f [x0] = [f x0] := rfl
theorem m_2 {α β : Type} {f : α → β} {x0 x1 : α} : List.map f [x0, x1] = [f x0, f x1] := rfl
theorem m_3 {α β : Type} {f : α → β} {x0 x1 x2 : α} : List.map f [x0, x1, x2] = [f x0, f x1, f x2] := rfl
theorem m_4 {α β : Type} {f : α → β} {x0 x1 x2 x3 : α} : List.map f [x0, x1, x2, x3] = [f x0, f x1, f x2, f x3] := rfl
theorem m_5 {α β : Type} {f : α → β} {x0 x1 x2 x3 x4 : α} : List.map f [x0, x1, x2, x3, x4] = [f x0, f x1, f x2, f x3, f x4] := rfl
theorem m_6 {α β : Type} {f : α → β} {x0 x1 x2 x3 x4 x5 : α} : List.map f [x0, x1, x2, x3, x4, x5] = [f x0, f x1, f x2, f x3, f x4, f x5] := rfl
theorem m_7 {α β : Type} {f : α → β} {x0 x1 x2 x3 x4 x5 x6 : α} : List.map f [x0, x1, x2, x3, x4, x5, x6] = [f x0, f x1, f x2, f x3, f x4, f x5, f x6] := rfl
theorem m_8 {α β : Type} {f : α → β} {x0 x1 x2 x3 x4 x5 x6 x7 : α} : List.map f [x0, x1, x2, x3, x4, x5, x6, x7] = [f x0, f x1, f x2, f x3, f x4, f x5, f x6, f x7] := rfl
theorem m_9 {α β : Type} {f : α → β} {x0 x1 x2 x3 x4 x5 x6 x7 x8 : α} : List.map f [x0, x1, x2, x3, x4, x5, x6, x7, x8] = [f x0, f x1, f x2, f x3, f x4, f x5, f x6, f x7, f x8] := rfl
theorem m_10 {α β : Type} {f : α → β} {x0 x1 x2 x3 x4 x5 x6 x7 x8 x9 : α} : List.map f [x0, x1, x2, x3, x4, x5, x6, x7, x8, x9] = [f x0, f x1, f x2, f x3, f x4, f x5, f x6, f x7, f x8, f x9] := rfl
theorem m_11 {α β : Type} {f : α → β} {x0 x1 x2 x3 x4 x5 x6 x7 x8 x9 x10 : α} : List.map f [x0, x1, x2, x3, x4, x5, x6, x7, x8, x9, x10] = [f x0, f x1, f x2, f x3, f x4, f x5, f x6, f x7, f x8, f x9, f x10] := rfl
theorem m_12 {α β : Type} {f : α → β} {x0 x1 x2 x3 x4 x5 x6 x7 x8 x9 x10 x11 : α} : List.map f [x0, x1, x2, x3, x4, x5, x6, x7, x8, x9, x10, x11] = [f x0, f x1, f x2, f x3, f x4, f x5, f x6, f x7, f x8, f x9, f x10, f x11] := rfl
end L2.Q
local macro_rules | `(tactic| one_sign) => `(tactic| try dsimp only [L2.Q.e_gSeq, L2.Q.e_gNext, L2.Q.e_gIfS, L2.Q.e_gB, L2.Q.e_gtNot, L2.Q.e_gtAnd, L2.Q.e_gtOr, L2.Q.e_gtYes, L2.Q.e_gVar, L2.Q.e_gC, L2.Q.e_gA0, L2.Q.e_gA1, L2.Q.e_gTup, L2.Q.e_gLst, L2.Q.e_g2, L2.Q.e_gAnd, L2.Q.e_gOr, L2.Q.e_gNot, L2.Q.e_gIf, L2.Q.e_gCallX, L2.Q.e_gCallK, L2.Q.e_gCallL, L2.Q.e_gMeth, L2.Q.e_gFld, L2.Q.e_gAsg, L2.Q.e_ggTup, L2.Q.e_ggCons, L2.Q.e_ggNil, L2.Q.e_ggName, L2.Q.e_gRet, L2.Q.e_gRetV, L2.Q.e_gRetN, L2.Q.e_gDrop, L2.Q.e_gSet, L2.Q.e_giSeq, L2.Q.e_giEnumA, L2.Q.e_giR1, L2.Q.e_giR2, L2.Q.e_giZip, L2.Q.e_gB1, L2.Q.e_gNeg, L2.Q.e_gIxV, L2.Q.e_gInV, L2.Q.e_gLenV, L2.Q.e_gLenD, L2.Q.e_gLenA, L2.Q.e_gReprV, L2.Q.e_gLm, L2.Q.e_gAug, L2.Q.e_gAugI, L2.Q.e_gCnt, L2.Q.e_gGetN, L2.Q.e_gItems, L2.Q.e_gListZip, L2.Q.e_gNd, L2.Q.e_gSl, L2.Q.e_gO0, L2.Q.e_gO1, L2.Q.e_gCmpV, L2.Q.e_gChain, L2.Q.e_gInG, L2.Q.e_gIxG, L2.Q.e_gDclr, L2.Q.e_gJoin, L2.Q.e_gJoinV, L2.Q.e_gPar, L2.Q.e_gBreak, L2.Q.e_gCont, L2.Q.e_ggItem, L2.Q.e_gDnew, L2.Q.e_ggLst, L2.Q.e_gGet1, L2.Q.e_gGet2, L2.Q.e_gDnT, L2.Q.e_gIdx, L2.Q.e_gPar3, L2.Q.m_1, L2.Q.m_2, L2.Q.m_3, L2.Q.m_4, L2.Q.m_5, L2.Q.m_6, L2.Q.m_7, L2.Q.m_8, L2.Q.m_9, L2.Q.m_10, L2.Q.m_11, L2.Q.m_12, L2.Q.e_set, L2.Q.e_clr, L2.Q.e_frz, L2.Q.e_wipe, L2.Q.e_back, L2.Q.getS, L2.Q.setS, L2.Q.wipeS, L2.Q.backS, L2.Q.noZ, L2.Q.gCall, L2.Q.eqF, L2.Q.neF, L2.Q.inF, L2.Q.isNon, L2.Q.f_add, L2.Q.f_addL, L2.Q.f_addT, L2.Q.f_sub, L2.Q.f_mul, L2.Q.f_mulT, L2.Q.f_mulL, L2.Q.f_div, L2.Q.f_mod, L2.Q.f_lt, L2.Q.f_le, L2.Q.f_gt, L2.Q.f_ge, L2.Q.f_is, L2.Q.f_isnt, L2.Q.f_isT, L2.Q.f_isntT, L2.Q.f_isB, L2.Q.f_inL, L2.Q.f_inT, L2.Q.f_inD, L2.Q.f_ixL, L2.Q.f_ixT, L2.Q.f_ixD, L2.Q.f_slL, L2.Q.f_slT, L2.Q.f_lenL, L2.Q.f_lenT, L2.Q.f_list, L2.Q.f_listT, L2.Q.f_tup, L2.Q.f_tupT, L2.Q.f_ty, L2.Q.f_ia, L2.Q.f_dict, L2.Q.f_all, L2.Q.f_intB, L2.Q.f_app, L2.Q.f_ixS])
set_option Elab.async false
set_option linter.all false
set_option maxRecDepth 100000
set_option maxHeartbeats 4000000
namespace L2.Q.Wbm
open PySem PySem.Spec PyProof.Rows L2 L2.Wb L2.Q
def isLow (c : Nat) : Bool := decide (97 ≤ c) && decide (c ≤ 122)
def isNameS (x : Str) : Bool := decide (1 ≤ x.length) && decide (x.length ≤ 8) && x.cps.toList.all isLow
structure rowOk (r : Row) : Prop where
  ok : r.ok
  n1 : 1 ≤ r.names.length
  b1 : 1 ≤ r.beams.length
  nm : ∀ x ∈ r.names, isNameS x = true
  bm : ∀ p ∈ r.beams, isNameS p.1 = true ∧ -5 ≤ p.2 ∧ p.2 ≤ 5 ∧ p.2 ≠ 0
  m1 : 1 ≤ r.most
  m2 : r.most ≤ 100
  l1 : 0 ≤ r.lean
  l2 : r.lean ≤ 9
  few : (2 * r.lean + 1) ^ r.beams.length ≤ 400
def sgn (t : Int) : Int := if t > 0 then 1 else if t = 0 then 0 else -1
def p_law_next : PSp := fun ds n R Y => ∃ size : Int, ds = [.st, .int size] ∧ n ≤ 1000000 ∧ 0 < size ∧ size ≤ 1000000 ∧ ∀ v : Int, 0 ≤ v → v < size → R (.int v) false (n + 1)
def p_law_pick : PSp := fun ds n R Y => ∃ y, ds = [.st, y] ∧ n ≤ 1000000 ∧ ((∃ xs, (y = .lst xs ∨ y = .tup xs) ∧ xs ≠ [] ∧ xs.length ≤ 1000 ∧ ∀ d, d ∈ xs → R d false (n + 1)) ∨
  (∃ z : Str, y = .str z ∧ 0 < z.length ∧ z.length ≤ 1000 ∧ ∀ c, c ∈ z.cps.toList → R (.str ⟨#[c]⟩) false (n + 1)))
def p_law_names : PSp := fun ds n R Y => ∃ many : Int, ds = [.st, .int many] ∧ n ≤ 900000 ∧ 0 ≤ many ∧ many ≤ 26 ∧ ∀ (ns : List Str) n', n' ≤ n + 20 → ns.length = many.toNat → (∀ x ∈ ns, isNameS x = true) → ns.Nodup → R (.lst (ns.map D.str)) true n'
def p_law_row : PSp := fun ds n R Y => ds = [.st, .int 3, .int 8, .int 100, .int 9] ∧ n ≤ 800000 ∧ ∀ r n', n' ≤ n + 100 → rowOk r → R (rowD r) false n'
def p_law_weighing : PSp := fun ds n R Y => ∃ r, ds = [.st, rowD r] ∧ rowOk r ∧ n ≤ 900000 ∧ ∀ x n', n' ≤ n + 3 → okW r x → R (wD x) false n'
def p_law_world : PSp := fun ds n R Y => ∃ r, ds = [.st, rowD r] ∧ rowOk r ∧ n ≤ 900000 ∧ ∀ wt ln n', n' ≤ n + 20 → okWd r r.names wt (r.beams.map (·.1)) ln → R (wdD r.names wt (r.beams.map (·.1)) ln) false n'
def p_law_sign : PSp := fun ds n R Y => ∃ t, ds = [.int t] ∧ R (.int (sgn t)) false n
def p_law_told : PSp := fun ds n R Y => ∃ r ks wt k2 ln xs, ds = [rowD r, wdD ks wt k2 ln, .lst (xs.map wD)] ∧ rowOk r ∧ okWd r ks wt k2 ln ∧ (∀ x ∈ xs, okW r x) ∧ xs.length ≤ 1000 ∧ R (.lst ((tellR (stF r) wt ln xs).map rwD)) true n
theorem okD.rev {ks names : List Str} {F : Str → Int} {lo hi : Int} (h : okD ks names F lo hi) : okD ks.reverse names F lo hi := ⟨by rw [List.length_reverse]; exact h.len, h.n8, fun x hx => ⟨List.mem_reverse.mpr (h.at_ x hx).1, (h.at_ x hx).2⟩⟩
theorem okWd.rev {r : Row} {ks k2 : List Str} {wt ln : Str → Int} (h : okWd r ks wt k2 ln) : okWd r ks.reverse wt k2.reverse ln := ⟨h.w.rev, h.l.rev⟩
theorem atI_mem {α : Type} {xs : List α} {v : Int} (h0 : 0 ≤ v) (h1 : v < xs.length) : ∃ d, atI xs v = some d ∧ d ∈ xs := by
  unfold atI ixN
  rw [if_pos h0, if_pos h1]
  have hl : v.toNat < xs.length := by omega
  exact ⟨xs[v.toNat], List.getElem?_eq_getElem hl, List.getElem_mem hl⟩
theorem pan_mem {r : Row} {d : D} (h : d ∈ [D.non] ++ r.names.map D.str) : ∃ p, d = panD p ∧ okP r p := by
  rcases List.mem_append.mp h with h | h
  · exact ⟨none, List.mem_singleton.mp h, fun x z => nomatch z⟩
  · obtain ⟨x, hx, rfl⟩ := List.mem_map.mp h
    exact ⟨some x, rfl, fun y z => by cases z; exact hx⟩
def keepU (p : Option Str) : D → Bool
  | .str y => unlP p (some y)
  | _ => true
theorem eqD_ps (p : Option Str) (y : Str) : (!eqD (.str y) (panD p)) = unlP p (some y) := by
  cases p with
  | none => rw [show panD none = .non from rfl, eqD_sn]; rfl
  | some x =>
    rw [show panD (some x) = .str x from rfl, eqD_str]
    show _ = !(x == y)
    rw [Bool.beq_comm]
theorem sgn_eq (t : Int) : (if decide (0 < t) = true then (1 : Int) else 0) - (if decide (t < 0) = true then 1 else 0) = sgn t := by
  unfold sgn
  by_cases a : 0 < t
  · have b : ¬ t < 0 := by omega
    rw [decide_eq_true a, decide_eq_false b, if_pos rfl, if_neg Bool.false_ne_true, if_pos a]; rfl
  · by_cases b : t < 0
    · rw [decide_eq_false a, decide_eq_true b, if_pos rfl, if_neg Bool.false_ne_true, if_neg a, if_neg (by omega)]; rfl
    · rw [decide_eq_false a, decide_eq_false b, if_neg Bool.false_ne_true, if_neg a, if_pos (by omega)]; rfl
theorem mergeD_nodup : ∀ (ps : List (Key × D)) (acc : List Key × List D), (acc.1 ++ ps.map (·.1)).Nodup → mergeD acc ps = (acc.1 ++ ps.map (·.1), acc.2 ++ ps.map (·.2))
  | [], acc, _ => by show acc = _; rw [List.map_nil, List.map_nil, List.append_nil, List.append_nil]
  | p :: ps, acc, h => by
    have nin : p.1 ∉ acc.1 := fun z => (List.nodup_append.mp h).2.2 _ z _ List.mem_cons_self rfl
    have e : putD acc.1 acc.2 p.1 p.2 = (acc.1 ++ [p.1], acc.2 ++ [p.2]) := by unfold putD; rw [if_neg nin]
    show mergeD (putD acc.1 acc.2 p.1 p.2) ps = _
    rw [e, mergeD_nodup ps _ (by rw [List.append_assoc]; exact h)]
    rw [List.append_assoc, List.append_assoc]; rfl
theorem pairsOf_bm : ∀ ps : List (Str × Int), pairsOf (ps.map bmD) = some (ps.map fun p => ((.inr p.1 : Key), D.int p.2))
  | [] => rfl
  | p :: ps => by
    show (pairsOf (ps.map bmD)).map (fun r => ((.inr p.1 : Key), D.int p.2) :: r) = _
    rw [pairsOf_bm ps]; rfl
theorem lookS_in {b : Str} : ∀ {ps : List (Str × Int)}, b ∈ ps.map (·.1) → ∃ v, lookS ps b = some v ∧ (b, v) ∈ ps
  | [], h => by cases h
  | p :: ps, h => by
    unfold lookS
    by_cases c : p.1 = b
    · exact ⟨p.2, if_pos c, by rw [← c]; exact List.mem_cons_self⟩
    · rw [if_neg c]
      obtain ⟨v, h1, h2⟩ := lookS_in ((List.mem_cons.mp h).elim (fun z => absurd z.symm c) (fun z => z))
      exact ⟨v, h1, List.mem_cons_of_mem _ h2⟩
theorem lookS_at {p : Str × Int} : ∀ {ps : List (Str × Int)}, (ps.map (·.1)).Nodup → p ∈ ps → lookS ps p.1 = some p.2
  | q :: ps, hn, h => by
    unfold lookS
    rcases List.mem_cons.mp h with rfl | h
    · exact if_pos rfl
    · have hq := List.nodup_cons.mp hn
      rw [if_neg (fun z => hq.1 (by show q.1 ∈ _; rw [z]; exact List.mem_map_of_mem h))]
      exact lookS_at hq.2 h
def psF (ps : List (Str × Int)) : Str → Int := fun b => (lookS ps b).getD 0
theorem dict_ps {ps : List (Str × Int)} {k : D → Bool → Prop} (hn : (ps.map (·.1)).Nodup) (hk : k (dfD (ps.map (·.1)) (psF ps)) true) : dictF [.lst (ps.map bmD)] k := by
  refine ⟨_, pairsOf_bm ps, ?_⟩
  have hn' : (([] : List Key) ++ (ps.map fun p => ((.inr p.1 : Key), D.int p.2)).map (·.1)).Nodup := by
    rw [List.nil_append, List.map_map]
    have : (List.map ((fun x : Key × D => x.1) ∘ fun p : Str × Int => ((.inr p.1 : Key), D.int p.2)) ps) = (ps.map (·.1)).map Sum.inr := by rw [List.map_map]; rfl
    rw [this]
    exact List.Pairwise.map Sum.inr (fun a b h e => h (Sum.inr.inj e)) hn
  rw [mergeD_nodup _ ([], []) hn']
  have e1 : (([] : List Key) ++ (ps.map fun p => ((.inr p.1 : Key), D.int p.2)).map (·.1)) = (ps.map (·.1)).map Sum.inr := by rw [List.nil_append, List.map_map, List.map_map]; rfl
  have e2 : (([] : List D) ++ (ps.map fun p => ((.inr p.1 : Key), D.int p.2)).map (·.2)) = (ps.map (·.1)).map fun x => D.int (psF ps x) := by
    rw [List.nil_append, List.map_map, List.map_map]
    refine List.map_congr_left fun p hp => ?_
    show D.int p.2 = D.int (psF ps p.1)
    unfold psF
    rw [lookS_at hn hp]; rfl
  rw [e1, e2]
  exact hk
theorem all2_ps {B : Int → Prop} : ∀ {xs : List Str} {us : List D}, All2 (fun d z => ∃ x v, d = .str x ∧ z = bmD (x, v) ∧ B v) (xs.map D.str) us → ∃ ps : List (Str × Int), us = ps.map bmD ∧ ps.map (·.1) = xs ∧ ∀ p ∈ ps, B p.2
  | [], _, .nil => ⟨[], rfl, rfl, fun p h => by cases h⟩
  | x :: xs, _, .cons ⟨y, v, h1, h2, h3⟩ r => by
    obtain ⟨ps, e1, e2, e3⟩ := all2_ps r
    cases h1
    subst h2
    exact ⟨(x, v) :: ps, by rw [e1]; rfl, by rw [← e2]; rfl, fun p hp => (List.mem_cons.mp hp).elim (fun z => by rw [z]; exact h3) (e3 p)⟩
theorem psF_in {ps : List (Str × Int)} {x : Str} (h : x ∈ ps.map (·.1)) : ∃ p ∈ ps, p.1 = x ∧ psF ps x = p.2 := by
  obtain ⟨v, h1, h2⟩ := lookS_in h
  exact ⟨_, h2, rfl, by unfold psF; rw [h1]; rfl⟩
theorem turn_sgn (t : Int) : turnN (wordOf t) = - sgn t := by
  unfold wordOf sgn
  by_cases a : t > 0
  · rw [if_pos a, if_pos a]; decide
  · rw [if_neg a, if_neg a]
    by_cases b : t = 0
    · rw [if_pos b, if_pos b]; decide
    · rw [if_neg b, if_neg b]; decide
theorem at_sgn (t : Int) : atI [D.str "right", D.str "even", D.str "left"] (1 + sgn t) = some (.str (wordOf t)) := by
  unfold wordOf sgn
  by_cases a : t > 0
  · rw [if_pos a, if_pos a]; rfl
  · rw [if_neg a, if_neg a]
    by_cases b : t = 0
    · rw [if_pos b, if_pos b]; rfl
    · rw [if_neg b, if_neg b]; rfl
theorem get_df {r : Row} {ks : List Str} {wt : Str → Int} {p : Option Str} {k : D → Prop} (hp : okP r p) (hk : ∀ x ∈ r.names, x ∈ ks) (h : k (.int (wtP wt p))) : getNF (dfD ks wt) (panD p) (.int 0) k := by
  cases p with
  | none => exact .inr ⟨_, _, rfl, rfl, h⟩
  | some x => exact .inl ⟨_, getD_df (hk x (hp x rfl)), h⟩
theorem bmD_inj {p q : Str × Int} (h : bmD p = bmD q) : p = q := by
  unfold bmD at h
  injection h with h
  injection h with h1 h2
  injection h2 with h2 _
  injection h1 with h1
  injection h2 with h2
  exact Prod.ext h1 h2
theorem all2_bm {B : Int → Prop} : ∀ {bs : List (Str × Int)} {us : List D}, All2 (fun d z => ∃ p v, d = bmD p ∧ z = bmD (p.1, v) ∧ B v) (bs.map bmD) us → ∃ ps : List (Str × Int), us = ps.map bmD ∧ ps.map (·.1) = bs.map (·.1) ∧ ∀ p ∈ ps, B p.2
  | [], _, .nil => ⟨[], rfl, rfl, fun p h => by cases h⟩
  | x :: xs, _, .cons ⟨y, v, h1, h2, h3⟩ r => by
    obtain ⟨ps, e1, e2, e3⟩ := all2_bm r
    have hy := bmD_inj h1
    subst hy
    subst h2
    exact ⟨(x.1, v) :: ps, by rw [e1]; rfl, by show _ :: _ = _ :: _; rw [e2], fun p hp => (List.mem_cons.mp hp).elim (fun z => by rw [z]; exact h3) (e3 p)⟩
theorem sgn_le (t : Int) : -(2 ^ 64) < sgn t ∧ sgn t < 2 ^ 64 := by
  unfold sgn
  split
  · decide
  · split <;> decide
theorem lift_wD {P : Wg → Prop} : ∀ {us : List D}, (∀ y ∈ us, ∃ x, y = wD x ∧ P x) → ∃ xs : List Wg, us = xs.map wD ∧ (∀ x ∈ xs, P x) ∧ xs.length = us.length
  | [], _ => ⟨[], rfl, (fun x h => by cases h), rfl⟩
  | u :: us, h => by
    obtain ⟨x, hx, px⟩ := h u List.mem_cons_self
    obtain ⟨xs, e, p, l⟩ := lift_wD fun y hy => h y (List.mem_cons_of_mem _ hy)
    exact ⟨x :: xs, by rw [hx, e]; rfl, fun z hz => (List.mem_cons.mp hz).elim (fun q => by rw [q]; exact px) (p z), by rw [List.length_cons, List.length_cons, l]⟩
end L2.Q.Wbm
set_option Elab.async false
set_option linter.all false
set_option maxRecDepth 100000
set_option maxHeartbeats 4000000
namespace L2.Q.Wbm
open PySem PySem.Spec PyProof.Rows L2 L2.Wb L2.Q
theorem f_min2 {i j : Int} {k : D → Bool → Prop} : min2F [.int i, .int j] k = k (.int (if j < i then j else i)) false := rfl
theorem lift_int {P : Int → Prop} : ∀ {us : List D}, (∀ y ∈ us, ∃ x, y = .int x ∧ P x) → ∃ xs : List Int, us = xs.map D.int ∧ (∀ x ∈ xs, P x) ∧ xs.length = us.length
  | [], _ => ⟨[], rfl, (fun x h => by cases h), rfl⟩
  | u :: us, h => by
    obtain ⟨x, hx, px⟩ := h u List.mem_cons_self
    obtain ⟨xs, e, p, l⟩ := lift_int fun y hy => h y (List.mem_cons_of_mem _ hy)
    exact ⟨x :: xs, by rw [hx, e]; rfl, fun z hz => (List.mem_cons.mp hz).elim (fun q => by rw [q]; exact px) (p z), by rw [List.length_cons, List.length_cons, l]⟩
def chD (c : Nat) : D := .str ⟨#[c]⟩
theorem lift_ch {P : Nat → Prop} : ∀ {us : List D}, (∀ y ∈ us, ∃ x, y = chD x ∧ P x) → ∃ xs : List Nat, us = xs.map chD ∧ (∀ x ∈ xs, P x) ∧ xs.length = us.length
  | [], _ => ⟨[], rfl, (fun x h => by cases h), rfl⟩
  | u :: us, h => by
    obtain ⟨x, hx, px⟩ := h u List.mem_cons_self
    obtain ⟨xs, e, p, l⟩ := lift_ch fun y hy => h y (List.mem_cons_of_mem _ hy)
    exact ⟨x :: xs, by rw [hx, e]; rfl, fun z hz => (List.mem_cons.mp hz).elim (fun q => by rw [q]; exact px) (p z), by rw [List.length_cons, List.length_cons, l]⟩
theorem zip_fst : ∀ {qs : List Str} {ss : List Int}, qs.length = ss.length → (qs.zip ss).map (·.1) = qs
  | [], _, _ => rfl
  | q :: qs, [], h => by cases h
  | q :: qs, s :: ss, h => by
    show q :: (qs.zip ss).map (·.1) = _
    rw [zip_fst (Nat.succ.inj h)]
theorem pairs_bm : ∀ (qs : List Str) (ss : List Int), pairsD (qs.map D.str) (ss.map D.int) = (qs.zip ss).map bmD
  | [], _ => rfl
  | q :: qs, [] => rfl
  | q :: qs, s :: ss => by
    show D.tup [.str q, .int s] :: pairsD (qs.map D.str) (ss.map D.int) = _
    rw [pairs_bm qs ss]; rfl
theorem few_ok {l : Int} {m : Nat} (l0 : 0 ≤ l) (h : (m = 1 ∧ l ≤ 9) ∨ (m = 2 ∧ l ≤ 9) ∨ (m = 3 ∧ l ≤ 3)) : (2 * l + 1) ^ m ≤ 400 := by
  have t : ∀ n : Nat, n ≤ 9 → ((2 * (n : Int) + 1) ^ 1 ≤ 400 ∧ (2 * (n : Int) + 1) ^ 2 ≤ 400 ∧ (n ≤ 3 → (2 * (n : Int) + 1) ^ 3 ≤ 400)) := by decide +kernel
  obtain ⟨n, rfl⟩ := Int.eq_ofNat_of_zero_le l0
  rcases h with ⟨rfl, h⟩ | ⟨rfl, h⟩ | ⟨rfl, h⟩
  · exact (t n (by omega)).1
  · exact (t n (by omega)).2.1
  · exact (t n (by omega)).2.2 (by omega)
def abc : Str := "abcdefghijklmnopqrstuvwxyz"
theorem abc_at {v : Int} (h0 : 0 ≤ v) (h1 : v < 26) : atI abc.cps.toList v = some (97 + v.toNat) := by
  have t : ∀ n : Nat, n < 26 → atI abc.cps.toList (n : Int) = some (97 + n) := by decide +kernel
  obtain ⟨n, rfl⟩ := Int.eq_ofNat_of_zero_le h0
  exact t n (by omega)
theorem abc_lowQ : ∀ c ∈ abc.cps.toList, isLow c = true := by decide +kernel
theorem strsOf_ch (cs : List Nat) : strsOf (cs.map chD) = some (cs.map fun c => (⟨#[c]⟩ : Str)) := by
  rw [show cs.map chD = (cs.map fun c => (⟨#[c]⟩ : Str)).map D.str by rw [List.map_map]; rfl]
  exact strsOf_map _
theorem join_chQ (cs : List Nat) : Txt.join ("" : Str) (cs.map fun c => (⟨#[c]⟩ : Str)) = ⟨cs.toArray⟩ := by
  have h := SX.join_S [] (cs.map fun c => [c])
  have e1 : (cs.map fun c => [c]).map SX.S = cs.map fun c => (⟨#[c]⟩ : Str) := by rw [List.map_map]; rfl
  have e2 : ∀ l : List Nat, TL.joinL [] (l.map fun c => [c]) = l := by
    intro l
    induction l with
    | nil => rfl
    | cons a r ih =>
      cases r with
      | nil => rfl
      | cons b r =>
        show [a] ++ ([] ++ TL.joinL [] ((b :: r).map fun c => [c])) = a :: b :: r
        rw [ih]
        rfl
  rw [e1, e2] at h
  exact h
theorem name_ofQ {cs : List Nat} (h1 : 1 ≤ cs.length) (h2 : cs.length ≤ 8) (h3 : ∀ c ∈ cs, isLow c = true) : isNameS ⟨cs.toArray⟩ = true := by
  unfold isNameS
  have e : (⟨cs.toArray⟩ : Str).length = cs.length := by simp [Str.length]
  rw [e, decide_eq_true h1, decide_eq_true h2]
  simp only [Bool.true_and]
  rw [List.all_eq_true]
  intro c hc
  exact h3 c (by simpa using hc)
theorem ch_sumQ (cs : List Nat) : ((cs.map fun c => (⟨#[c]⟩ : Str)).map (·.length)).sum = cs.length := by
  induction cs with
  | nil => rfl
  | cons a r ih => simp only [List.map_cons, List.sum_cons, ih, List.length_cons]; show 1 + _ = _; omega
theorem isLow_97 {k : Nat} (h : k < 26) : isLow (97 + k) = true := by
  unfold isLow
  rw [decide_eq_true (by omega), decide_eq_true (by omega)]; rfl
/-- the names' k-th -/
def nmQ (B : List Nat) (at_ : Nat) (sh st : Int) (k : Nat) : Str := ⟨(B.set at_ (97 + ((sh + st * k) % 26).toNat)).toArray⟩
def stepsOk (st : Int) : Prop := st = 1 ∨ st = 3 ∨ st = 5 ∨ st = 7 ∨ st = 9 ∨ st = 11
theorem nm_name {B : List Nat} {at_ : Nat} {sh st : Int} {k : Nat} (h1 : 1 ≤ B.length) (h2 : B.length ≤ 8) (h3 : ∀ c ∈ B, isLow c = true) : isNameS (nmQ B at_ sh st k) = true := by
  refine name_ofQ (by rw [List.length_set]; exact h1) (by rw [List.length_set]; exact h2) fun c hc => ?_
  rcases List.mem_or_eq_of_mem_set hc with h | h
  · exact h3 c h
  · rw [h]; exact isLow_97 (by omega)
theorem nm_nodup {B : List Nat} {at_ : Nat} {sh st : Int} {m : Nat} (ha : at_ < B.length) (hs : stepsOk st) (hm : m ≤ 26) : ((List.range m).map (nmQ B at_ sh st)).Nodup := by
  rw [List.Nodup, List.pairwise_map]
  refine List.Pairwise.imp_of_mem (R := fun a b => a < b) (fun {a b} _ hb hab e => ?_) List.pairwise_lt_range
  have hb' : b < m := List.mem_range.mp hb
  have e1 : B.set at_ (97 + ((sh + st * a) % 26).toNat) = B.set at_ (97 + ((sh + st * b) % 26).toNat) := by
    have := congrArg (fun x : Str => x.cps.toList) e
    simpa [nmQ] using this
  have e2 := congrArg (fun l : List Nat => l[at_]?) e1
  simp only [List.getElem?_set_self ha] at e2
  have e3 : ((sh + st * a) % 26).toNat = ((sh + st * b) % 26).toNat := by
    have := Option.some.inj e2; omega
  rcases hs with rfl | rfl | rfl | rfl | rfl | rfl <;> omega
theorem map_range_snoc {α : Type} (f : Nat → α) (i : Nat) : (List.range (i + 1)).map f = (List.range i).map f ++ [f i] := by
  rw [List.range_succ, List.map_append]; rfl
theorem cutD_take {ds : List D} {k : Int} (h0 : 0 ≤ k) : cutD ds none (some k) = ds.take k.toNat := by
  unfold cutD
  rw [HT.sIx_none, show HT.sIx ds.length ds.length (some k) = min k.toNat ds.length by
    obtain ⟨n, rfl⟩ := Int.eq_ofNat_of_zero_le h0
    rw [HT.sIx_nat, Int.toNat_natCast], List.drop_zero, Nat.sub_zero]
  by_cases c : k.toNat ≤ ds.length
  · rw [Nat.min_eq_left c]
  · rw [Nat.min_eq_right (by omega), List.take_length, List.take_of_length_le (by omega)]
theorem cutD_drop {ds : List D} {k : Int} (h0 : 0 ≤ k) : cutD ds (some k) none = ds.drop k.toNat := by
  unfold cutD
  rw [HT.sIx_none, show HT.sIx ds.length 0 (some k) = min k.toNat ds.length by
    obtain ⟨n, rfl⟩ := Int.eq_ofNat_of_zero_le h0
    rw [HT.sIx_nat, Int.toNat_natCast]]
  by_cases c : k.toNat ≤ ds.length
  · rw [Nat.min_eq_left c, List.take_of_length_le (by rw [List.length_drop]; omega)]
  · rw [Nat.min_eq_right (by omega), List.drop_length, List.drop_of_length_le (by omega), List.take_nil]
end L2.Q.Wbm
set_option Elab.async false
set_option linter.all false
set_option maxRecDepth 100000
set_option maxHeartbeats 4000000
namespace L2.Q
open PySem PySem.Spec PyProof.Rows L2 L2.Wb
end L2.Q
set_option Elab.async false
set_option linter.all false
set_option maxRecDepth 100000
set_option maxHeartbeats 4000000
namespace L2.K01
open PySem PySem.Spec PyProof.Rows L2.Wb
theorem canAll {ds : List PyData} (h : ∀ d ∈ ds, d.canLay0 = true) : PyData.canLayAll0 ds = true := by
  induction ds with
  | nil => rfl
  | cons a r ih =>
    show (a.canLay0 && PyData.canLayAll0 r) = true
    rw [h a List.mem_cons_self, ih fun d hd => h d (List.mem_cons_of_mem _ hd)]
    rfl
theorem depthAll_le {n : Nat} {ds : List PyData} (h : ∀ d ∈ ds, d.depth ≤ n) : PyData.depthAll ds ≤ n := by
  induction ds with
  | nil => exact Nat.zero_le _
  | cons a r ih =>
    show max a.depth (PyData.depthAll r) ≤ n
    exact Nat.max_le.mpr ⟨h a List.mem_cons_self, ih fun d hd => h d (List.mem_cons_of_mem _ hd)⟩
end L2.K01
set_option Elab.async false
set_option linter.all false
set_option maxRecDepth 100000
set_option maxHeartbeats 4000000
namespace L2.Q
open PySem PySem.Spec PyProof.Rows L2 L2.Wb
theorem LS.same {st gl cl : Addr} {n : Nat} {H H' : Hp} (h : LS st gl cl n H) (e : Same H H') : LS st gl cl n H' := by
  obtain ⟨⟨d, gs, cs, t, h1, h2, h3, h⟩, ne⟩ := h
  exact ⟨⟨d, gs, cs, t, e _ _ h1, e _ _ h2, e _ _ h3, h⟩, ne⟩
/-- a new object is none of the state's -/
theorem LS.new {st gl cl : Addr} {n : Nat} {H : Hp} (h : LS st gl cl n H) {b : Addr} (hb : H b = none) : ¬ N3 st gl cl b := fun z => by
  obtain ⟨o, e⟩ := h.has z
  rw [hb] at e; cases e
def spBegun (K : PySem.W.Frag) : Sp := fun vs H Q _ => ∃ (a : Addr) (ns : List Int), vs = [.ref a] ∧ SqL K H a (ns.map V.int) ∧ ns.length ≤ 63 ∧ ∀ st gl cl H', Same H H' → H st = none → H gl = none → H cl = none → LS st gl cl 0 H' → Q (.ref st) H'
structure TxtL (K : PySem.W.Frag) (mg : Str → Option Value) : Prop where
  nabs : mg "abs" = none
  nlen : mg "len" = none
def spNext : Sp := fun vs H Q _ => ∃ (st gl cl : Addr) (n : Nat) (size : Int), vs = [.ref st, .int size] ∧ LS st gl cl n H ∧ n ≤ 1000000 ∧ 0 < size ∧ size ≤ 1000000 ∧
  ∀ r H', 0 ≤ r → r < size → LS st gl cl (n + 1) H' → Kept (N3 st gl cl) H H' → Q (.int r) H'
section
variable {P : Program} {w : World} {K : PySem.W.Frag} {mg : Str → Option Value} {base : Heap}
theorem ints_dp {K : PySem.W.Frag} {H : Hp} : ∀ gs : List Int, DpAll K H (gs.map V.int) (gs.map PyData.int)
  | [] => .nil
  | g :: r => .cons (.int g) (ints_dp r)
theorem ints_shaped (gs : List Int) : PySem.SeqAt.shaped (.list (gs.map PyData.int)) = true := by
  unfold PySem.SeqAt.shaped
  rw [Bool.and_eq_true]
  refine ⟨L2.K01.canAll fun d hd => ?_, decide_eq_true ?_⟩
  · obtain ⟨i, _, rfl⟩ := List.mem_map.mp hd; rfl
  · have : PyData.depthAll (gs.map PyData.int) ≤ 0 := L2.K01.depthAll_le fun d hd => by obtain ⟨i, _, rfl⟩ := List.mem_map.mp hd; exact Nat.le_refl _
    show PyData.depthAll _ + 1 ≤ 64
    omega
theorem eqv_nil (gs : List Int) : PyData.eqv (.list (gs.map PyData.int)) (.list []) = gs.isEmpty := by cases gs <;> rfl
theorem dg {H : Hp} {st : Addr} {kvs : List (Key × V)} {x : Str} {v : V} (h : H st = some (.dK kvs)) (e : valV kvs (.inr x) = some v) : DGet H st (.str x) (some v) := by
  rw [← e]
  exact DGet.k (k := .inr x) h
theorem v1 {d t : Int} {gl cl : Addr} : valV (sk d gl cl t) (.inr "digits") = some (.int d) := rfl
theorem v2 {d t : Int} {gl cl : Addr} : valV (sk d gl cl t) (.inr "great") = some (.ref gl) := rfl
theorem v3 {d t : Int} {gl cl : Addr} : valV (sk d gl cl t) (.inr "cells") = some (.ref cl) := rfl
theorem v4 {d t : Int} {gl cl : Addr} : valV (sk d gl cl t) (.inr "turn") = some (.int t) := rfl
theorem p1 {d t d' : Int} {gl cl : Addr} : putK (sk d gl cl t) (.inr "digits") (.int d') = sk d' gl cl t := rfl
theorem p4 {d t t' : Int} {gl cl : Addr} : putK (sk d gl cl t) (.inr "turn") (.int t') = sk d gl cl t' := rfl
theorem dp1 {H : Hp} {st gl cl : Addr} {d t d' : Int} (h : H st = some (.dK (sk d gl cl t))) : DPut H st (.str "digits") (.int d') (upd H st (.dK (sk d' gl cl t))) := by
  have := DPut.k (k := .inr "digits") (v := .int d') h (by decide +kernel : (4 : Nat) < sizeLine)
  rw [p1] at this
  exact this
theorem dp4 {H : Hp} {st gl cl : Addr} {d t t' : Int} (h : H st = some (.dK (sk d gl cl t))) : DPut H st (.str "turn") (.int t') (upd H st (.dK (sk d gl cl t'))) := by
  have := DPut.k (k := .inr "turn") (v := .int t') h (by decide +kernel : (4 : Nat) < sizeLine)
  rw [p4] at this
  exact this
theorem atI_at {α : Type} {xs : List α} {i : Int} (h0 : 0 ≤ i) (h1 : i < xs.length) : ∃ v, atI xs i = some v ∧ xs[i.toNat]? = some v := by
  have h : i.toNat < xs.length := by omega
  refine ⟨xs[i.toNat], ?_, List.getElem?_eq_getElem h⟩
  have := atI_nat (List.getElem?_eq_getElem h)
  rwa [Int.toNat_of_nonneg h0] at this
def rMd : R2 := rI (fun _ j => 0 < j) fun i j => .int (i % j)
def rPw : R2 := rI CPow fun i j => .int (i ^ j.toNat)
def rAd : R2 := rI0 fun i j => .int (i + j)
def rMl : R2 := rI CMul fun i j => .int (i * j)
def rFd : R2 := rI CDiv fun i j => .int (i / j)
def tTail : TS := tSeq (tAsg (tOp rMd (tOp rPw (tOp rAd (tOp rMd (tVar 4) (tC (.int 2147483629))) (tOp rMl (tC (.int 40009)) (tVar 3))) (tC (.int 3))) (tC (.int 2147483647))) (gName 5))
  (tRet (tOp rMd (tOp rFd (tOp rMd (tOp rPw (tOp rAd (tVar 5) (tOp rMl (tC (.int 104729)) (tVar 3))) (tC (.int 5))) (tC (.int 2147483629))) (tC (.int 11))) (tVar 1)))
theorem small_pow {x y : Int} (h0 : 0 ≤ x) (h1 : x < 3000000000) (h2 : 0 ≤ y) (h3 : y ≤ 1000000000000) (e : Int) (he : 0 ≤ e) (he2 : e ≤ 10) : CPow (x + y) e := ⟨he, by omega, by omega⟩
theorem tail_run {D : Ends} {H : Hp} {a f : Option V} {size t c : Int} (hs : 0 < size) (ht0 : 0 ≤ t) (ht : t ≤ 1000001) (k : ∀ r, 0 ≤ r → r < size → D.rt (.int r) H) : tTail D [a, some (.int size), f, some (.int t), some (.int c), none] H := by
  have m1 : 0 ≤ c % 2147483629 := Int.emod_nonneg _ (by decide)
  have m2 : c % 2147483629 < 2147483629 := Int.emod_lt_of_pos _ (by decide)
  generalize hm : c % 2147483629 = c1 at m1 m2
  refine ⟨_, rfl, _, _, rfl, rfl, show (0 : Int) < 2147483629 by decide, _, rfl, _, _, rfl, rfl, .inl ⟨by decide, by decide⟩, _, _, rfl, rfl, _, _, rfl, rfl, ?_, _, _, rfl, rfl, show (0 : Int) < 2147483647 by decide, ?_⟩
  · rw [hm]; exact small_pow m1 (by omega) (by omega) (by omega) 3 (by decide) (by decide)
  · have m3 : 0 ≤ (c % 2147483629 + 40009 * t) ^ Int.toNat 3 % 2147483647 := Int.emod_nonneg _ (by decide)
    have m4 : (c % 2147483629 + 40009 * t) ^ Int.toNat 3 % 2147483647 < 2147483647 := Int.emod_lt_of_pos _ (by decide)
    refine ⟨_, rfl, _, rfl, _, _, rfl, rfl, .inl ⟨by decide, by decide⟩, _, _, rfl, rfl, _, _, rfl, rfl, small_pow m3 (Int.lt_trans m4 (by decide)) (by omega) (by omega) 5 (by decide) (by decide), _, _, rfl, rfl, show (0 : Int) < 2147483629 by decide, _, _, rfl, rfl, ⟨by decide, by decide⟩, _, rfl, _, _, rfl, rfl, hs, ?_⟩
    exact k _ (Int.emod_nonneg _ (by omega)) (Int.emod_lt_of_pos _ hs)
theorem ne_test {K : PySem.W.Frag} {σ : L2.St} {H : Hp} {G : Bool → Hp → Prop} {st gl cl b : Addr} {d t : Int} {x : Str} {gs : List Int} (h0 : σ[0]? = some (some (.ref st))) (a1 : H st = some (.dK (sk d gl cl t))) (ev : valV (sk d gl cl t) (.inr x) = some (.ref b)) (a2 : H b = some (.lst (gs.map V.int))) (k : ∀ H2, Same H H2 → G (!gs.isEmpty) H2) :
    tTest (tOp (rNeD K) (tDGet (tVar 0) (tC (.str x))) (tLst tNil)) σ H G := by
  refine ⟨_, h0, st, _, rfl, dg a1 ev, (by decide +kernel : (0 : Nat) ≤ sizeLine), fun p hp => ⟨.list (gs.map PyData.int), .list [], ?_, ?_, ints_shaped gs, by decide, ?_⟩⟩
  · exact .lst (SqL.of (Same.new hp _ _ a2)) (ints_dp gs)
  · exact .lst (SqL.of upd_same) .nil
  · refine ⟨_, rfl, ?_⟩
    rw [eqv_nil]
    exact k _ (Same.new hp)
theorem loop_test {K : PySem.W.Frag} {σ : L2.St} {H : Hp} {G : Bool → Hp → Prop} {st gl cl : Addr} {d t : Int} {gs : List Int} (h0 : σ[0]? = some (some (.ref st))) (a1 : H st = some (.dK (sk d gl cl t))) (a2 : H gl = some (.lst (gs.map V.int))) (k : ∀ H2, Same H H2 → G (d == 0 && !gs.isEmpty) H2) :
    tAnd (tTest (tOp rEq (tDGet (tVar 0) (tC (.str "digits"))) (tC (.int 0)))) (tTest (tOp (rNeD K) (tDGet (tVar 0) (tC (.str "great"))) (tLst tNil))) σ H G := by
  refine ⟨_, h0, st, _, rfl, dg a1 v1, rfl, _, rfl, ?_⟩
  rw [dec_int]
  cases c0 : d == 0
  · refine iteF ?_
    have := k H (Same.refl _)
    rw [c0] at this
    exact this
  · refine iteT ?_
    refine ne_test h0 a1 v2 a2 fun H2 s => ?_
    have := k H2 s
    rw [c0] at this
    exact this
/-- the promise as the readings want it -/
theorem next_of {P : Program} {w : World} {K : PySem.W.Frag} {mg : Str → Option Value} {base : Heap} {k : Nat} {f : Addr} {fd : FuncData} (C : Cn) (F : FnOk P w K mg base (L2.CX P w) k f fd ["state", "size"] spNext) : FnOk P w K mg base (L2.CX P w) k f fd ["state", "size"] (spOf C L2.Q.Wbm.p_law_next) :=
  F.imp fun vs H Q E ⟨m, N, ds, n, R, Y, std, n3, ⟨gl, cl, hm⟩, ls, r, hp, hq, hx⟩ => by
    obtain ⟨size, rfl, hn, h0, h1, hR⟩ := hp
    subst hm
    obtain ⟨v, v', rfl, r1, r2⟩ := r.two
    cases r1
    cases r2
    have nt : ∀ b o, isTb C b ∨ isCd b o → H b = some o → ¬ N3 C.sa gl cl b := fun b o q z w => by
      obtain ⟨⟨d, gs, cs, t, h1, h2, h3, _⟩, _⟩ := ls.1
      have no : (∃ ps, o = .tbl ps) ∨ ∃ q, o = LamX.CodeO b q := by
        rcases q with ⟨p, hp, e⟩ | ⟨q, e⟩
        · obtain ⟨ps, g, _⟩ := ls.2 p hp
          rw [e, z] at g
          cases g
          exact .inl ⟨_, rfl⟩
        · exact .inr ⟨q, e⟩
      rcases w with w | w | w
      · rw [w, h1] at z; cases z
        rcases no with ⟨_, e⟩ | ⟨_, e⟩ <;> cases e
      · rw [w, h2] at z; cases z
        rcases no with ⟨_, e⟩ | ⟨_, e⟩ <;> cases e
      · rw [w, h3] at z; cases z
        rcases no with ⟨_, e⟩ | ⟨_, e⟩ <;> cases e
    exact ⟨C.sa, gl, cl, n, size, rfl, ls.1, hn, h0, h1, fun x H' x0 x1 ls' kp => hq (.int x) (.int x) false (n + 1) H' (fun b o nb z => kp b o (fun w => nb (.inl w)) z) ⟨ls', tabs_same ls.2 fun b o q z => kp b o (nt b o q z) z⟩ (.int x) (hR x x0 x1)⟩
end
end L2.Q
set_option Elab.async false
set_option linter.all false
set_option maxRecDepth 100000
set_option maxHeartbeats 4000000
namespace L2.Q
open PySem PySem.Spec PyProof.Rows L2 L2.Wb
theorem pss_any {X : Cx} {b : List Stmt} : PSs X b (fun D σ H => ∃ t, PSs X b t ∧ t D σ H) := ⟨fun pins s σ H D I ⟨_, h, q⟩ => h.run pins s σ H D I q⟩
def spLawT (K : PySem.W.Frag) (TT : List NdefX.NTab) : Sp := fun vs H Q _ => ∃ (a : Addr) (ns : List Int), vs = [.ref a] ∧ SqL K H a (ns.map V.int) ∧ ns.length ≤ 63 ∧ NdefX.TabsN TT H ∧ ∀ H', Q (.bl true) H'
def noX : Str → List Str → List D → Env → Prop := fun _ _ _ _ => False
theorem q_top {P : Program} {w : World} {K : PySem.W.Frag} {mg : Str → Option Value} {base : Heap} {y : Str} {st : Stmt} {f fB : Addr} {fd dB : FuncData} {N : List Str} {k : Nat} {rest : List Stmt} {p1 p2 p3 p4 p5 : Pos} {TT : List NdefX.NTab} (cA : Str → Addr)
    (F : Fun K "law" "law" st f fd) (S : FnScope ("script" :: y :: N) ["script"] (defScope st)) (hd : defBody st = .Assign [.Name y p1] (.Call (.Name "_law_begun" p2) [.Name "script" p3] [] p4) p5 :: rest)
    (B : FnOk P w K mg base CX0 1 fB dB ["script"] (spBegun K)) (gB : mg "_law_begun" = some (.ref fB)) (kB : PySem.W.keepIn K (.ref fB) = true) (bB : Binds K dB ["script"] []) (hk : 1 ≤ k)
    (glo : ∀ (cdv : Value) (A : Around) (outer : List PySem.Env) (s : Shared) (H : Hp) (E : XK), Gl (cxOf (L2.CX P w) P w K mg base ("script" :: y :: N) "law" (defScope st) f cdv A outer s H E) "_law_begun")
    (hs : ∀ (cdv : Value) (A : Around) (outer : List PySem.Env) (s : Shared) (H : Hp) (E : XK), starEach [.Name "script" p3] (cxOf (L2.CX P w) P w K mg base ("script" :: y :: N) "law" (defScope st) f cdv A outer s H E).env = (false, eval (.Name "script" p3) (cxOf (L2.CX P w) P w K mg base ("script" :: y :: N) "law" (defScope st) f cdv A outer s H E).env) :: starEach [] (cxOf (L2.CX P w) P w K mg base ("script" :: y :: N) "law" (defScope st) f cdv A outer s H E).env)
    (hl : Vis (defScope st) "script") (hy : Loc (defScope st) y)
    (hsw : ∀ (cdv : Value) (A : Around) (outer : List PySem.Env) (s : Shared) (H : Hp) (E : XK), swapsWith (.Call (.Name "_law_begun" p2) [.Name "script" p3] [] p4) (some (.Name y p1)) p5.line (cxOf (L2.CX P w) P w K mg base ("script" :: y :: N) "law" (defScope st) f cdv A outer s H E).env = pure false)
    (body : ∀ (sa gl cl : Addr) (H1 : Hp) (std : ∀ b, N3o ⟨K, cA, sa, TT⟩ (some (sa, gl, cl)) b → ∃ o, H1 b = some o ∧ NoTup o) (n3 : ∀ b, N3o ⟨K, cA, sa, TT⟩ (some (sa, gl, cl)) b → N3o ⟨K, cA, sa, TT⟩ (some (sa, gl, cl)) b) (ms : ∃ gl' cl', (some (sa, gl, cl) : Dr) = some (sa, gl', cl')) (cdv : Value) (hcv : fd.code = cdv) (A : Around) (outer : List PySem.Env) (s : Shared) (H : Hp) (E : XK) (a : Addr),
      (A.deeper (envOfC "law" (defScope st) s.heap.objs.size f cdv)).guards = some [] → Room k (A.deeper (envOfC "law" (defScope st) s.heap.objs.size f cdv)) → Takes (cxOf (L2.CX P w) P w K mg base ("script" :: y :: N) "law" (defScope st) f cdv A outer s H E) (wOf (mkTh ⟨K, cA, sa, TT⟩ (some (sa, gl, cl)) (N3o ⟨K, cA, sa, TT⟩ (some (sa, gl, cl))) H1 std n3 ms noX)) →
      ∃ g, PSs (cxOf (L2.CX P w) P w K mg base ("script" :: y :: N) "law" (defScope st) f cdv A outer s H E) rest (tOfS (mkTh ⟨K, cA, sa, TT⟩ (some (sa, gl, cl)) (N3o ⟨K, cA, sa, TT⟩ (some (sa, gl, cl))) H1 std n3 ms noX) g) ∧
      g { nx := fun _ => False, rt := fun d _ _ => d = .bl true } ⟨some (.raw (.ref a), false) :: some (.st, false) :: List.replicate N.length none, 0⟩) : WG P w K mg base (L2.CX P w) (k + 1) f fd ["script"] (spLawT K TT) := by
  refine fun_wgC F S (fun vs H Q E h => ?_) (fun cdv hcv A outer s H vs Q E hgu hr h => ?_)
  · obtain ⟨_, _, rfl, _⟩ := h; rfl
  · obtain ⟨a, ns, rfl, hsq, hlen, htb, kq⟩ := h
    have hg2 : (A.deeper (envOfC "law" (defScope st) s.heap.objs.size f cdv)).guards = some [] := hgu
    rw [hd]
    refine ⟨_, pss_cons (ps_set (i := 1) S.nd rfl hy (pe_call B (hr.mono hk) (glo cdv A outer s H E) gB kB bB .nil pass0 (pa_cons (pe_var (i := 0) rfl hl (by decide) (by decide)) pa_nil (hs cdv A outer s H E)) (by decide) (hs cdv A outer s H E) rfl) (hsw cdv A outer s H E)) pss_any, ?_⟩
    refine ⟨V.ref a, rfl, a, ns, rfl, hsq, hlen, fun sa gl cl H1 sm h1 h2 h3 ls => ?_⟩
    have htb1 : NdefX.TabsN TT H1 := htb.ext fun b o e => sm b o e
    have ls2 : LSo ⟨K, cA, sa, TT⟩ (some (sa, gl, cl)) 0 H1 := ⟨ls, htb1⟩
    have std : ∀ b, N3o ⟨K, cA, sa, TT⟩ (some (sa, gl, cl)) b → ∃ o, H1 b = some o ∧ NoTup o := fun b hb => ls2.hasN hb
    have n3 : ∀ b, N3o ⟨K, cA, sa, TT⟩ (some (sa, gl, cl)) b → N3o ⟨K, cA, sa, TT⟩ (some (sa, gl, cl)) b := fun b hb => hb
    have ms : ∃ gl' cl', (some (sa, gl, cl) : Dr) = some (sa, gl', cl') := ⟨gl, cl, rfl⟩
    have tk : Takes (cxOf (L2.CX P w) P w K mg base ("script" :: y :: N) "law" (defScope st) f cdv A outer s H E) (wOf (mkTh ⟨K, cA, sa, TT⟩ (some (sa, gl, cl)) (N3o ⟨K, cA, sa, TT⟩ (some (sa, gl, cl))) H1 std n3 ms noX)) := Takes.imp (takes_of (E := E) rfl rfl rfl rfl) fun cls od σ H' ⟨e, c, ks, es, E', xr, z⟩ => z.elim
    obtain ⟨g, hP, hg⟩ := body sa gl cl H1 std n3 ms cdv hcv A outer s H E a hg2 hr tk
    refine ⟨_, hP, ?_⟩
    have E0 : ERep (mkTh ⟨K, cA, sa, TT⟩ (some (sa, gl, cl)) (N3o ⟨K, cA, sa, TT⟩ (some (sa, gl, cl))) H1 std n3 ms noX) (start (("script" : Str) :: y :: N) [V.ref a]) H1 ⟨initS (("script" : Str) :: y :: N).length [.raw (.ref a)], 0⟩ := start_er ls2 (.cons (.raw _) .nil)
    have E1 := (E0.put (i := 1) (v := .ref sa) (d := .st) (by show 1 < (initS (("script" : Str) :: y :: N).length [.raw (.ref a)]).length; unfold initS; simp) .st).1
    refine ⟨_, _, E1, hg, ⟨fun σ' H' e' l E' h' => h'.elim, fun _ _ _ _ _ h' => h'.elim, fun _ _ _ _ _ h' => h'.elim, fun v d fr H' n' q h' => ?_⟩⟩
    subst h'
    have hv := q.val
    cases fr with
    | false => cases hv; exact kq _
    | true => obtain ⟨_, _, _, ow⟩ := hv; cases ow
/-- nothing leaves the law -/
theorem wg0 {TT : List NdefX.NTab} {P : Program} {w : World} {K : PySem.W.Frag} {mg : Str → Option Value} {base : Heap} {k : Nat} {f : Addr} {fd : FuncData} {ps : List Str} (G : WG P w K mg base (L2.CX P w) k f fd ps (spLawT K TT)) : WG P w K mg base CX0 k f fd ps (spLawT K TT) :=
  ⟨G.wlen, fun A out s H ar us vs Q E hgu hr he hb hv h => codeAny_mono (G.wrun A out s H ar us vs Q E0 hgu hr he hb hv h) fun r s' q => by
    match r, q with
    | .error e, q => obtain ⟨_, _, _, _, _, _, _, _, _, _, _, _, z⟩ := q; exact z
    | .ok (.ret u), q => exact q
    | .ok .next, q => exact q
    | .ok .brk, q => exact q
    | .ok .cont, q => exact q⟩
end L2.Q
set_option Elab.async false
set_option linter.all false
set_option maxRecDepth 100000
set_option maxHeartbeats 4000000
namespace L2.Q
open PySem PySem.Spec PyProof.Rows L2 L2.Wb He
abbrev AlQ : Type := AlW × List (Option (List (Option (Str × Int))))
def obsQ (fa : List Fct) (fn : List DefD) (fc : List CloD) (ts : List Tab) (K : PySem.W.Frag) : AlQ := (obsW fa fn fc K, ts.map fun t => dicW K (t.1 K))
def valQ (fn : List DefD) (fc : List CloD) (ts : List Tab) (w : World) : AlQ := (valW fn fc, ts.map fun t => some (keysIn w.params t.2))
def SaysQ (fa : List Fct) (fn : List DefD) (fc : List CloD) (ts : List Tab) (w : World) (K : PySem.W.Frag) : Prop := obsQ fa fn fc ts K = valQ fn fc ts w
section
variable {fa : List Fct} {fn : List DefD} {fc : List CloD} {ts : List Tab} {w : World} {K : PySem.W.Frag}
theorem SaysQ.d (c : SaysQ fa fn fc ts w K) : SaysW fa fn fc K := congrArg (fun z : AlQ => z.1) c
theorem SaysQ.tab (c : SaysQ fa fn fc ts w K) (i : Nat) {t : Tab} (h : ts[i]? = some t := by rfl) : ∃ es n, L2.KDict K w (t.1 K) es n := by
  have e : ts.map (fun t => dicW K (t.1 K)) = ts.map fun t => some (keysIn w.params t.2) := congrArg (fun z : AlQ => z.2) c
  have e2 : (ts.map fun t => dicW K (t.1 K))[i]? = (ts.map fun t => some (keysIn w.params t.2))[i]? := by rw [e]
  rw [List.getElem?_map, List.getElem?_map, h] at e2
  exact dicW_ok (Option.some.inj e2)
end
theorem kdct_of {K : PySem.W.Frag} {w : World} {a : Addr} {kvs : List (Str × Dv)} (h : ∃ es n, L2.KDict K w a es n) (v : valsB K a kvs = true) {q : Str × Dv} (hq : q ∈ kvs) : KDct K w a q.1 (q.2.v K) := by
  obtain ⟨es, n, h1, h2, _⟩ := h
  obtain ⟨u, e1, e2⟩ := valsB_ok v hq
  exact ⟨es, n, u, h1, h2, e1, e2⟩
def tTab (x : Str) (kvs : List (Str × Dv)) : Fct := fun K => valsB K (ga K x) kvs
def relsB : List V → List Value → Bool
  | [], [] => true
  | v :: vs, u :: us => relB v u && relsB vs us
  | _, _ => false
theorem relsB_ok : ∀ {vs : List V} {us : List Value}, relsB vs us = true → Vals vs us
  | [], [], _ => .nil
  | [], _ :: _, h => by cases h
  | _ :: _, [], h => by cases h
  | v :: vs, u :: us, h => .cons (relB_ok (ba h).1) (relsB_ok (ba h).2)
def tTupS (x : Str) (zs : List Str) : Fct := fun K => match K.lookup (ga K x) with
  | some ⟨.type c, _, .seq its _, _⟩ => decide (c = "tuple") && (decide (its.size ≤ 1000) && relsB (zs.map V.str) its.toList)
  | _ => false
theorem tupS_ok {K : PySem.W.Frag} {x : Str} {zs : List Str} (h : tTupS x zs K = true) (H : Hp) : SqT K H (ga K x) (zs.map V.str) := by
  unfold tTupS at h
  split at h
  · rename_i c dx its n sl e
    obtain ⟨h1, h⟩ := ba h
    obtain ⟨h2, h3⟩ := ba h
    have e1 : c = "tuple" := of_decide_eq_true h1
    subst e1
    exact .inr ⟨_, its, n, e, rfl, rfl, Nat.le_trans (of_decide_eq_true h2) (by decide +kernel), relsB_ok h3⟩
  · cases h
theorem dp_strs {K : PySem.W.Frag} {H : Hp} : ∀ zs : List Str, DpAll K H (zs.map V.str) (toPyA (zs.map D.str))
  | [] => .nil
  | z :: zs => .cons (.str z) (dp_strs zs)
theorem tupS_dp {K : PySem.W.Frag} {x : Str} {zs : List Str} (h : tTupS x zs K = true) (H : Hp) : Dp K H (.ref (ga K x)) (.tuple (toPyA (zs.map D.str))) := .tup (tupS_ok h H) (dp_strs zs)
end L2.Q
set_option Elab.async false
set_option linter.all false
set_option maxRecDepth 100000
set_option maxHeartbeats 4000000
namespace L2.Wb
open PySem PySem.Spec PyProof.Rows L2
def ItrX (t : Bool) (h : Heap) (it a : Addr) (i : Nat) : Prop := match t with
  | true => h.IsTupleIter it a i
  | false => h.IsListIter it a i
theorem ItrX.at {t : Bool} {h h' : Heap} {it a : Addr} {i : Nat} (e : ItrX t h it a i) (k : ∀ o, h.get? it = some o → h'.get? it = some o) : ItrX t h' it a i := by
  cases t
  · exact Heap.IsListIter.at e fun o q => k o q
  · exact Heap.IsTupleIter.at e fun o q => k o q
end L2.Wb
set_option Elab.async false
set_option linter.all false
set_option maxRecDepth 100000
set_option maxHeartbeats 4000000
namespace L2.Q
open PySem PySem.Spec PyProof.Rows L2 L2.Wb
end L2.Q
set_option Elab.async false
set_option linter.all false
set_option maxRecDepth 100000
set_option maxHeartbeats 4000000
namespace L2.Q
open PySem PySem.Spec PyProof.Rows L2 L2.Wb
end L2.Q
set_option Elab.async false
set_option linter.all false
set_option maxRecDepth 100000
set_option maxHeartbeats 4000000
namespace L2.Q
open PySem PySem.Spec PyProof.Rows L2 L2.Wb He
/-- where the default of x's argument y stands -/
def nilA (x y : Str) (K : PySem.W.Frag) : Addr := match K.lookup (ga K x) with
  | some o => match o.data with
    | .func fd => match fd.kwdefaults with
      | .ref d => match PySem.W.nsIn K d y with
        | some (some (.ref a)) => a
        | _ => 0
      | _ => 0
    | _ => 0
  | none => 0
def tNil (x y : Str) : Fct := fun K => match K.lookup (nilA x y K) with
  | some o => (match o.cls with
    | .type n => n == "tuple"
    | _ => false) && match o.data with
    | .seq its _ => its.size == 0
    | _ => false
  | none => false
end L2.Q
set_option Elab.async false
set_option linter.all false
set_option maxRecDepth 100000
set_option maxHeartbeats 4000000
namespace L2.Wb
open PySem PySem.Spec PyProof.Rows L2 He
/-- what is seen when the law is called: the script, the empty tables -/
def begH (a : Addr) (us : List Value) (ns : List Int) (t : Bool) (ts : List Addr) : Hp := fun b => if b ∈ ts then some (.tbl #[]) else scrH a us ns t b
/-- the code object at p.1 has its table at p.2, which is empty -/
structure TabP (K : PySem.W.Frag) (h : Heap) (p : Addr × Addr) : Prop where
  hd : PySem.W.codeHdIn K p.1 p.2 = true
  out : K.lookup p.2 = none
  nil : h.get? p.2 = some { cls := .none, data := .fields #[] }
def AtBegin (ts : List Addr) (H : Hp) : Prop := ∀ b ∈ ts, H b = some (.tbl #[])
theorem law_wgT {P : Program} {w : World} {K : PySem.W.Frag} {mg mb : Str → Option Value} {CX : CXT} {k : Nat} {fa a : Addr} {cs : List (Addr × Addr)} {fd : FuncData} {x : Str} {sp : Sp} {z : Shared} {us : List Value} {ns : List Int}
    (KX : K.In z.heap) (hns : z.heap.Ns mainGlobals mg) (hb : z.heap.Ns builtinsNs mb) (hbb : ∀ x : Str, x ≠ "__name__" → mb x = bootBuiltins x) (hlim : z.heap.NoLimit) (hg : z.gens = #[]) (tp : ∀ p ∈ cs, TabP K z.heap p)
    (hm : ∃ (bm : Addr) (ob : Obj), mg "__builtins__" = some (.ref bm) ∧ bm ≠ builtinsNs ∧ z.heap.get? bm = some ob ∧ ob.cls = .type "module" ∧ ob.dict = some builtinsNs ∧ ob.data = .plain)
    (ha : z.heap.get? a = some { cls := .type "list", data := .seq us.toArray }) (hi : IntsAre us ns) (hl : ns.length ≤ sizeLine) (hr : Room k callerA)
    (F : ∀ base : Heap, K.In base → base.Ns mainGlobals mg → (∀ p ∈ cs, LamX.TabB base mg p.1 p.2) → WG P w K mg base CX k fa fd [x] sp) (hbd : ∀ (s : Shared) (u : Value), BindsTo s fd ⟨[u], []⟩ [(x, u)])
    (hsp : ∀ H : Hp, AtBegin (cs.map (·.2)) H → SqL K H a (ns.map V.int) → sp [.ref a] H (fun v _ => v = .bl true) fun _ _ _ => False) (hCX : ∀ H e s', CX [] H z (fun _ _ _ => False) e s' → False) :
    codeAny (model P w) callerA (.call (.ref fa) ⟨[.ref a], []⟩) (fun r s' => r = .ok (.ret (.bool true)) ∧ OldK z.heap s'.heap ∧ s'.os = z.os ∧ AllBare s'.gens) z := by
  have rv := vals_ints hi
  have tN : ∀ b ∈ cs.map (·.2), z.heap.get? b = some { cls := .none, data := .fields #[] } ∧ K.lookup b = none := fun b hb => by
    obtain ⟨p, hp, rfl⟩ := List.mem_map.mp hb
    exact ⟨(tp p hp).nil, (tp p hp).out⟩
  have aN : a ∉ cs.map (·.2) := fun q => by
    have e := (tN a q).1
    rw [ha] at e; cases e
  have core : ∀ t : Bool, (t = true → K.lookup a = none) → SqL K (begH a us ns t (cs.map (·.2))) a (ns.map V.int) →
      codeAny (model P w) callerA (.call (.ref fa) ⟨[.ref a], []⟩) (fun r s' => r = .ok (.ret (.bool true)) ∧ OldK z.heap s'.heap ∧ s'.os = z.os ∧ AllBare s'.gens) z := by
    intro t hK hS
    -- what is tracked at b
    have ca : ∀ b, begH a us ns t (cs.map (·.2)) b = none ∨ (b = a ∧ t = true ∧ begH a us ns t (cs.map (·.2)) b = some (.frz { cls := .type "list", data := .seq us.toArray } (.lst (ns.map V.int)))) ∨ (b ∈ cs.map (·.2) ∧ begH a us ns t (cs.map (·.2)) b = some (.tbl #[])) := fun b => by
      by_cases q : b ∈ cs.map (·.2)
      · exact .inr (.inr ⟨q, if_pos q⟩)
      · by_cases c : t = true ∧ b = a
        · exact .inr (.inl ⟨c.2, c.1, (if_neg q).trans (if_pos c)⟩)
        · exact .inl ((if_neg q).trans (if_neg c))
    have hok : HOk P w (begH a us ns t (cs.map (·.2))) z.heap := fun b o e => by
      rcases ca b with q | ⟨rfl, _, q⟩ | ⟨hb, q⟩
      · rw [q] at e; cases e
      · rw [q] at e; cases e
        exact ⟨ha, by rw [List.length_map]; exact hl, us, _, rv, ha⟩
      · rw [q] at e; cases e
        exact (tN b hb).1
    have see : ∀ {b : Addr} {o : Obj}, z.heap.get? b = some o → (b = a → t = true → False) → b ∉ cs.map (·.2) → (hidT z.heap (begH a us ns t (cs.map (·.2)))).get? b = some o := fun {b o} e n n2 => hidT_get e (by
      rcases ca b with q | ⟨q1, q2, _⟩ | ⟨q, _⟩
      · exact q
      · exact (n q1 q2).elim
      · exact (n2 q).elim)
    have dic : ∀ {b : Addr} {m : Str → Option Value}, z.heap.Ns b m → (hidT z.heap (begH a us ns t (cs.map (·.2)))).Ns b m := fun {b m} ⟨o, es, ep, e, d, r⟩ => by
      refine ⟨o, es, ep, see e (fun q _ => ?_) (fun q => ?_), d, r⟩
      · rw [q, ha] at e; cases e; cases d
      · rw [(tN b q).1] at e; cases e; cases d
    have hKb : K.In (hidT z.heap (begH a us ns t (cs.map (·.2)))) := fun b o e => see (KX b o e) (fun q q2 => by rw [q, hK q2] at e; cases e) fun q => by rw [(tN b q).2] at e; cases e
    have hM : Mod K mg (hidT z.heap (begH a us ns t (cs.map (·.2)))) := ⟨hKb, dic hns, ⟨mb, dic hb, hbb⟩, let ⟨mc, h1, h2⟩ := hlim; ⟨mc, dic h1, h2⟩⟩
    have TB : ∀ p ∈ cs, LamX.TabB (hidT z.heap (begH a us ns t (cs.map (·.2)))) mg p.1 p.2 := fun p hp => by
      have q1 := tp p hp
      have nd : ∀ {b : Addr} {o : Obj}, z.heap.get? b = some o → o.data = .fields #[] ∨ (∃ es ep, o.data = .dict es ep) ∨ o.data = .plain → o.data ≠ .fields #[] → b ≠ p.2 := fun {b o} e _ n w => n (by rw [w, q1.nil] at e; cases e; rfl)
      refine ⟨PySem.W.codeHd_of_K hKb q1.hd, ?_, fun w => ?_⟩
      · obtain ⟨bm, ob, m1, m2, m3, m4, m5, m6⟩ := hm
        refine ⟨bm, ob, m1, m2, fun w => ?_, fun w => ?_, see m3 (fun w _ => ?_) (fun w => ?_), m4, m5, m6⟩
        · obtain ⟨o, es, ep, e, d, _⟩ := hns
          rw [w, e] at m3; cases m3
          rw [d] at m6; cases m6
        · rw [w, q1.nil] at m3; cases m3; cases m6
        · rw [w, ha] at m3; cases m3; cases m6
        · rw [(tN bm w).1] at m3; cases m3; cases m6
      · obtain ⟨o, es, ep, e, d, _⟩ := hns
        rw [w, q1.nil] at e; cases e; cases d
    have e0 : Env0 P w K mg (hidT z.heap (begH a us ns t (cs.map (·.2)))) callerA [] z (begH a us ns t (cs.map (·.2))) := ⟨rfl, hM, fun b o e => of_hidT e, Nat.le_of_eq (hidT_size _ _), trivial, (fun b hb => absurd (show b ∈ ([] : List Addr) from hb) List.not_mem_nil), hok, .of_eq hg⟩
    have hA : AtBegin (cs.map (·.2)) (begH a us ns t (cs.map (·.2))) := fun b hb => if_pos hb
    refine codeAny_mono ((F _ hKb (dic hns) TB).wrun callerA [] z _ ⟨[.ref a], []⟩ [.ref a] [.ref a] _ _ rfl hr e0 (hbd z (.ref a)) (.cons rfl .nil) (hsp _ hA hS)) fun r s' h => ?_
    match r, h with
    | .error e, h => exact (hCX _ e s' h).elim
    | .ok .next, h => exact h.elim
    | .ok .brk, h => exact h.elim
    | .ok .cont, h => exact h.elim
    | .ok (.ret u), ⟨v, H', os, bare, un, hok', r', q⟩ =>
      obtain rfl : v = .bl true := q
      obtain rfl : u = Value.bool true := r'
      have st : ∀ b o, b ∉ cs.map (·.2) → z.heap.get? b = some o → s'.heap.get? b = some o := fun b o nb e => by
        rcases ca b with q | ⟨rfl, _, q⟩ | ⟨q, _⟩
        · exact un.keep b o e q (fun z => absurd (show b ∈ ([] : List Addr) from z) List.not_mem_nil) (by simp)
        · rw [ha] at e; cases e
          exact (hok' b _ (un.frzs b _ _ q)).1
        · exact (nb q).elim
      have gr : ∀ p ∈ cs, ∃ us : Array Value, s'.heap.get? p.2 = some { cls := .none, data := .fields us } := fun p hp => by
        obtain ⟨us, e⟩ := un.tbls p.2 #[] (hA _ (List.mem_map.mpr ⟨p, hp, rfl⟩))
        exact ⟨_, hok' p.2 _ e⟩
      refine ⟨rfl, ⟨fun b o e => ?_, fun b o e => ?_⟩, os, bare⟩
      · by_cases hb : b ∈ cs.map (·.2)
        · obtain ⟨p, hp, rfl⟩ := List.mem_map.mp hb
          obtain ⟨us, hu⟩ := gr p hp
          have q1 := tp p hp
          rw [q1.nil] at e; cases e
          exact .inr (.inl ⟨((PySem.W.codeHd_of_K KX q1.hd).tab q1.nil).isCodeTable, rfl, #[], us, rfl, by rw [Array.empty_append]; exact hu⟩)
        · exact .inl (st b o hb e)
      · by_cases hb : b ∈ cs.map (·.2)
        · obtain ⟨p, hp, rfl⟩ := List.mem_map.mp hb
          obtain ⟨us, hu⟩ := gr p hp
          exact ⟨_, hu⟩
        · exact ⟨o, st b o hb e⟩
  cases hk : K.lookup a with
  | some o =>
    have e := KX a o hk
    rw [ha] at e; cases e
    exact core false (fun q => nomatch q) (.inr ⟨_, us.toArray, _, hk, rfl, rfl, rfl, by rw [List.size_toArray, hi.length]; exact hl, by simpa using rv⟩)
  | none => exact core true (fun _ => hk) (.inl (.inr ⟨_, (if_neg aN).trans (if_pos ⟨rfl, rfl⟩)⟩))
theorem walk_wgT {l : PySem.W.OpenLaw} {n k : Nat} {q : Program} {loose : List Str} {XP : (Str → Option Value) → Heap → Prop} {YP : World → Heap → Prop} {d : DefRec} {CX : CXT} {x : Str}
    (hn : l.most = some n) (hn2 : n ≤ sizeLine) (hdf : d.params.defaults = []) (hr : Room k callerA)
    (F : ∀ (w : World) (mg : Str → Option Value) (fa : Addr) (h : Heap), YP w h → h.Ns mainGlobals mg → mg d.name = some (.ref fa) →
      ∃ (K : PySem.W.Frag) (fd : FuncData) (sp : Sp) (cs : List (Addr × Addr)), K.In h ∧ (∀ p ∈ cs, TabP K h p) ∧ (∀ (s : Shared) (u : Value), BindsTo s fd ⟨[u], []⟩ [(x, u)]) ∧
        (∀ (H : Hp) (a : Addr) (ns : List Int), ns.length ≤ n → AtBegin (cs.map (·.2)) H → SqL K H a (ns.map V.int) → sp [.ref a] H (fun v _ => v = .bl true) fun _ _ _ => False) ∧
        ∀ base : Heap, K.In base → base.Ns mainGlobals mg → (∀ p ∈ cs, LamX.TabB base mg p.1 p.2) → WG l.prog w K mg base CX k fa fd [x] sp)
    (hCX : ∀ (H : Hp) (s : Shared) (e : Value) (s' : Shared), CX [] H s (fun _ _ _ => False) e s' → False) :
    PySem.W.WalkO q loose XP YP l.row.toRowW d [] (fun f vs => PySem.call f vs) := by
  refine Att.attach_call hn hdf fun w s0 z mg mb fa o pm cd doc a us ns G Y ho hd hcd hmg hobj hints hlen hg => ?_
  obtain ⟨K, fd, sp, cs, KX, tp, hb, hsp, hF⟩ := F w mg fa _ Y G.T.g hmg
  exact law_wgT KX G.T.g G.T.b G.T.builtins G.T.nolimit hg tp G.T.bmain hobj hints (Nat.le_trans hlen hn2) hr hF hb (fun H hO hS => hsp H a ns hlen hO hS) fun H e s' => hCX H z e s'
end L2.Wb
namespace L2.Q
open PySem PySem.Spec PyProof.Rows L2 L2.Wb He
/-- the tables tf: their code objects are known, they are empty and stand apart -/
def tabsG (g : Addr → Option Obj) (tf : List Defn) (K : PySem.W.Frag) : Bool := tf.all fun p => PySem.W.codeHdIn K (cT K p).1 (cT K p).2 && (match g (cT K p).2 with
  | some o => emptyTab o
  | none => false)
abbrev AlQT : Type := AlQ × Bool
def frQT (n : Nat) (g : Addr → Option Obj) : PySem.W.Frag := frT g (asW g roots n)
def obsQT (n : Nat) (fa : List Fct) (fn : List DefD) (fc : List CloD) (ts : List Tab) (tf : List Defn) (g : Addr → Option Obj) : AlQT := (obsQ fa fn fc ts (frQT n g), tabsG g tf (frQT n g))
def valQT (fn : List DefD) (fc : List CloD) (ts : List Tab) (w : World) : AlQT := (valQ fn fc ts w, true)
def SaysQT (fa : List Fct) (fn : List DefD) (fc : List CloD) (ts : List Tab) (tf : List Defn) (w : World) (h : Heap) (K : PySem.W.Frag) : Prop := SaysQ fa fn fc ts w K ∧ ∀ p ∈ tf, TabP K h (cT K p)
theorem saysQT {n : Nat} {fa : List Fct} {fn : List DefD} {fc : List CloD} {ts : List Tab} {tf : List Defn} {w : World} {h : Heap} (e : obsQT n fa fn fc ts tf h.get? = valQT fn fc ts w) : SaysQT fa fn fc ts tf w h (frQT n h.get?) := by
  refine ⟨congrArg (fun z : AlQT => z.1) e, fun p hp => ?_⟩
  have e2 : tabsG h.get? tf (frQT n h.get?) = true := congrArg (fun z : AlQT => z.2) e
  obtain ⟨h1, h2⟩ := ba (List.all_eq_true.mp e2 p hp)
  cases q : h.get? (cT (frQT n h.get?) p).2 with
  | none => rw [q] at h2; cases h2
  | some o =>
    rw [q] at h2
    exact ⟨h1, frT_none q h2, by rw [q, emptyTab_eq h2]⟩
def hookQT (n : Nat) (fa : List Fct) (fn : List DefD) (fc : List CloD) (ts : List Tab) (tf : List Defn) : PySem.W.Hook where
  α := AlQT
  obs := fun s => obsQT n fa fn fc ts tf s.heap.get?
  val := fun w => valQT fn fc ts w
  says := fun w h => ∃ K : PySem.W.Frag, K.In h ∧ SaysQT fa fn fc ts tf w h K
  of := fun _ _ e => ⟨_, frT_in, saysQT e⟩
  keeps := fun _ _ _ ⟨K, hK, c⟩ k => ⟨K, PySem.W.Frag.In.keeps hK k, c.1, fun p hp => ⟨(c.2 p hp).hd, (c.2 p hp).out, k _ _ (c.2 p hp).nil⟩⟩
theorem obsQT_eq {n : Nat} {fa : List Fct} {fn : List DefD} {fc : List CloD} {ts : List Tab} {tf : List Defn} {g : Addr → Option Obj} {s : Shared} (h : ∀ a, g a = s.heap.get? a) : obsQT n fa fn fc ts tf g = (hookQT n fa fn fc ts tf).obs s := by
  have e : g = s.heap.get? := funext h
  rw [e] <;> rfl
end L2.Q
set_option Elab.async false
set_option linter.all false
set_option maxRecDepth 100000
set_option maxHeartbeats 8000000
namespace L2.Q.Lw
open PySem PySem.Spec PyProof.Rows L2 L2.Wb L2.Q L2.Q.Wbm He
def gD (x : Str) (i : Nat) : DefD := ⟨(x, none), x, x, defArgs (top i), defBody (top i), defScope (top i), [], []⟩
def gM (c m : Str) (i j : Nat) : DefD := ⟨(c, some m), m, c ++ "." ++ m, defArgs (meth i j), defBody (meth i j), defScope (meth i j), [], []⟩
def gMK (c m : Str) (i j : Nat) : DefD := ⟨(c, some m), m, c ++ "." ++ m, defArgs (meth i j), defBody (meth i j), defScope (meth i j), [], [("most", .int 20), ("lean", .int 3)]⟩
def fns : List DefD := [gD "is_number" 8, gD "is_list" 9, gD "is_tuple" 10, gD "pans_of" 13, gD "names_of" 14, gD "_are_unlike" 15, gD "is_weighing" 16, gD "is_row" 17, gD "_need_each" 18, gD "need_log" 19, gD "need_weighings" 20, gD "turn" 23, gD "shifts" 24, gD "word_of" 25, gD "in_pans" 26, gD "_words" 27, gD "_are_numbers" 28, gD "is_some_world" 29, gD "need_some_world" 30, gD "told_by" 31, gD "is_world" 32, gD "is_name" 36, gD "_are_names" 37, gD "_are_things" 38, gD "_is_beam" 39, gD "_are_beams" 40, gD "_few_leans" 41, gD "_law_begun" 44, gD "_law_next" 45, gD "_law_pick" 46, gD "_law_names" 47, gD "_law_row" 48, gD "_law_weighing" 49, gD "_law_world" 50, gD "_law_sign" 51, gD "_law_told" 52, gD "_law_bent" 53, gD "_law_word" 54, gD "_law_spoilt" 55, gD "law" 56, gMK "Yard" "__init__" 42 0, gM "Yard" "things" 42 1, gM "Yard" "beams" 42 2, gM "Yard" "most" 42 3, gM "Yard" "lean" 42 4, gM "Yard" "step" 42 5]
def fileN : Str := PySem.Challenge.pw_wearybeams_k04_what_is_no_world.main.file
def cS_NoRow : CloD := ⟨("NoRow", some "__init__"), "__init__", "NoRow.__init__", defArgs (meth 3 0), defBody (meth 3 0), defScope (meth 3 0)⟩
def fcs : List CloD := [cS_NoRow]
def tbs : List Tab := [(fun K => ga K "TURNS", (["left", "even", "right"] : List Str))]
def fcts : List Fct := [tGlo "law",
  tFree "type",
  tFree "int",
  tFree "list",
  tFree "tuple",
  tFree "str",
  tFree "len",
  tFree "all",
  tFree "set",
  tExc "NoYard",
  tGlo "is_number",
  tKeep "is_number",
  tGlo "is_list",
  tKeep "is_list",
  tGlo "is_name",
  tKeep "is_name",
  tGlo "_are_names",
  tKeep "_are_names",
  tGlo "_is_beam",
  tKeep "_is_beam",
  tCls "Yard",
  tNoat "Yard" "_things",
  tNoat "Yard" "_beams",
  tNoat "Yard" "_most",
  tNoat "Yard" "_lean",
  tGlo "_are_things",
  tKeep "_are_things",
  tGlo "_are_beams",
  tKeep "_are_beams",
  tGlo "_few_leans",
  tKeep "_few_leans",
  tGlo "NoYard",
  tFree "abs",
  tGlo "_law_next",
  tKeep "_law_next",
  tGlo "is_tuple",
  tKeep "is_tuple",
  tMeth_ "Yard" "things",
  tMeth_ "Yard" "beams",
  tMeth_ "Yard" "most",
  tMeth_ "Yard" "lean",
  tGlo "_are_unlike",
  tKeep "_are_unlike",
  tGlo "word_of",
  tKeep "word_of",
  tGlo "in_pans",
  tKeep "in_pans",
  tGlo "_law_sign",
  tKeep "_law_sign",
  tFree "ValueError",
  tFree "isinstance",
  tExD "NoAsk",
  tExD "NoRow",
  tKit "NoAsk" "NoAsk" true,
  tKit "NoAsk" "NoBeam" false,
  tKit "NoAsk" "NoPan" false,
  tKit "NoAsk" "NoYard" false,
  tKit "NoRow" "NoRow" true,
  tKit "NoRow" "NoBeam" false,
  tKit "NoRow" "NoPan" false,
  tKit "NoRow" "NoYard" false,
  tKit "NoAsk" "NoRow" false,
  tKit "NoRow" "NoAsk" false,
  fun K => eqO (PySem.W.findIn K (.ref (ga K "NoRow")) "at") (some none),
  fun K => decide (PySem.W.kitOne K (.ref (ga K "NoAsk")) (.type "ValueError") = some true),
  fun K => decide (PySem.W.kitOne K (.ref (ga K "NoRow")) (.type "ValueError") = some true),
  tGlo "BeamError",
  tGlo "NoBeam",
  tGlo "NoPan",
  tGlo "NoRow",
  tGlo "NoAsk",
  tExm "NoRow" "BeamError" true,
  tExm "NoAsk" "BeamError" true,
  tGlo "_law_word",
  tMeth_ "Yard" "step",
  tGlo "pans_of",
  tKeep "pans_of",
  tGlo "names_of",
  tKeep "names_of",
  tFree "dict",
  tGlo "_are_numbers",
  tKeep "_are_numbers",
  tGlo "_law_pick",
  tKeep "_law_pick",
  tGlo "_law_world",
  tKeep "_law_world",
  tGlo "_law_told",
  tKeep "_law_told",
  tGlo "is_weighing",
  tKeep "is_weighing",
  tGlo "TURNS",
  tTab "TURNS" [("left", .int (-1)), ("even", .int 0), ("right", .int 1)],
  tGlo "turn",
  tKeep "turn",
  tGlo "is_some_world",
  tKeep "is_some_world",
  tFree "range",
  tGlo "_law_names",
  tKeep "_law_names",
  tGlo "_law_weighing",
  tKeep "_law_weighing",
  tGlo "_law_bent",
  tKeep "_law_bent",
  tGlo "_law_spoilt",
  tKeep "_law_spoilt",
  tGlo "WORDS",
  tTupS "WORDS" ["left", "even", "right"],
  tGlo "is_row",
  tKeep "is_row",
  tGlo "_words",
  tKeep "_words",
  tGlo "need_some_world",
  tKeep "need_some_world",
  tFree "min",
  tFree "zip",
  tGlo "_law_row",
  tKeep "_law_row",
  tExc "NoAsk",
  fun K => decide (ga K "is_row" ≠ ga K "is_weighing"),
  tFree "enumerate",
  tGlo "_need_each",
  tKeep "_need_each",
  tSup "NoRow" "at" fileN,
  tFree "super",
  tGlo "need_log",
  tKeep "need_log",
  tGlo "need_weighings",
  tKeep "need_weighings",
  tGlo "shifts",
  tKeep "shifts",
  tGlo "told_by",
  tKeep "told_by",
  tGlo "is_world",
  tKeep "is_world",
  tFree "repr",
  tSys,
  tMkr "Yard",
  tGlo "Yard",
  tGlo "_law_begun",
  tKeep "_law_begun"]
def tfs : List Defn := [("law", none)]
abbrev TTs (K : PySem.W.Frag) : List NdefX.NTab := [((cT K ("law", none)).2, fun _ _ => "law.<locals>.<lambda>")]
abbrev RR : PySem.W.OpenRow := PySem.W.OpenLaw.row PySem.Challenge.rw_wearybeams_k04_what_is_no_world
abbrev hk : PySem.W.Hook := hookQT 6 fcts fns fcs tbs tfs
def ob (s : PySem.W.SharedT) : AlQT := obsQT 6 fcts fns fcs tbs tfs (HandSHeadRun.getT s)
theorem ob_eq (s : PySem.W.SharedT) : ob s = hk.obs s.abs := obsQT_eq (HandSHeadRun.getT_eq s)
def loose : List Str := [("BeamError" : Str), ("NoYard" : Str), ("NoRow" : Str), ("NoPan" : Str), ("NoBeam" : Str), ("NoAsk" : Str), ("Yard" : Str), ("WORDS" : Str), ("TURNS" : Str), ("MOST" : Str), ("LEAN" : Str), ("is_number" : Str), ("is_list" : Str), ("is_tuple" : Str), ("pans_of" : Str), ("names_of" : Str), ("_are_unlike" : Str), ("is_weighing" : Str), ("is_row" : Str), ("_need_each" : Str), ("need_log" : Str), ("need_weighings" : Str), ("turn" : Str), ("shifts" : Str), ("word_of" : Str), ("in_pans" : Str), ("_words" : Str), ("_are_numbers" : Str), ("is_some_world" : Str), ("need_some_world" : Str), ("told_by" : Str), ("is_world" : Str), ("is_name" : Str), ("_are_names" : Str), ("_are_things" : Str), ("_is_beam" : Str), ("_are_beams" : Str), ("_few_leans" : Str), ("_law_begun" : Str), ("_law_next" : Str), ("_law_pick" : Str), ("_law_names" : Str), ("_law_row" : Str), ("_law_weighing" : Str), ("_law_world" : Str), ("_law_sign" : Str), ("_law_told" : Str), ("_law_bent" : Str), ("_law_word" : Str), ("_law_spoilt" : Str)]
theorem run0 (w : World) : HandSHeadRun.RunEq RR (PySem.W.view RR.prog [56]) hk ob 9000 loose (w.withFollow "special-get-raises" false) := by
  intro os
  kernel_rfl
theorem run1 (w : World) : HandSHeadRun.RunEq RR (PySem.W.view RR.prog [56]) hk ob 9000 loose (w.withFollow "special-get-raises" true) := by
  intro os
  kernel_rfl
theorem run (w : World) : HandSHeadRun.RunEq RR (PySem.W.view RR.prog [56]) hk ob 9000 loose w := PySem.W.byRow2 "special-get-raises" (P := fun w => HandSHeadRun.RunEq RR (PySem.W.view RR.prog [56]) hk ob 9000 loose w) run0 run1 w
end L2.Q.Lw
set_option Elab.async false
set_option linter.all false
set_option maxRecDepth 100000
set_option maxHeartbeats 4000000
namespace L2.Q
open PySem PySem.Spec PyProof.Rows L2 L2.Wb RZ
/-- an exception's class, made of one field, raised -/
structure RsF (P : Program) (w : World) (K : PySem.W.Frag) (mg : Str → Option Value) (C : Cn) (x f : Str) (ok : D → Prop) : Prop where
  ex : ∃ (fI cc cda : Addr) (qual : Str) (arg : Expr) (args : Arguments) (sc : Scope), mg x = some (.ref (C.cA x)) ∧ PySem.WbX.Sup P K mg (C.cA x) fI cc cda qual f arg args sc ∧ (∀ {H v d u}, Rp C H v d → ok d → RelV v u → PySem.WbX.ArgOk P w f arg u) ∧ PySem.WbX.ArgForm arg
theorem q_raiseX {Θ : Th} {X : Cx} {pos : Pos} {x f : Str} {a : Expr} {ga : GA} {p p2 : Pos} {k : Nat} {ok : D → Prop} (tk : Takes X (wOf Θ)) (R : RsF X.prog X.w X.K X.mg Θ.C x f ok) (hr : Room k X.A) (ha : PA X [a] (tOfA Θ ga)) (hc : X.calm = true := by rfl) (hg : Gl X x := by rfl)
    (hd : (x == ("__debug__" : Str)) = false := by decide) (he : starEach (a :: []) X.env = (false, eval a X.env) :: starEach [] X.env := by rfl) (hpl : (backTo p2 (starEach [] X.env)).any (·.1) = false := by rfl) :
    PS X (.Raise (some (.Call (.Name x p) [a] [] p2)) none pos) (tOfS Θ (gRaiseF Θ.Z ok x f ga)) := by
  obtain ⟨fI, cc, cda, qual, arg, args, sc, h1, h2, h3, h4⟩ := R.ex
  exact q_raiseF tk hc h1 h2 h3 h4 hr ha hg hd he hpl
/-- a whole number, to be told in a text -/
def okI (d : D) : Prop := ∃ i : Int, d = .int i ∧ i.natAbs.log2 < 1900
theorem argI {P : Program} {w : World} {a b : Str} {j j2 : Nat} {p0 p1 p2 p3 p4 : Pos} {f : Str} (ha : a.length ≤ 300) (hb : b.length ≤ 300) {C : Cn} {H : Hp} {v : V} {d : D} {u : Value} (r : Rp C H v d) (h : okI d) (ru : RelV v u) :
    PySem.WbX.ArgOk P w f (.JoinedStr [.Constant (.str a) j p0, .FormattedValue (.Name f p1) (-1) none p2, .Constant (.str b) j2 p3] p4) u := by
  obtain ⟨i, rfl, hi⟩ := h
  cases r
  obtain ⟨t, rfl⟩ : ∃ t, u = .int i t := ru
  exact PySem.WbX.arg_fs3 (show PySem.WbX.FsV (.int i t) from hi) ha hb
theorem ofNat_okI {n : Nat} (h : n ≤ 1000000) : okI (.int n) := ⟨n, rfl, by
  show (n : Int).natAbs.log2 < 1900
  rw [Int.natAbs_natCast]
  by_cases z : n = 0
  · subst z; decide
  · exact (Nat.log2_lt z).mpr (Nat.lt_of_le_of_lt h (Nat.lt_of_lt_of_le (by decide : 1000000 < 2 ^ 20) (Nat.pow_le_pow_right (n := 2) (by decide) (by omega))))⟩
end L2.Q
namespace L2.Q.Wbm
open PySem PySem.Spec PyProof.Rows L2 L2.Wb L2.Q
/-- what may stand in a tuple that is looked at -/
def isDK : D → Bool
  | .dct _ _ => true
  | _ => false
def El (d : D) : Bool := nd 64 d || isDK d
theorem El.ty {d : D} (h : El d = true) : ∃ t, tyName d = some t := by
  cases d <;> first | exact ⟨_, rfl⟩ | cases h
theorem dk_dc {d : D} (h : isDK d = true) : isDc d = true := by
  cases d <;> first | rfl | cases h
theorem eqv_str {x : Str} : ∀ {d : D}, eqD (.str x) d = true → d = .str x := by
  intro d h
  cases d with
  | str y => rw [eqD_str] at h; rw [eq_of_beq h]
  | _ => unfold eqD toPy at h; simp [PyData.eqv] at h
theorem eqv_non : ∀ {d : D}, nd 64 d = true → eqD .non d = true → d = .non := by
  intro d h0 h
  cases d with
  | non => rfl
  | bl b => unfold eqD toPy at h; simp [PyData.eqv] at h
  | int b => unfold eqD toPy at h; simp [PyData.eqv] at h
  | str b => unfold eqD toPy at h; simp [PyData.eqv] at h
  | lst b => unfold eqD toPy at h; simp [PyData.eqv] at h
  | tup b => unfold eqD toPy at h; simp [PyData.eqv] at h
  | _ => cases h0
def inS (l : List Str) : D → Bool
  | .str y => decide (y ∈ l)
  | _ => false
def inP (l : List Str) : D → Bool
  | .non => true
  | .str y => decide (y ∈ l)
  | _ => false
def unlX : D → D → Bool
  | .str x, .str y => !(x == y)
  | _, _ => true
theorem any_strsX {l : List Str} {d : D} : ((l.map D.str).any fun z => eqD z d) = inS l d := by
  cases d with
  | str y => rw [any_strs, any_in]; rfl
  | _ =>
    show _ = false
    rw [List.any_eq_false]
    intro z hz
    obtain ⟨x, _, rfl⟩ := List.mem_map.mp hz
    intro h
    exact D.noConfusion (eqv_str h)
theorem mem_strsX {l : List Str} {d : D} (h : El d = true) : memT d (.lst (l.map D.str)) = some (inS l d) := by
  show (if _ then _ else _) = _
  by_cases c : nd 64 d = true
  · rw [if_pos (by rw [c, strs_nd]; rfl), any_strsX]
  · have c2 : isDc d = true := by
      unfold El at h
      rw [Bool.eq_false_iff.mpr c] at h
      exact dk_dc h
    rw [if_neg (by rw [Bool.eq_false_iff.mpr c]; simp), if_pos (by rw [c2, strs_nd]; rfl)]
    cases d <;> first | rfl | cases c2 | cases h
theorem mem_strsTX {l : List Str} {d : D} (h : El d = true) : memT d (.tup (l.map D.str)) = some (inS l d) := mem_strsX h
theorem mem_pansX {l : List Str} {d : D} (h : El d = true) : memT d (.lst ([D.non] ++ l.map D.str)) = some (inP l d) := by
  have e : ndA 64 ([D.non] ++ l.map D.str) = true := by show (true && ndA 64 (l.map D.str)) = true; rw [strs_nd]; rfl
  show (if _ then _ else _) = _
  by_cases c : nd 64 d = true
  · rw [if_pos (by rw [c, e]; rfl)]
    show some (eqD .non d || (l.map D.str).any _) = _
    rw [any_strsX]
    cases d with
    | non => rw [eqD_nn]; rfl
    | str x => rw [eqD_ns]; rfl
    | _ =>
      show some (eqD .non _ || false) = some false
      cases q : eqD .non _ with
      | false => rfl
      | true => exact absurd (eqv_non c q) (fun z => D.noConfusion z)
  · have c2 : isDc d = true := by
      unfold El at h
      rw [Bool.eq_false_iff.mpr c] at h
      exact dk_dc h
    rw [if_neg (by rw [Bool.eq_false_iff.mpr c]; simp), if_pos (by rw [c2, e]; rfl)]
    cases d <;> first | rfl | cases c2
theorem inP_pan {l : List Str} {d : D} (h : inP l d = true) : ∃ p, d = panD p ∧ ∀ x, p = some x → x ∈ l := by
  cases d with
  | non => exact ⟨none, rfl, fun _ z => nomatch z⟩
  | str y => exact ⟨some y, rfl, fun x z => by cases z; exact of_decide_eq_true h⟩
  | _ => cases h
theorem unlX_pan (p q : Option Str) : unlX (panD p) (panD q) = unlP p q := by
  cases p <;> cases q <;> rfl
def isWgX (r : Row) : D → Bool
  | .tup [b, l, q] => inS (r.beams.map (·.1)) b && (inP r.names l && (inP r.names q && unlX l q))
  | _ => false
def isRwX (r : Row) : D → Bool
  | .tup [b, l, q, z] => isWgX r (.tup [b, l, q]) && inS words z
  | _ => false
/-- what may be looked at whether it is one -/
def It (d : D) : Bool := match d with
  | .tup es => es.all El
  | d => (tyName d).isSome
theorem It.ty {d : D} (h : It d = true) : ∃ t, tyName d = some t := by
  cases d with
  | tup es => exact ⟨_, rfl⟩
  | _ => exact Option.isSome_iff_exists.mp h
theorem It.el {es : List D} (h : It (.tup es) = true) : ∀ d ∈ es, El d = true := List.all_eq_true.mp h
theorem isWgX_w {r : Row} {x : Wg} (h : okW r x) : isWgX r (wD x) = true := by
  show (inS _ (.str x.b) && (inP _ (panD x.l) && (inP _ (panD x.q) && unlX (panD x.l) (panD x.q)))) = true
  have hp : ∀ p, okP r p → inP r.names (panD p) = true := fun p hp => by
    cases p with
    | none => rfl
    | some y => exact decide_eq_true (hp y rfl)
  rw [show inS (r.beams.map (·.1)) (.str x.b) = true from decide_eq_true h.b, hp _ h.l, hp _ h.q, unlX_pan, h.u]; rfl
theorem isRwX_r {r : Row} {x : Wg × Str} (h : okR r x) : isRwX r (rwD x) = true := by
  show (isWgX r (wD x.1) && inS words (.str x.2)) = true
  rw [isWgX_w h.w, show inS words (.str x.2) = true from decide_eq_true h.d]; rfl
theorem wgX_ok {r : Row} {d : D} (h : isWgX r d = true) : ∃ x, d = wD x ∧ okW r x := by
  match d, h with
  | .tup [b, l, q], h =>
    obtain ⟨h1, h0⟩ := Bool.and_eq_true_iff.mp h
    obtain ⟨h2, h5⟩ := Bool.and_eq_true_iff.mp h0
    obtain ⟨h3, h4⟩ := Bool.and_eq_true_iff.mp h5
    obtain ⟨p, rfl, hp⟩ := inP_pan h2
    obtain ⟨p2, rfl, hp2⟩ := inP_pan h3
    cases b with
    | str b => exact ⟨⟨b, p, p2⟩, rfl, of_decide_eq_true h1, hp, hp2, by rw [← unlX_pan]; exact h4⟩
    | _ => cases h1
theorem rwX_ok {r : Row} {d : D} (h : isRwX r d = true) : ∃ x, d = rwD x ∧ okR r x := by
  match d, h with
  | .tup [b, l, q, z], h =>
    obtain ⟨h1, h2⟩ := Bool.and_eq_true_iff.mp h
    obtain ⟨x, e, hx⟩ := wgX_ok h1
    cases z with
    | str y =>
      injection e with e
      injection e with e1 e
      injection e with e2 e
      injection e with e3 _
      subst e1 e2 e3
      exact ⟨(x, y), rfl, hx, of_decide_eq_true h2⟩
    | _ => cases h2
/-- the first that is none -/
def badX (p : D → Bool) (xs : List D) : Option Nat := xs.findIdx? fun d => !p d
theorem badX_none {p : D → Bool} {xs : List D} (h : ∀ (i : Nat) (d : D), xs[i]? = some d → p d = true) : badX p xs = none := by
  unfold badX
  rw [List.findIdx?_eq_none_iff]
  intro d hd
  obtain ⟨i, hi⟩ := List.getElem?_of_mem hd
  rw [h i d hi]; rfl
theorem badX_at {p : D → Bool} {xs : List D} {i : Nat} {d : D} (h : ∀ (j : Nat) (e : D), j < i → xs[j]? = some e → p e = true) (hd : xs[i]? = some d) (hp : p d = false) : badX p xs = some i := by
  unfold badX
  obtain ⟨hi, e⟩ := List.getElem?_eq_some_iff.mp hd
  rw [List.findIdx?_eq_some_iff_getElem]
  refine ⟨hi, by rw [e, hp]; rfl, fun j hj => ?_⟩
  rw [h j _ hj (List.getElem?_eq_getElem (by omega))]; simp
def isSq : D → Bool
  | .lst _ => true
  | .tup _ => true
  | _ => false
def tupL : D → Nat → Bool
  | .tup xs, m => decide (xs.length = m)
  | _, _ => false
theorem tupL3 {d : D} (h : tupL d 3 = true) : ∃ a b c, d = .tup [a, b, c] := by
  cases d with
  | tup xs =>
    have h : xs.length = 3 := of_decide_eq_true h
    match xs, h with
    | [a, b, c], _ => exact ⟨a, b, c, rfl⟩
  | _ => cases h
theorem tupL4 {d : D} (h : tupL d 4 = true) : ∃ a b c z, d = .tup [a, b, c, z] := by
  cases d with
  | tup xs =>
    have h : xs.length = 4 := of_decide_eq_true h
    match xs, h with
    | [a, b, c, z], _ => exact ⟨a, b, c, z, rfl⟩
  | _ => cases h
theorem wgX_no {r : Row} {d : D} (h : tupL d 3 = false) : isWgX r d = false := by
  cases q : isWgX r d with
  | false => rfl
  | true =>
    obtain ⟨x, rfl, _⟩ := wgX_ok q
    cases h
theorem rwX_no {r : Row} {d : D} (h : tupL d 4 = false) : isRwX r d = false := by
  cases q : isRwX r d with
  | false => rfl
  | true =>
    obtain ⟨x, rfl, _⟩ := rwX_ok q
    cases h
def p_is_listX : PSp := fun ds n R Y => ∃ d t, ds = [d] ∧ tyName d = some t ∧ R (.bl (isSq d)) false n
def p_is_tupleX : PSp := fun ds n R Y => ∃ (d : D) (m : Nat) (t : String), ds = [d, .int m] ∧ tyName d = some t ∧ R (.bl (tupL d m)) false n
def p_is_weighingX : PSp := fun ds n R Y => ∃ r d, ds = [yD r, d] ∧ r.ok ∧ It d = true ∧ R (.bl (isWgX r d)) false n
def p_is_rowX : PSp := fun ds n R Y => ∃ r d, ds = [yD r, d] ∧ r.ok ∧ It d = true ∧ R (.bl (isRwX r d)) false n
/-- what is refused with a number, told on -/
def outX (p : D → Bool) (t : D) (n : Nat) (R : D → Bool → Nat → Prop) (Y : Str → List Str → List D → Nat → Prop) : Prop := match seqD t with
  | none => Y "NoRow" ["at"] [.int 0] n
  | some xs => match badX p xs with
    | none => R .non false n
    | some i => Y "NoRow" ["at"] [.int i] n
structure Lg (t : D) : Prop where
  ty : (tyName t).isSome = true
  it : ∀ xs, seqD t = some xs → xs.length ≤ 1000 ∧ ∀ d ∈ xs, It d = true
def p_need_eachX (fr fw : Addr) : PSp := fun ds n R Y => ∃ r t v p, ds = [yD r, t, .raw v] ∧ r.ok ∧ Lg t ∧ ((v = V.ref fr ∧ p = isRwX r) ∨ (v = V.ref fw ∧ p = isWgX r)) ∧ outX p t n R Y
def p_need_logX : PSp := fun ds n R Y => ∃ r t, ds = [yD r, t] ∧ r.ok ∧ Lg t ∧ outX (isRwX r) t n R Y
def p_need_weighingsX : PSp := fun ds n R Y => ∃ r t, ds = [yD r, t] ∧ r.ok ∧ Lg t ∧ outX (isWgX r) t n R Y
def sOneX (fr fw : Addr) : V → Option PSp := fun v => if v = .ref fr then some p_is_rowX else if v = .ref fw then some p_is_weighingX else none
end L2.Q.Wbm
set_option Elab.async false
set_option linter.all false
set_option maxRecDepth 100000
set_option maxHeartbeats 4000000
namespace L2.Q
open PySem PySem.Spec PyProof.Rows L2 L2.Wb
/-- a walk whose list is made with draws -/
def gForI (t : GG) (b : GS) (De : QE) (ds : List D) (e1 : L2.Q.Env) : Prop := ∃ P : Nat → L2.Q.Env → Prop, P 0 e1 ∧ (∀ i d e, ds[i]? = some d → P i e → t d e fun e2 => b { nx := P (i + 1), ct := P (i + 1), bk := De.nx, rt := De.rt } e2) ∧ ∀ e, P ds.length e → De.nx e
theorem for_open {gi : GI} {t : GG} {b : GS} {De : QE} {e : L2.Q.Env} (h : gi e fun ds e1 => gForI t b De ds e1) : gFor gi t b De e := h
theorem forI {t : GG} {b : GS} {De : QE} {ds : List D} {e1 : L2.Q.Env} (P : Nat → L2.Q.Env → Prop) (p0 : P 0 e1) (step : ∀ i d e, ds[i]? = some d → P i e → t d e fun e2 => b { nx := P (i + 1), ct := P (i + 1), bk := De.nx, rt := De.rt } e2) (fin : ∀ e, P ds.length e → De.nx e) : gForI t b De ds e1 := ⟨P, p0, step, fin⟩
/-- a comprehension over things of another kind -/
theorem lc_mapL {α : Type} {vs : List Nat} {t : GG} {c : GT} {g : GE} {e1 : L2.Q.Env} {xs : List α} {Q : D → Bool → L2.Q.Env → Prop} (h : α → D) (keep : α → Bool) (f : α → D) (no : NoOwn vs e1) (hl : xs.length ≤ 1000000)
    (hb : ∀ x ∈ xs, ∀ (K : D → Bool → L2.Q.Env → Prop) (K' : L2.Q.Env → Prop), (keep x = true → ∀ fr e5, backE vs e1 e5 = e1 → K (f x) fr e5) → (keep x = false → ∀ e4, backE vs e1 e4 = e1 → K' e4) → t (h x) (wipeE e1 vs) fun e3 => c e3 fun b e4 => (b = true → g e4 K) ∧ (b = false → K' e4))
    (hq : Q (.lst ((xs.filter keep).map f)) true e1) : gLcI vs t c g (xs.map h) e1 Q := by
  refine ⟨no, by rw [List.length_map]; exact hl, fun i acc e2 => acc = ((xs.take i).filter keep).map f ∧ e2 = e1, ⟨by rw [List.take_zero]; rfl, rfl⟩, fun i d acc e2 hd ⟨ha, he⟩ => ?_, fun acc e2 ⟨ha, he⟩ => ?_⟩
  · subst ha; subst he
    rw [List.getElem?_map] at hd
    obtain ⟨x, hx, rfl⟩ := Option.map_eq_some_iff.mp hd
    have ht : xs.take (i + 1) = xs.take i ++ [x] := by rw [List.take_add_one, hx]; rfl
    refine hb x (List.mem_of_getElem? hx) _ _ (fun hk fr e5 h5 => ⟨?_, h5⟩) fun hk e4 h4 => ⟨?_, h4⟩
    · rw [ht, List.filter_append, List.filter_cons_of_pos hk, List.map_append]; rfl
    · rw [ht, List.filter_append, List.filter_cons_of_neg (by rw [hk]; exact Bool.false_ne_true), List.filter_nil, List.append_nil]
  · subst ha; subst he
    rw [List.length_map, List.take_length]
    exact hq
theorem lc_eachL {α : Type} {vs : List Nat} {t : GG} {g : GE} {e1 : L2.Q.Env} {xs : List α} {Q : D → Bool → L2.Q.Env → Prop} (h : α → D) (f : α → D) (no : NoOwn vs e1) (hl : xs.length ≤ 1000000)
    (hb : ∀ x ∈ xs, ∀ (K : D → Bool → L2.Q.Env → Prop) (K' : L2.Q.Env → Prop), (∀ fr e5, backE vs e1 e5 = e1 → K (f x) fr e5) → t (h x) (wipeE e1 vs) fun e3 => gtYes e3 fun b e4 => (b = true → g e4 K) ∧ (b = false → K' e4))
    (hq : Q (.lst (xs.map f)) true e1) : gLcI vs t gtYes g (xs.map h) e1 Q := by
  refine lc_mapL h (fun _ => true) f no hl (fun x hx K K' hk _ => hb x hx K K' (hk rfl)) ?_
  rw [List.filter_eq_self.mpr fun _ _ => rfl]
  exact hq
def putW (sl : List Sl) (f : Nat → Sl) : List Nat → List Sl
  | [] => sl
  | k :: ks => setS (putW sl f ks) k (f k)
theorem putW_len {sl : List Sl} {f : Nat → Sl} : ∀ {ks : List Nat}, (putW sl f ks).length = sl.length
  | [] => rfl
  | k :: ks => setS_len.trans putW_len
theorem putW_get {sl : List Sl} {f : Nat → Sl} {i : Nat} (hi : i < sl.length) : ∀ {ks : List Nat}, getS (putW sl f ks) i = if i ∈ ks then f i else getS sl i
  | [] => by rw [if_neg (fun z => by cases z)]; rfl
  | k :: ks => by
    show getS (setS (putW sl f ks) k (f k)) i = _
    rw [getS_set', putW_len, putW_get hi]
    by_cases c : i = k
    · subst c
      rw [if_pos ⟨rfl, hi⟩, if_pos List.mem_cons_self]
    · rw [if_neg fun z => c z.1]
      by_cases c2 : i ∈ ks
      · rw [if_pos c2, if_pos (List.mem_cons_of_mem _ c2)]
      · rw [if_neg c2, if_neg fun z => (List.mem_cons.mp z).elim c c2]
theorem sl_ext : ∀ {a b : List Sl}, a.length = b.length → (∀ i, i < a.length → getS a i = getS b i) → a = b
  | [], [], _, _ => rfl
  | [], _ :: _, h, _ => by cases h
  | _ :: _, [], h, _ => by cases h
  | x :: a, y :: b, h, g => by
    have e : x = y := g 0 (Nat.succ_pos _)
    rw [e, sl_ext (Nat.succ.inj h) fun i hi => g (i + 1) (Nat.succ_lt_succ hi)]
theorem put_of_wipe {sl sl' : List Sl} {ks : List Nat} (h : wipeS sl' ks = wipeS sl ks) : sl' = putW sl (getS sl') ks := by
  have hl : sl'.length = sl.length := by rw [← wipeS_len (sl := sl') (vs := ks), h, wipeS_len]
  refine sl_ext (by rw [putW_len, hl]) fun i hi => ?_
  rw [putW_get (by omega)]
  by_cases c : i ∈ ks
  · rw [if_pos c]
  · rw [if_neg c, ← wipeS_out (sl := sl') c, h, wipeS_out c]
/-- a walk that changes the slots ks alone, c draws a turn at most; I: what is in them -/
theorem forI_inv {t : GG} {b : GS} {De : QE} {ds : List D} {sl : List Sl} {n : Nat} (ks : List Nat) (c : Nat) (I : Nat → (Nat → Sl) → Prop) (i0 : I 0 (getS sl))
    (step : ∀ j d f m, ds[j]? = some d → m ≤ n + j * c → I j f → t d ⟨putW sl f ks, m⟩ fun e2 => b { nx := fun e => e.n ≤ n + (j + 1) * c ∧ wipeS e.sl ks = wipeS sl ks ∧ I (j + 1) (getS e.sl), ct := fun e => e.n ≤ n + (j + 1) * c ∧ wipeS e.sl ks = wipeS sl ks ∧ I (j + 1) (getS e.sl), bk := De.nx, rt := De.rt } e2)
    (fin : ∀ f m, m ≤ n + ds.length * c → I ds.length f → De.nx ⟨putW sl f ks, m⟩) : gForI t b De ds ⟨sl, n⟩ := by
  refine forI (fun j e => e.n ≤ n + j * c ∧ wipeS e.sl ks = wipeS sl ks ∧ I j (getS e.sl)) ⟨by show n ≤ _; omega, rfl, i0⟩ (fun j d e hd ⟨h1, h2, h3⟩ => ?_) fun e ⟨h1, h2, h3⟩ => ?_
  · obtain ⟨sl', m⟩ := e
    have := step j d (getS sl') m hd h1 h3
    rw [← put_of_wipe (show wipeS sl' ks = wipeS sl ks from h2)] at this
    exact this
  · obtain ⟨sl', m⟩ := e
    have q := fin (getS sl') m h1 h3
    rw [← put_of_wipe (show wipeS sl' ks = wipeS sl ks from h2)] at q
    exact q
/-- a statement that changes the slots ks alone, cut off from what follows; I: what is in them then, how many draws -/
theorem seq_sl {g h : GS} {De : QE} {sl : List Sl} {n : Nat} (ks : List Nat) (I : (Nat → Sl) → Nat → Prop)
    (h1 : ∀ N : L2.Q.Env → Prop, (∀ e, wipeS e.sl ks = wipeS sl ks → I (getS e.sl) e.n → N e) → g { nx := N, rt := De.rt, bk := De.bk, ct := De.ct } ⟨sl, n⟩) (h2 : ∀ f m, I f m → h De ⟨putW sl f ks, m⟩) : gSeq g h De ⟨sl, n⟩ :=
  h1 _ fun e q1 q2 => by
    obtain ⟨sl', m⟩ := e
    have q := h2 (getS sl') m q2
    rw [← put_of_wipe (show wipeS sl' ks = wipeS sl ks from q1)] at q
    exact q
theorem name_open {i : Nat} {d : D} {e : L2.Q.Env} {Q : L2.Q.Env → Prop} (h : Q (e.set i d false)) : ggName i d e Q := h
end L2.Q
local macro_rules | `(tactic| k_clsL) => `(tactic| (refine L2.Q.name_open ?_; dsimp only [L2.Q.putW, L2.Q.setS, L2.Q.Env.set]))
local macro_rules | `(tactic| k_offL) => `(tactic| ((try dsimp only [L2.Q.putW, L2.Q.setS]); one_sign))
set_option Elab.async false
set_option linter.all false
set_option maxRecDepth 100000
set_option maxHeartbeats 4000000
namespace L2.Q
open PySem PySem.Spec PyProof.Rows L2 L2.Wb LamX NdefX
section
variable {X : Cx} {pins : List (Addr × Obj)} {σ : L2.St} {H : Hp} {s : Shared}
/-- the lambda's object comes; of what is tracked only the table at T0 is another one then -/
theorem lam_mk {cd T0 : Addr} {nm : Nat → Nat → Str} {pa : Arguments} {bd : Expr} {sc : Scope} {pos : Pos} {E : Value → Shared → Prop} {Q : Value → Shared → Prop} (I : Inv X pins σ H s) (B : TabB X.base X.mg cd T0) (hc : X.env.code = .ref cd)
    (hn : nm pos.line pos.col = X.env.qual ++ "<lambda>") (tb : TabN H T0 nm) (hd : defaultsOf pa X.env = ([], [])) (hf : ∀ y ∈ sc.names, y.2 = .free → ∃ c, X.env.cells.lookup y.1 = some c)
    (k : ∀ (f c1 : Addr) (pm ct : Value) (H1 : Hp) (s1 : Shared), Inv X pins σ H1 s1 → (∀ b o, b ≠ T0 → H b = some o → H1 b = some o) → TabN H1 T0 nm →
      s1.heap.get? f = some (PySem.W.kla_obj "<lambda>" (X.env.qual ++ "<lambda>") pa bd sc (cloFrom X.env.cells sc.names []) pm c1 ct) → H1 f = none → f ∉ frs X.stack → H1 c1 = some (CodeO c1 (X.env.qual ++ "<lambda>")) → Q (.ref f) s1) :
    wpAny (model X.prog X.w) X.A (eval (.Lambda pa bd sc pos) X.env) Q E s := by
  obtain ⟨ps, hP, tr, al⟩ := tb
  refine PySem.W.kla_eval hd ?_
  have gP : s.heap.get? T0 = some { cls := .none, data := .fields ps } := I.hok T0 _ hP
  have far : ∀ f, s.heap.objs.size ≤ f → f ∉ frs X.stack := fun f hle z => (List.mem_cons.mp (I.stkSub _ z)).elim (fun e => Nat.lt_irrefl _ (Nat.lt_of_lt_of_le (by rw [e]; exact I.lt) hle)) fun e => I.nofs hle e
  match hca : codeAmong pos ps.toList with
  | some cv =>
    obtain ⟨c1, rfl, hco⟩ := al pos cv hca
    rw [hn] at hco
    refine PySem.W.kla_makeFunctionHit (closure_ok hf) I.ok.glob (I.mod.glob.keeps I.bk) hc (B.code.keeps I.bk) gP tr hca (B.bm.keeps I.bk) fun ct h1 tk st sz => ?_
    have J : Inv X pins σ H { s with heap := h1.push (PySem.W.kla_obj "<lambda>" (X.env.qual ++ "<lambda>") pa bd sc (cloFrom X.env.cells sc.names []) ((X.mg "__name__").getD .none) c1 ct), toks := tk } := I.kept fun b o e => Heap.get?_push_of_some _ (st b o e)
    exact k _ c1 _ ct H _ J (fun _ _ _ e => e) ⟨ps, hP, tr, al⟩ (Heap.get?_push_size _ rfl) (I.hok.fresh sz) (far _ sz) hco
  | none =>
    refine PySem.W.kla_makeFunction (closure_ok hf) I.ok.glob (I.mod.glob.keeps I.bk) hc (B.code.keeps I.bk) gP tr hca B.gP (B.bm.keeps I.bk) fun c1 ct h1 tk ex ge lt rec tb1 => ?_
    obtain ⟨c2, oc, us, t, ec, g1, g2, g3⟩ := rec
    cases ec
    have le1 : s.heap.objs.size ≤ h1.objs.size := Nat.le_trans ge (Nat.le_of_lt lt)
    have fr : H c1 = none := I.hok.fresh ge
    have nP : T0 ≠ c1 := ne_of_none hP fr
    have J := inv_table (t' := tk) (more := #[rawInt pos.line, rawInt pos.col, .ref c1]) (h' := h1.push (PySem.W.kla_obj "<lambda>" (X.env.qual ++ "<lambda>") pa bd sc (cloFrom X.env.cells sc.names []) ((X.mg "__name__").getD .none) c1 ct)) I hP
      (fun b o hb e => Heap.get?_push_of_some _ (ex b o hb e)) (Heap.get?_push_of_some _ tb1) ge ⟨oc, us, t, Heap.get?_push_of_some _ g1, g2, g3⟩
    have st : ∀ b o, b ≠ T0 → H b = some o → upd (upd H T0 (.tbl (ps ++ #[rawInt pos.line, rawInt pos.col, .ref c1]))) c1 (CodeO c1 (X.env.qual ++ "<lambda>")) b = some o := fun b o nb e => by
      rw [upd_ne (ne_of_none e fr), upd_ne nb]; exact e
    have hl : (ps ++ #[rawInt pos.line, rawInt pos.col, .ref c1]).toList = ps.toList ++ [rawInt pos.line, rawInt pos.col, .ref c1] := by simp
    refine k _ c1 _ ct _ _ J st ⟨_, (upd_ne nP).trans upd_same, by rw [hl]; exact PySem.TriplesOk_snoc _ _ _ _ tr, fun p2 cv hcv => ?_⟩ (Heap.get?_push_size _ rfl) ?_ (far _ le1) upd_same
    · rw [hl] at hcv
      rcases among_app2 _ tr hcv with z | ⟨z, z1, z2⟩
      · obtain ⟨c0, e1, e2⟩ := al p2 cv z
        exact ⟨c0, e1, st _ _ (fun w => by rw [w, hP] at e2; exact codeO_ne ps (Option.some.inj e2).symm) e2⟩
      · exact ⟨c1, z, by rw [← z1, ← z2, hn]; exact upd_same⟩
    · have q1 : h1.objs.size ≠ c1 := Nat.ne_of_gt lt
      have q2 : h1.objs.size ≠ T0 := Nat.ne_of_gt (Nat.lt_of_lt_of_le (Heap.lt_size gP) le1)
      exact (upd_ne q1).trans ((upd_ne q2).trans (I.hok.fresh le1))
end
/-- the slots as it sees them: what the frame alone has is not seen -/
def shO : Sl → Sl
  | some (d, false) => some (d, false)
  | some (_, true) => none
  | none => none
def shS : List Sl → List Sl
  | [] => []
  | s :: r => shO s :: shS r
theorem shO_f (d : D) : shO (some (d, false)) = some (d, false) := rfl
theorem shO_t (d : D) : shO (some (d, true)) = none := rfl
theorem shO_n : shO none = none := rfl
theorem shS_len : ∀ l : List Sl, (shS l).length = l.length
  | [] => rfl
  | s :: r => congrArg Nat.succ (shS_len r)
theorem shO_get {s : Sl} {d : D} {b : Bool} (h : shO s = some (d, b)) : b = false ∧ s = some (d, false) := by
  match s, h with
  | some (x, false), h =>
    have h' : some (x, false) = some (d, b) := h
    cases h'
    exact ⟨rfl, rfl⟩
  | some (_, true), h => exact nomatch (show (none : Sl) = some (d, b) from h)
  | none, h => exact nomatch (show (none : Sl) = some (d, b) from h)
theorem shS_get : ∀ (l : List Sl) (i : Nat) {d : D} {b : Bool}, getS (shS l) i = some (d, b) → b = false ∧ getS l i = some (d, false)
  | [], i, d, b, h => nomatch h
  | s :: r, 0, d, b, h => shO_get h
  | s :: r, i + 1, d, b, h => shS_get r i h
theorem shS_er {Θ : Th} {σ : L2.St} {H HZ : Hp} {e : L2.Q.Env} {n : Nat} {M : Addr → Prop} {std : ∀ b, M b → ∃ o, HZ b = some o ∧ NoTup o} {n3 : ∀ b, N3o Θ.C Θ.m b → M b} {ms : ∃ gl cl, Θ.m = some (Θ.C.sa, gl, cl)} {Z : Str → List Str → List D → L2.Q.Env → Prop}
    (E : ERep Θ σ H e) (kp : Kept (N3o Θ.C Θ.m) H HZ) (ls : LSo Θ.C Θ.m n HZ) (hM : ∀ b o, H b = some o → M b → Mm Θ XO σ e.sl b) : ERep (mkTh Θ.C Θ.m M HZ std n3 ms Z) σ HZ ⟨shS e.sl, n⟩ := by
  have no : ∀ b, ¬ owns σ (shS e.sl) b := fun b ⟨i, d, h1, _⟩ => Bool.noConfusion (shS_get _ i h1).1
  have le : Le (cut (Mm Θ XO σ e.sl) H) (cut (Mm (mkTh Θ.C Θ.m M HZ std n3 ms Z) XO σ (shS e.sl)) HZ) := le_cut fun b o nb hb => ⟨fun z => z.elim (fun z => nb (hM b o hb z)) fun z => z.elim (no b) fun z => z.elim (fun z => z.elim) fun ⟨_, z⟩ => (nomatch z), kp b o (fun z => nb (.inl (Θ.n3 b z))) hb⟩
  refine ⟨ls, fun b o _ z => .inl z, E.len.trans (shS_len _).symm, fun i d h => ?_, fun i d h => (Bool.noConfusion (shS_get _ i h).1), fun i j d d' a h => (Bool.noConfusion (shS_get _ i h).1), fun b o z => nomatch z⟩
  obtain ⟨v, h1, h2⟩ := E.sh i d (shS_get _ i h).2
  exact ⟨v, h1, h2.le le⟩
section
variable {X : Cx} {pins : List (Addr × Obj)} {σ : L2.St} {H : Hp} {s : Shared}
abbrev givCx (X : Cx) (N : List Str) (x : Str) (sc : Scope) (g : Addr) (cd : Value) (s : Shared) (H : Hp) : Cx := cxOf C8.CX0 X.prog X.w X.K X.mg X.base N x sc g cd X.A X.stack s H C8.E0
theorem pe_actS {N : List Str} {x a : Str} {sg sc : Scope} {g f c1 : Addr} {cd pm ct : Value} {pa : Arguments} {bd : Expr} {k i : Nat} {pn : List (Addr × Obj)} {xe : Value → Shared → Prop} {W : WX} {tb : XK → TE} {p1 p2 : Pos}
    (I : Inv X pins σ H s) (L : LamS X.env.scope sc) (of : s.heap.get? f = some (PySem.W.kla_obj "<lambda>" (X.env.qual ++ "<lambda>") pa bd sc (cloFrom X.env.cells sc.names []) pm c1 ct)) (nf : H f = none) (ff : f ∉ frs X.stack)
    (hb : bindArgs (PySem.W.kla_fn "<lambda>" (X.env.qual ++ "<lambda>") pa bd sc (cloFrom X.env.cells sc.names []) pm (.ref c1) ct) ⟨[], []⟩ = pure []) (tk : Takes ((givCx X N x sg g cd s H).tr pn xe) W) (hr : Room (k + 1) (X.A.deeper (envOfC x sg s.heap.objs.size g cd)))
    (hB : ∀ (A : Around) (out : List PySem.Env) (z : Shared) (G : Hp) (E : XK), Room k (A.deeper (lamEnv X sc z.heap.objs.size f c1)) → PE (lamCx X A out z G E sc f c1) bd (tb E)) (hN : N[i]? = some a) (hv : Vis sg a)
    (d1 : (a == ("__debug__" : Str)) = false) (d2 : (a == ("__classdict__" : Str)) = false) :
    PE ((givCx X N x sg g cd s H).tr pn xe) (.Call (.Name a p1) [] [] p2) (fun τ G Q => τ[i]? = some (some (.ref f)) ∧ G c1 = some (CodeO c1 (X.env.qual ++ "<lambda>")) ∧ tb (WE W τ) σ G Q) := by
  refine ⟨fun qs z τ G Q J ⟨t1, t2, t3⟩ => wpAny_Call_Name_kw (thn ((pe_var (pos := p1) (i := i) hN hv d1 d2).run qs z τ G (fun v G1 => v = .ref f ∧ G1 = G) J ⟨_, t1, rfl, rfl⟩) fun u z1 ⟨v, G1, J1, ru, e1, e2⟩ => ?_)⟩
  subst e1 e2
  cases (show u = Value.ref f from ru)
  have there := J1.base.keep f _ of nf ff fun w => nomatch (show f ∈ ([] : List Addr) from w)
  have ran : codeAny (model X.prog X.w) (X.A.deeper (envOfC x sg s.heap.objs.size g cd)) (.call (.ref f) ⟨[], []⟩) (CR (L2.CX X.prog X.w) (envOfC x sg s.heap.objs.size g cd :: X.stack) X.prog X.w G1 z1 Q (WE W τ)) z1 := by
    obtain ⟨⟨oc, us, t, c2, c3, c4⟩, _⟩ := J1.hok c1 _ t2
    refine PySem.W.kla_callFunE hr.depth there rfl L.co L.gen rfl ⟨c1, oc, us, t, rfl, c2, c3, c4⟩ ?_
    rw [hb]
    refine wpAny_pure (wpAny_newFunctionEnv (fun y hy => (L.own y hy).2) (fun y hy => nomatch hy) (fun h1 ns sb => ⟨J1.nolimit.fresh _ sb, PySem.W.kla_codeExpr ?_⟩) L.kind)
    have kp : ∀ b o, z1.heap.get? b = some o → h1.get? b = some o := fun b o e => sb.extBut b o (Nat.ne_of_lt (Heap.lt_size e)) (Heap.get?_push_of_some _ e)
    have S := lam_start2 (E := WE W τ) (f := f) (c' := c1) (tk := z1.toks + 0) I L J1.env0 hr.hd J1.base ns kp
    exact wpAny_mono ((hB _ _ z1 G1 (WE W τ) (hr.deeper _)).run [] _ σ G1 Q S t3) (fun v z3 ⟨w, G3, S3, rv, q3⟩ => ⟨w, G3, S3.os, S3.bare, S3.base, S3.hok, rv, q3⟩) fun _ _ q3 => q3
  refine PySem.W.callWith_F0 ⟨_, _, _, _, there⟩ (wpAny_call (codeAny_mono ran fun r z2 q => ?_))
  match r, q with
  | .error e, q => exact passAt tk τ qs G1 z1 e z2 J1 q
  | .ok (.ret _), q => exact J1.after q
  | .ok .next, q => exact q.elim
  | .ok .brk, q => exact q.elim
  | .ok .cont, q => exact q.elim
end
/-- the def x that calls what it got, by its parameter a: what it makes of that -/
def GivesS (X : Cx) (k : Nat) (N : List Str) (x : Str) (sg : Scope) (g : Addr) (cd : Value) (bg : List Stmt) (a q : Str) (TT : (XK → Hp → VK → Prop) → Hp → VK → Prop) : Prop :=
  ∀ (f c1 : Addr) (s : Shared) (H : Hp) (Q : VK) (tl : XK → Hp → VK → Prop), Room k (X.A.deeper (envOfC x sg s.heap.objs.size g cd)) →
    (∀ (W : WX) (pn : List (Addr × Obj)) (xe : Value → Shared → Prop) (p1 p2 : Pos), Takes ((givCx X N x sg g cd s H).tr pn xe) W → PE ((givCx X N x sg g cd s H).tr pn xe) (.Call (.Name a p1) [] [] p2) (fun τ G Q => τ[0]? = some (some (.ref f)) ∧ G c1 = some (CodeO c1 q) ∧ tl (WE W τ) G Q)) →
    H c1 = some (CodeO c1 q) → TT tl H Q → ∃ t, PSs (givCx X N x sg g cd s H).nox bg t ∧ t { nx := fun _ H' => Q .non H', rt := Q } (L2.start N [.ref f]) H
/-- what a call of it comes to: the draws so far, the value wanted, the exception wanted -/
abbrev BhT : Type := Nat → (D → Bool → Nat → Prop) → (Str → List Str → List D → Nat → Prop) → Prop
def ActsQ (tl : XK → Hp → VK → Prop) (C : Cn) (m : Dr) (N : Addr → Prop) (H0 : Hp) (Bh : BhT) : Prop :=
  ∀ (HZ : Hp) (N' : Addr → Prop) (n : Nat) (R : D → Bool → Nat → Prop) (Y : Str → List Str → List D → Nat → Prop) (Q : VK) (E : XK), (∀ b, N' b → ∃ o, HZ b = some o ∧ NoTup o) → (∀ b, N3o C m b → N' b) → (∀ b o, H0 b = some o → N' b → N b) → Kept (N3o C m) H0 HZ → LSo C m n HZ → Bh n R Y →
    (∀ v d fr n' H', Kept (N3o C m) HZ H' → LSo C m n' H' → Giv C N' HZ H' v d fr → R d fr n' → Q v H') →
    (∀ c ks es n' cls od H', Kept (N3o C m) HZ H' → LSo C m n' H' → ExR C N' H' c ks es cls od → Y c ks es n' → E cls od H') → tl E HZ Q
def TTq (C : Cn) (pg : BhT → Nat → (D → Bool → Nat → Prop) → Prop) : (XK → Hp → VK → Prop) → Hp → VK → Prop := fun tl H Q =>
  ∃ (m : Dr) (N : Addr → Prop) (n : Nat) (Bh : BhT) (R : D → Bool → Nat → Prop), (∀ b, N b → ∃ o, H b = some o ∧ NoTup o) ∧ (∀ b, N3o C m b → N b) ∧ (∃ gl cl, m = some (C.sa, gl, cl)) ∧ LSo C m n H ∧ ActsQ tl C m N H Bh ∧ pg Bh n R ∧
    ∀ v d fr n' H', Kept (N3o C m) H H' → LSo C m n' H' → Giv C N H H' v d fr → R d fr n' → Q v H'
def frzL (e : L2.Q.Env) : List Nat → L2.Q.Env
  | [] => e
  | i :: is => frzL (e.frz i) is
theorem frzL_er {Θ : Th} {σ : L2.St} {H : Hp} : ∀ (is : List Nat) {e : L2.Q.Env}, ERep Θ σ H e → ERep Θ σ H (frzL e is) ∧ Le (cut (Mm Θ XO σ e.sl) H) (cut (Mm Θ XO σ (frzL e is).sl) H)
  | [], e, E => ⟨E, Le.refl _⟩
  | i :: is, e, E => by
    obtain ⟨E1, l1⟩ := E.frz i
    obtain ⟨E2, l2⟩ := frzL_er is E1
    exact ⟨E2, l1.trans l2⟩
/-- x(lambda: body): the slots that are seen, what x makes of it, the body -/
def gLamG (is : List Nat) (pg : BhT → Nat → (D → Bool → Nat → Prop) → Prop) (gb : ZT → GE) : GE := fun e Q =>
  pg (fun n R Y => gb (fun c ks es e' => Y c ks es e'.n) ⟨shS (frzL e is).sl, n⟩ fun d fr e' => R d fr e'.n) (frzL e is).n fun d fr n' => Q d fr ⟨(frzL e is).sl, n'⟩
section
variable {Θ : Th} {X : Cx}
theorem q_lamG (is : List Nat) {pg : BhT → Nat → (D → Bool → Nat → Prop) → Prop} {gb : ZT → GE} {nm : Nat → Nat → Str} {x a : Str} {g c T0 : Addr} {k : Nat} {pgm : Arguments} {bg : List Stmt} {sg : Scope} {dV kV doc pm cdv ct oc : Value} {an od : Option Addr} {osl : Array (Option Value)} {Ng : List Str}
    {params : Arguments} {body : Expr} {scope : Scope} {p lpos pos : Pos} (hm : X.mg x = some (.ref g)) (hk : PySem.W.keepIn X.K (.ref g) = true)
    (lk : X.K.lookup g = some ⟨oc, od, .func (PySem.W.fnOf x x pgm bg sg dV kV doc pm an cdv ct), osl⟩) (hcg : PySem.W.codeIn X.K cdv x = true) (hb : L2.Binds X.K (PySem.W.fnOf x x pgm bg sg dV kV doc pm an cdv ct) [a] []) (Sg : FnScope Ng [a] sg) (hNg : Ng[0]? = some a) (hva : Vis sg a)
    (hG : GivesS X (k + 1) Ng x sg g cdv bg a (X.env.qual ++ "<lambda>") (TTq Θ.C pg))
    (TB : TabB X.base X.mg c T0) (hcode : X.env.code = .ref c) (hT : (T0, nm) ∈ Θ.C.T) (hu : ∀ q ∈ Θ.C.T, q.1 = T0 → q.2 = nm) (hn : nm lpos.line lpos.col = X.env.qual ++ "<lambda>") (hr : Room (k + 2) X.A) (L : LamS X.env.scope scope) (hdef : defaultsOf params X.env = ([], []))
    (hbind : ∀ (q : Str) (cl : List (Str × Addr)) (pm cv ctv : Value), bindArgs (PySem.W.kla_fn "<lambda>" q params body scope cl pm cv ctv) ⟨[], []⟩ = pure [])
    (hbody : ∀ (A : Around) (outer : List PySem.Env) (s : Shared) (H : Hp) (E : XK) (f c' : Addr) (M : Addr → Prop) (HZ : Hp) (std : ∀ b, M b → ∃ o, HZ b = some o ∧ NoTup o) (n3 : ∀ b, N3o Θ.C Θ.m b → M b) (ms : ∃ gl cl, Θ.m = some (Θ.C.sa, gl, cl)) (Z : ZT), Room k (A.deeper (lamEnv X scope s.heap.objs.size f c')) →
      Takes (lamCx X A outer s H E scope f c') (wOf (mkTh Θ.C Θ.m M HZ std n3 ms Z)) → PE (lamCx X A outer s H E scope f c') body (tOf (mkTh Θ.C Θ.m M HZ std n3 ms Z) (gb Z)))
    (hg : Gl X x := by rfl) (hdb : (x == ("__debug__" : Str)) = false := by decide) (hd : (a == ("__debug__" : Str)) = false := by decide) (hcd : (a == ("__classdict__" : Str)) = false := by decide) :
    PE X (.Call (.Name x p) [.Lambda params body scope lpos] [] pos) (tOf Θ (gLamG is pg gb)) := by
  refine ⟨fun pins s σ H Q I ⟨e, Qp, E0, h, kk⟩ => ?_⟩
  obtain ⟨E1, l1⟩ := frzL_er is E0
  have tabs := E1.ls.tabs
  refine wpAny_Call_Name_kw (ld_glob I hg hm ?_ hdb)
  refine PySem.W.callWith_K (h₀ := X.base) I.ok.mod.kin hk ?_ (by rfl) (by rfl)
  show wpAny _ _ (spliced ((false, eval (.Lambda params body scope lpos) X.env) :: backTo pos (starEach [] X.env))) _ _ s
  refine Calls.spliced_cons (lam_mk I TB hcode hn (tabs _ hT) hdef (L.has I.ok) fun f c' pm' ctv H1 s' I1 st T1 hf hfn hfr hco => ?_)
  refine Calls.spliced_nil ⟨I1.kIn, ?_⟩
  -- the law's frame at H1
  have tT : isTb Θ.C T0 := ⟨_, hT, rfl⟩
  have n3T : N3o Θ.C Θ.m T0 := by
    obtain ⟨gl, cl, hm⟩ := Θ.ms
    rw [hm]; exact .inr tT
  have kp : Kept (N3o Θ.C Θ.m) H H1 := fun b o nb z => st b o (fun w => nb (by rw [w]; exact n3T)) z
  have hgl : ∃ gl cl, Θ.m = some (Θ.C.sa, gl, cl) := Θ.ms
  have ls1 : LSo Θ.C Θ.m (frzL e is).n H1 := by
    obtain ⟨gl, cl, hm⟩ := hgl
    have ls := E1.ls
    rw [hm] at ls ⊢
    obtain ⟨ls, tb⟩ := ls
    refine ⟨?_, fun q hq => ?_⟩
    · have no : ∀ b, N3 Θ.C.sa gl cl b → b ≠ T0 := fun b hb w => by
        obtain ⟨ps, z, _⟩ := tabs _ hT
        obtain ⟨⟨d, gs, cs, t, h1, h2, h3, _⟩, _⟩ := ls
        rw [← w] at z
        rcases hb with hb | hb | hb
        · rw [hb, h1] at z; cases z
        · rw [hb, h2] at z; cases z
        · rw [hb, h3] at z; cases z
      obtain ⟨⟨d, gs, cs, t, h1, h2, h3, hx⟩, ne⟩ := ls
      exact ⟨⟨d, gs, cs, t, st _ _ (no _ (.inl rfl)) h1, st _ _ (no _ (.inr (.inl rfl))) h2, st _ _ (no _ (.inr (.inr rfl))) h3, hx⟩, ne⟩
    · by_cases w : q.1 = T0
      · rw [w, hu q hq w]; exact T1
      · obtain ⟨ps, a1, a2, a3⟩ := tb q hq
        refine ⟨ps, st _ _ w a1, a2, fun p' cv hcv => ?_⟩
        obtain ⟨c0, e1, e2⟩ := a3 p' cv hcv
        refine ⟨c0, e1, st _ _ (fun z => ?_) e2⟩
        obtain ⟨ps, y, _⟩ := tabs _ hT
        rw [← z, e2] at y
        exact codeO_ne ps (Option.some.inj y)
  obtain ⟨E2, l2⟩ := E1.step kp ls1
  have tail : TTq Θ.C pg (fun Ech H' Q' => ∃ M HZ std n3 ms Z, (∀ cls od σ H, wOf (mkTh Θ.C Θ.m M HZ std n3 ms Z) cls od σ H → Ech cls od H) ∧ tOf (mkTh Θ.C Θ.m M HZ std n3 ms Z) (gb Z) σ H' Q') H1 Q := by
    refine ⟨Θ.m, Mm Θ XO σ (frzL e is).sl, (frzL e is).n, _, _, ERep.std' E2, fun b z => .inl (Θ.n3 b z), Θ.ms, ls1, ?_, h, fun v d fr n' H' kp' ls' gv r => kk _ _ _ _ _ ((giv_res E2 kp' ls' gv).from (l1.trans l2)) r⟩
    intro HZ N' n R Y Q2 E2' std n3 hN kpZ lsZ hB hq hx
    refine ⟨N', HZ, std, n3, Θ.ms, fun c ks es e => Y c ks es e.n, fun cls od σ' H' ⟨e', c, ks, es, E', xr, z⟩ => ?_, _, _, shS_er E2 kpZ lsZ hN, hB, fun v d fr H' e' r q => ?_⟩
    · refine hx c ks es e'.n cls od H' (fun b o nb q => ?_) E'.ls (xr.low fun b z => .inl z) z
      exact (E'.kept b o nb q).elim id fun q => q.1.elim
    · obtain ⟨g1, g2, g3⟩ := r.ret.giv
      exact hq v d fr _ H' g1 g2 g3 q
  have rc : codeAny (model X.prog X.w) X.A (.call (.ref g) ⟨[.ref f], []⟩) (CR C8.CX0 X.stack X.prog X.w H1 s' Q C8.E0) s' := by
    refine run_ofS (N := Ng) (ps := [a]) (us := [.ref f]) (vs := [.ref f]) lk hcg Sg hr I1.env0 (hb s' [.ref f] I1.kIn rfl) (.cons rfl .nil) rfl fun hr1 => ?_
    obtain ⟨t1, ht1, hq1⟩ := hG f c' s' H1 Q _ hr1 (fun W pn xe p1 p2 tk => pe_actS (i := 0) (tb := fun Ech σ' H' Q' => ∃ M HZ std n3 ms Z, (∀ cls od σ H, wOf (mkTh Θ.C Θ.m M HZ std n3 ms Z) cls od σ H → Ech cls od H) ∧ tOf (mkTh Θ.C Θ.m M HZ std n3 ms Z) (gb Z) σ' H' Q') I1 L hf hfn hfr (hbind _ _ _ _ _) tk hr1
      (fun A outer s H Ech hr2 => ⟨fun pins z σ' H' Q' J ⟨M, HZ, std, n3, ms, Z, imp, q⟩ => (hbody A outer s H Ech f c' M HZ std n3 ms Z hr2 (Takes.imp (takes_of (E := Ech) rfl rfl rfl rfl) imp)).run pins z σ' H' Q' J q⟩) hNg hva hd hcd) hco tail
    exact ⟨t1, ht1.nox, hq1⟩
  refine wpAny_call (codeAny_mono rc fun r s2 hq => ?_)
  match r, hq with
  | .error _, hq => exact (show False from hq).elim
  | .ok (.ret u), hq => exact I1.after hq
  | .ok .next, hq => exact hq.elim
  | .ok .brk, hq => exact hq.elim
  | .ok .cont, hq => exact hq.elim
/-- a def that gets a lambda, as it is called -/
structure DefL (P : Program) (w : World) (K : PySem.W.Frag) (mg : Str → Option Value) (base : Heap) (C : Cn) (x : Str) (j : Nat) (pg : BhT → Nat → (D → Bool → Nat → Prop) → Prop) : Prop where
  ex : ∃ (g : Addr) (a : Str) (N : List Str) (st : Stmt) (fd : FuncData), Fun K x x st g fd ∧ mg x = some (.ref g) ∧ Binds K fd [a] [] ∧ FnScope N [a] (defScope st) ∧ N[0]? = some a ∧ Vis (defScope st) a ∧ (a == ("__debug__" : Str)) = false ∧ (a == ("__classdict__" : Str)) = false ∧
    ∀ X : Cx, X.prog = P → X.w = w → X.K = K → X.mg = mg → X.base = base → X.A.guards = some [] → ∀ q cd, GivesS X j N x (defScope st) g cd (defBody st) a q (TTq C pg)
theorem q_lamD (is : List Nat) {pg : BhT → Nat → (D → Bool → Nat → Prop) → Prop} {gb : ZT → GE} {nm : Nat → Nat → Str} {x : Str} {c T0 : Addr} {j k k' : Nat} {params : Arguments} {body : Expr} {scope : Scope} {p lpos pos : Pos} (Dl : DefL X.prog X.w X.K X.mg X.base Θ.C x j pg) (hgu : X.A.guards = some [])
    (TB : TabB X.base X.mg c T0) (hcode : X.env.code = .ref c) (hT : (T0, nm) ∈ Θ.C.T) (hu : ∀ q ∈ Θ.C.T, q.1 = T0 → q.2 = nm) (hr : Room k' X.A)
    (hbody : ∀ (A : Around) (outer : List PySem.Env) (s : Shared) (H : Hp) (E : XK) (f c' : Addr) (M : Addr → Prop) (HZ : Hp) (std : ∀ b, M b → ∃ o, HZ b = some o ∧ NoTup o) (n3 : ∀ b, N3o Θ.C Θ.m b → M b) (ms : ∃ gl cl, Θ.m = some (Θ.C.sa, gl, cl)) (Z : ZT), Room k (A.deeper (lamEnv X scope s.heap.objs.size f c')) →
      Takes (lamCx X A outer s H E scope f c') (wOf (mkTh Θ.C Θ.m M HZ std n3 ms Z)) → PE (lamCx X A outer s H E scope f c') body (tOf (mkTh Θ.C Θ.m M HZ std n3 ms Z) (gb Z)))
    (hn : nm lpos.line lpos.col = X.env.qual ++ "<lambda>" := by rfl) (hk : k + 2 ≤ k' := by decide) (hj : j ≤ k + 1 := by decide) (L : LamS X.env.scope scope := by exact LamX.lamS_by (by decide +kernel)) (hdef : defaultsOf params X.env = ([], []) := by rfl)
    (hbind : ∀ (q : Str) (cl : List (Str × Addr)) (pm cv ctv : Value), bindArgs (PySem.W.kla_fn "<lambda>" q params body scope cl pm cv ctv) ⟨[], []⟩ = pure [] := by intro _ _ _ _ _; rfl)
    (hg : Gl X x := by rfl) (hdb : (x == ("__debug__" : Str)) = false := by decide) :
    PE X (.Call (.Name x p) [.Lambda params body scope lpos] [] pos) (tOf Θ (gLamG is pg gb)) := by
  obtain ⟨g, a, N, st, fd, F, hm, bd, S, hN, hv, d1, d2, gv⟩ := Dl.ex
  obtain ⟨oc, od, kV, doc, pm, an, cdv, ct, osl, rfl, lk, hcd⟩ := F.ex
  exact q_lamG is hm F.kp lk hcd bd S hN hv (fun f c1 s H Q tl r => gv X rfl rfl rfl rfl rfl hgu _ cdv f c1 s H Q tl (r.mono hj)) TB hcode hT hu hn (hr.mono hk) L hdef hbind hbody hg hdb d1 d2
end
section
variable {Θ : Th} {X : Cx} {pos : Pos} {Z : ZT}
theorem q_callXZ (hZ : Θ.Z = Z) {k k' : Nat} {f : Addr} {fd : FuncData} {prm : List Str} {p : PSp} {x : Str} {a : Expr} {es : List Expr} {ga : GA} {pp : Pos} (tk : Takes X (wOf Θ)) (D0 : DefQ X.prog X.w X.K X.mg X.base Θ.C x k f fd prm p) (hr : Room k' X.A) (ha : PA X (a :: es) (tOfA Θ ga)) (hk : k ≤ k' := by decide) (hg : Gl X x := by rfl)
    (hdb : (x == ("__debug__" : Str)) = false := by decide) (he : starEach (a :: es) X.env = (false, eval a X.env) :: starEach es X.env := by rfl) (hpl : (backTo pos (starEach es X.env)).any (·.1) = false := by rfl) :
    PE X (.Call (.Name x pp) (a :: es) [] pos) (tOf Θ (gCallX Z p ga)) := hZ ▸ q_callX tk D0 hr ha hk hg hdb he hpl
variable {k k' n : Nat} {f : Addr} {fd : FuncData} {prm ks : List Str} {p : PSp} {x : Str} {kws : List Keyword} {ga gk : GA} {pp : Pos} {gg : List Value → List Value → List Value} {a : Expr} {as : List Expr} {ix : List Nat}
end
end L2.Q
set_option Elab.async false
set_option linter.all false
set_option maxRecDepth 100000
set_option maxHeartbeats 4000000
namespace L2.Q
open PySem PySem.Spec PyProof.Rows L2 L2.Wb LamX NdefX
theorem notCd {C : Cn} {m : Dr} {n : Nat} {H : Hp} {b : Addr} {q : Str} (ls : LSo C m n H) (h : H b = some (CodeO b q)) (hm : ∃ gl cl, m = some (C.sa, gl, cl)) : ¬ N3o C m b := fun z => by
  obtain ⟨gl, cl, rfl⟩ := hm
  obtain ⟨⟨⟨d, gs, cs, t, h1, h2, h3, _⟩, _⟩, tb⟩ := ls
  rcases z with (z | z | z) | ⟨p, hp, e⟩
  · rw [z] at h; rw [h1] at h; cases h
  · rw [z] at h; rw [h2] at h; cases h
  · rw [z] at h; rw [h3] at h; cases h
  · obtain ⟨ps, z1, _⟩ := tb p hp
    rw [e, h] at z1; cases z1
theorem q_gives {X : Cx} {k : Nat} {N : List Str} {x a q : Str} {st : Stmt} {g : Addr} {cd : Value} {C : Cn} {pg : BhT → Nat → (D → Bool → Nat → Prop) → Prop}
    (body : ∀ (m : Dr) (M : Addr → Prop) (H : Hp) (std : ∀ b, M b → ∃ o, H b = some o ∧ NoTup o) (n3 : ∀ b, N3o C m b → M b) (ms : ∃ gl cl, m = some (C.sa, gl, cl)) (s : Shared) (f c1 : Addr) (tl : XK → Hp → VK → Prop) (Bh : BhT), Room k (X.A.deeper (envOfC x (defScope st) s.heap.objs.size g cd)) →
      (∀ (W : WX) (pn : List (Addr × Obj)) (xe : Value → Shared → Prop) (p1 p2 : Pos), Takes ((givCx X N x (defScope st) g cd s H).tr pn xe) W → PE ((givCx X N x (defScope st) g cd s H).tr pn xe) (.Call (.Name a p1) [] [] p2) (fun τ G Q => τ[0]? = some (some (.ref f)) ∧ G c1 = some (CodeO c1 q) ∧ tl (WE W τ) G Q)) →
      H c1 = some (CodeO c1 q) → ¬ N3o C m c1 → ActsQ tl C m M H Bh →
      ∃ G, PSs (givCx X N x (defScope st) g cd s H).nox (defBody st) (tOfS (mkTh C m M H std n3 ms noZ) G) ∧ ∀ n R, pg Bh n R → G { nx := fun e => R .non false e.n, rt := R } ⟨initS N.length [.raw (.ref f)], n⟩) :
    GivesS X k N x (defScope st) g cd (defBody st) a q (TTq C pg) := fun f c1 s H Q tl hr act hc ⟨m, M, n, Bh, R, std, n3, ms, ls, ac, hp, hq⟩ => by
  obtain ⟨G, hP, hg⟩ := body m M H std n3 ms s f c1 tl Bh hr act hc (notCd ls hc ms) ac
  refine ⟨_, hP, _, _, start_er ls (.cons (.raw _) .nil), hg n R hp, ⟨fun σ' H' e' l E' h' => ?_, fun _ _ _ _ _ h' => h'.elim, fun _ _ _ _ _ h' => h'.elim, fun v d fr H' n' r h' => ?_⟩⟩
  · obtain ⟨z1, z2, z3⟩ := (Res.mk E' .non).ret.giv
    exact hq _ _ false _ _ z1 z2 z3 h'
  · obtain ⟨z1, z2, z3⟩ := r.giv
    exact hq v d fr n' H' z1 z2 z3 h'
theorem ERepX.clrS {Θ : Th} {σ : L2.St} {H : Hp} {e : L2.Q.Env} {i : Nat} (E : ERep Θ σ H e) (hi : i < e.sl.length) : ERep Θ (σ.set i none) H ⟨setS e.sl i none, e.n⟩ ∧ Le (cut (Mm Θ XO σ e.sl) H) (cut (Mm Θ XO (σ.set i none) (setS e.sl i none)) H) := by
  have hσ := E.lt hi
  have own : ∀ b, owns (σ.set i none) (setS e.sl i none) b → owns σ e.sl b := fun b ⟨j, d, h1, h2⟩ => by
    rw [getS_set hi] at h1
    by_cases c : j = i
    · rw [if_pos c] at h1; cases h1
    · rw [if_neg c] at h1
      rw [List.getElem?_set_ne (Ne.symm c)] at h2
      exact ⟨j, d, h1, h2⟩
  have le : Le (cut (Mm Θ XO σ e.sl) H) (cut (Mm Θ XO (σ.set i none) (setS e.sl i none)) H) := le_mono fun b z => z.elim .inl fun z => z.elim (fun z => .inr (.inl (own b z))) fun z => .inr (.inr z)
  refine ⟨⟨E.ls, E.kept, by rw [List.length_set]; exact E.len.trans setS_len.symm, fun j d q => ?_, fun j d q => ?_, fun j k d1 d2 a q1 q2 q3 q4 => ?_, E.fxs⟩, le⟩
  · rw [getS_set hi] at q
    by_cases c : j = i
    · rw [if_pos c] at q; cases q
    · rw [if_neg c] at q
      obtain ⟨u, h1, h2⟩ := E.sh j d q
      exact ⟨u, by rw [List.getElem?_set_ne (Ne.symm c)]; exact h1, h2.le le⟩
  · rw [getS_set hi] at q
    by_cases c : j = i
    · rw [if_pos c] at q; cases q
    · rw [if_neg c] at q
      obtain ⟨a, h1, h2, h3, h4⟩ := E.ow j d q
      exact ⟨a, by rw [List.getElem?_set_ne (Ne.symm c)]; exact h1, h2, h3, h4.mono le fun o q => q⟩
  · rw [getS_set hi] at q1 q2
    by_cases c1 : j = i
    · rw [if_pos c1] at q1; cases q1
    · by_cases c2 : k = i
      · rw [if_pos c2] at q2; cases q2
      · rw [if_neg c1] at q1
        rw [if_neg c2] at q2
        rw [List.getElem?_set_ne (Ne.symm c1)] at q3
        rw [List.getElem?_set_ne (Ne.symm c2)] at q4
        exact E.inj j k d1 d2 a q1 q2 q3 q4
/-- what was let out, held from here on -/
theorem held_rp {C : Cn} {N : Addr → Prop} {H : Hp} {c : Str} {ks : List Str} {es : List D} {cls : Value} {od : Option Addr} {a : Addr} (h : ExR C N H c ks es cls od) (na : H a = none) (nN : ¬ N a) : Rp C (cut N (upd H a (exh cls od a))) (.ref a) (.exc c ks es) := by
  obtain ⟨rfl, h⟩ := h
  have ha : cut N (upd H a (exh (.ref (C.cA c)) od a)) a = some (exh (.ref (C.cA c)) od a) := cutAt nN upd_same
  have hs : Le (cut N H) (cut N (upd H a (exh (.ref (C.cA c)) od a))) := le_cut fun b o nb z => ⟨nb, Same.new na _ _ z⟩
  cases od with
  | none =>
    obtain ⟨rfl, rfl⟩ := h
    exact .exc0 ha
  | some d =>
    obtain ⟨fs, h1, h2, h3⟩ := h
    exact .exc1 ha (hs.x _ _ h1) h2 (h3.le hs)
/-- try: work() / except X as n: y = n: work in slot 0, n in slot i, y in slot j -/
def gTryW (i j : Nat) (f : Addr) (Bh : BhT) (sub : Str → Option Bool) : GS := fun De e => getS e.sl 0 = some (.raw (.ref f), false) ∧ i < e.sl.length ∧ j < e.sl.length ∧
  ∃ (R0 : D → Bool → Nat → Prop) (Y0 : Str → List Str → List D → Nat → Prop), Bh e.n R0 Y0 ∧ (∀ d fr n', R0 d fr n' → De.nx ⟨e.sl, n'⟩) ∧ ∀ c ks es n', Y0 c ks es n' → sub c = some true ∧ De.nx ⟨setS (setS e.sl j (some (.exc c ks es, false))) i none, n'⟩
section
variable {X : Cx} {N : List Str} {x q : Str} {st : Stmt} {g : Addr} {cd : Value}
theorem q_tryW {C : Cn} {m : Dr} {M : Addr → Prop} {H0 : Hp} {std : ∀ b, M b → ∃ o, H0 b = some o ∧ NoTup o} {n3 : ∀ b, N3o C m b → M b} {ms : ∃ gl cl, m = some (C.sa, gl, cl)} {s : Shared} {f c1 : Addr} {tl : XK → Hp → VK → Prop} {Bh : BhT} {a n y X0 : Str} {i j : Nat} {sub : Str → Option Bool} {p1 p2 p3 p4 p5 p6 p7 p8 pos : Pos}
    (act : ∀ (W : WX) (pn : List (Addr × Obj)) (xe : Value → Shared → Prop) (p1 p2 : Pos), Takes ((givCx X N x (defScope st) g cd s H0).tr pn xe) W → PE ((givCx X N x (defScope st) g cd s H0).tr pn xe) (.Call (.Name a p1) [] [] p2) (fun τ G Q => τ[0]? = some (some (.ref f)) ∧ G c1 = some (CodeO c1 q) ∧ tl (WE W τ) G Q))
    (hc1 : H0 c1 = some (CodeO c1 q)) (hn1 : ¬ N3o C m c1) (ac : ActsQ tl C m M H0 Bh) (hN : N.Nodup) (hi : N[i]? = some n) (hj : N[j]? = some y) (hij : i ≠ j) (li : (defScope st).names.lookup n = some .local) (lj : (defScope st).names.lookup y = some .local)
    (hX : X.mg X0 = some (.ref (C.cA X0))) (hsub : ∀ c b, sub c = some b → PySem.W.exmOne X.K (.ref (C.cA c)) (.ref (C.cA X0)) = some b) (hgX : (defScope st).names.lookup X0 = some .globalImplicit) (hd0 : (X0 == ("__debug__" : Str)) = false) (hd1 : (n == ("__debug__" : Str)) = false) (hd2 : (n == ("__classdict__" : Str)) = false) :
    PS (givCx X N x (defScope st) g cd s H0).nox (.Try [.Expr (.Call (.Name a p1) [] [] p2) p3] [.ExceptHandler (some (.Name X0 p4)) (some n) [.Assign [.Name y p5] (.Name n p6) p7] p8] [] [] pos) (tOfS (mkTh C m M H0 std n3 ms noZ) (gTryW i j f Bh sub)) := by
  have kd : ∀ z : Str, (defScope st).names.lookup z = some .local → (givCx X N x (defScope st) g cd s H0).nox.env.kindOf z = some .local := fun z h => h
  refine ps_conv (ps_try_held (X := (givCx X N x (defScope st) g cd s H0).nox) (c := .ref (C.cA X0)) (i := i) (Wout := fun _ _ _ _ => False)
    (tb := fun W D σ H => σ[0]? = some (some (.ref f)) ∧ H c1 = some (CodeO c1 q) ∧ tl (WE W σ) H (fun _ H' => D.nx σ H'))
    (ts := fun _ _ _ D σ H => ∃ v, σ[i]? = some (some v) ∧ D.nx (σ.set j (some v)) H)
    rfl rfl rfl hN hi (kd n li) ⟨hgX, hd0, .inl hX⟩ LamX.takes0 (fun W pn xe tk _ => ?_) (fun b oe cls d pn _ _ => ?_)) fun Dn σ H ⟨e, De, E, h, mt⟩ => ?_
  · exact pss_conv (pss_one (ps_expr (act W pn xe p1 p2 tk))) fun D σ H ⟨h1, h2, h3⟩ => ⟨h1, h2, h3⟩
  · exact pss_conv (pss_one (ps_set (i := j) hN hj (.inl lj) (pe_var (i := i) hi (.inl li) hd1 hd2) rfl (.inr lj))) fun D σ H ⟨v, h1, h2⟩ => ⟨v, h1, h2⟩
  · obtain ⟨h0, hil, hjl, R0, Y0, hB, hR0, hY0⟩ := h
    obtain ⟨v0, e0, r0⟩ := E.sh 0 _ h0
    cases r0
    have hc : H c1 = some (CodeO c1 q) := by
      rcases E.kept c1 _ hn1 hc1 with z | ⟨z, _⟩
      · exact z
      · exact z.elim
    have kp : Kept (N3o C m) H0 H := fun b o nb z => (E.kept b o nb z).elim id fun z => z.1.elim
    refine ⟨e0, hc, ac H _ e.n _ _ _ _ (ERep.std' E) (fun b z => .inl (n3 b z)) (fun b o hb z => ?_) kp E.ls hB (fun v d fr n' H' k1 l1 gv r => ?_) (fun c ks es n' cls od H' k1 l1 xr yr => ?_)⟩
    · rcases z with z | ⟨k, d, z1, z2⟩ | z | ⟨o2, z⟩
      · exact z
      · obtain ⟨b2, w1, w2, _⟩ := E.ow k d z1
        rw [z2] at w1; cases w1
        rw [show H0 b = none from w2] at hb; cases hb
      · exact z.elim
      · exact nomatch z
    · obtain ⟨E1, l2⟩ := E.step k1 l1
      exact mt.nx _ _ ⟨e.sl, n'⟩ l2 E1 (hR0 _ _ _ r)
    · obtain ⟨hs, hy⟩ := hY0 _ _ _ _ yr
      obtain ⟨E1, l2⟩ := E.step k1 l1
      refine ⟨true, by rw [xr.1]; exact hsub c true hs, fun _ b nb => ⟨.ref b, ?_, fun nb2 => ?_⟩, fun w => nomatch w⟩
      · exact List.getElem?_set_self (show i < σ.length by rw [E.len]; exact hil)
      · obtain ⟨E2, l3⟩ := E1.same (Same.new (o := exh cls od b) nb)
        have hr := held_rp xr nb (E1.newM nb fun z => z)
        obtain ⟨E3, l4⟩ := E2.put (i := j) hjl hr
        obtain ⟨E4, l5⟩ := E3.clrS (i := i) (by show i < (setS e.sl j _).length; rw [setS_len]; exact hil)
        have es : ((σ.set i (some (.ref b))).set j (some (V.ref b))).set i none = (σ.set j (some (V.ref b))).set i none := by
          refine List.ext_getElem? fun k => ?_
          rw [List.getElem?_set, List.getElem?_set, List.getElem?_set, List.getElem?_set, List.getElem?_set]
          simp only [List.length_set]
          by_cases ck : i = k
          · rw [if_pos ck, if_pos ck]
          · rw [if_neg ck, if_neg ck, if_neg ck]
        rw [es]
        exact mt.nx _ _ _ (((l2.trans l3).trans l4).trans l5) E4 hy
end
def ktGet (kt : List (Str × Str × Bool)) (c x : Str) : Option Bool := match kt with
  | [] => none
  | p :: r => if p.1 = c ∧ p.2.1 = x then some p.2.2 else ktGet r c x
theorem ktGet_mem : ∀ {kt : List (Str × Str × Bool)} {c x : Str} {b : Bool}, ktGet kt c x = some b → (c, x, b) ∈ kt
  | [], _, _, _, h => nomatch h
  | (c', x', b') :: r, c, x, b, h => by
    unfold ktGet at h
    by_cases q : c' = c ∧ x' = x
    · rw [if_pos q] at h
      obtain ⟨rfl, rfl⟩ := q
      cases h
      exact List.mem_cons_self
    · rw [if_neg q] at h
      exact List.mem_cons_of_mem _ (ktGet_mem h)
/-- what is known of exceptions' classes: which is one of which, which attributes are their own -/
structure ExK (K : PySem.W.Frag) (C : Cn) (kt : List (Str × Str × Bool)) (fl : List (Str × Str)) : Prop where
  ex : ∀ p ∈ kt, ExD K (C.cA p.1)
  kit : ∀ p ∈ kt, PySem.W.kitOne K (.ref (C.cA p.1)) (.ref (C.cA p.2.1)) = some p.2.2
  fx : ∀ p ∈ fl, ExD K (C.cA p.1)
  fd : ∀ p ∈ fl, PySem.W.findIn K (.ref (C.cA p.1)) p.2 = some none
theorem exc_at {C : Cn} {N : Addr → Prop} {H : Hp} {v : V} {c : Str} {ks : List Str} {es : List D} (r : Rp C (cut N H) v (.exc c ks es)) :
    ∃ a od, v = .ref a ∧ H a = some (exh (.ref (C.cA c)) od a) ∧ match od with
      | none => ks = [] ∧ es = []
      | some d => ∃ fs, H d = some (.xd fs) ∧ fs.map (·.1) = ks ∧ RpA C (cut N H) (fs.map (·.2)) es := by
  cases r with
  | exc0 h => exact ⟨_, none, rfl, (cut_in h).2, rfl, rfl⟩
  | exc1 h h2 h3 h4 => exact ⟨_, some _, rfl, (cut_in h).2, _, (cut_in h2).2, h3, h4⟩
section
variable {Θ : Th} {X : Cx} {pos : Pos} {kt : List (Str × Str × Bool)} {fl : List (Str × Str)}
def isXF (cA : Str → Addr) (kt : List (Str × Str × Bool)) (x : Str) : List D → (D → Bool → Prop) → Prop := fun ds k => match ds with
  | [.exc c _ _, .raw (.ref A)] => A = cA x ∧ ∃ b, ktGet kt c x = some b ∧ k (.bl b) false
  | _ => False
theorem cq_isX (hE : ExK X.K Θ.C kt fl) (x : Str) : CaQ X Θ (.builtin "isinstance") (isXF Θ.C.cA kt x) := by
  refine ⟨_, call_isH, fun σ H e vs ds k Q E r h K => ?_⟩
  match ds, r, h with
  | [.exc c ks es, .raw (.ref A)], r, ⟨hA, b, hb, hk⟩ =>
    subst hA
    obtain ⟨v, v', rfl, rv, rv'⟩ := r.two
    cases rv'
    obtain ⟨a, od, rfl, ha, hd⟩ := exc_at rv
    have hm := ktGet_mem hb
    exact ⟨a, _, od, _, _, b, rfl, ha, fun dd e => by subst e; obtain ⟨fs, h1, _⟩ := hd; exact ⟨fs, h1⟩, hE.ex _ hm, .own _, hE.kit _ hm, K _ _ _ _ (Res.mk E (.bl _)) hk⟩
/-- .. one of several -/
def ktAny (kt : List (Str × Str × Bool)) (c : Str) : List Str → Option Bool
  | [] => some false
  | x :: xs => match ktGet kt c x with
    | some true => some true
    | some false => ktAny kt c xs
    | none => none
theorem ktAny_ok {K : PySem.W.Frag} {C : Cn} (hE : ExK K C kt fl) {c : Str} : ∀ {xs : List Str} {b : Bool}, ktAny kt c xs = some b → PySem.W.kitAny K (.ref (C.cA c)) (xs.map fun x => .ref (C.cA x)) = some b
  | [], b, h => h
  | x :: xs, b, h => by
    unfold ktAny at h
    show (match PySem.W.kitOne K (.ref (C.cA c)) (.ref (C.cA x)) with | some true => some true | some false => PySem.W.kitAny K (.ref (C.cA c)) (xs.map fun x => .ref (C.cA x)) | none => none) = some b
    cases q : ktGet kt c x with
    | none => rw [q] at h; cases h
    | some t =>
      rw [q] at h
      rw [show PySem.W.kitOne K (.ref (C.cA c)) (.ref (C.cA x)) = some t from hE.kit _ (ktGet_mem q)]
      cases t with
      | true => exact h
      | false => exact ktAny_ok hE h
def isXTF (cA : Str → Addr) (kt : List (Str × Str × Bool)) (xs : List Str) : List D → (D → Bool → Prop) → Prop := fun ds k => match ds with
  | [.exc c _ _, .tup es] => es = xs.map (fun x => D.raw (.ref (cA x))) ∧ ktGet kt c c ≠ none ∧ ∃ b, ktAny kt c xs = some b ∧ k (.bl b) false
  | _ => False
def rIsHT (K : PySem.W.Frag) : List V → Hp → VK → Prop := fun xs H Q => ∃ (a D p : Addr) (d : Option Addr) (cs : List Addr) (b : Bool), xs = [.ref a, .ref p] ∧ H a = some (exh (.ref D) d a) ∧ (∀ dd, d = some dd → ∃ fs, H dd = some (.xd fs)) ∧ ExD K D ∧ H p = some (.tup (cs.map V.ref)) ∧ PySem.W.kitAny K (.ref D) (cs.map Value.ref) = some b ∧ Q (.bl b) H
theorem vals_refs : ∀ {cs : List Addr} {us : List Value}, Vals (cs.map V.ref) us → us = cs.map Value.ref
  | [], _, h => by cases h; rfl
  | c :: cs, _, h => by
    cases h with
    | cons h1 h2 =>
      cases (show _ = Value.ref c from h1)
      rw [vals_refs h2]; rfl
theorem call_isHT : CallR X (.builtin "isinstance") (rIsHT X.K) := by
  intro pins s σ H xs us Q I r ⟨a, D, p, d, cs, b, ex, h, hd, C, hp, e, q⟩
  subst ex
  obtain ⟨u, v, eu, ru, rv⟩ := vals2 r
  subst eu
  cases (show u = Value.ref a from ru)
  cases (show v = Value.ref p from rv)
  obtain ⟨oe, od, J, _⟩ := held_inst I h hd
  obtain ⟨_, its, rits, o, ho, hc, n, hdt⟩ := I.hok p _ hp
  cases vals_refs rits
  obtain ⟨oc, odt, dt, sl⟩ := o
  cases hc
  cases hdt
  exact PySem.W.kia_tup (PySem.W.kitx_exc C.cl C.ga C.gg C.su C.ca C.sp C.tk C.mo) I.kIn J ho e (fun z => nomatch z) fun tk => ⟨.bl b, H, I.kept (t' := tk) fun _ _ z => z, rfl, q⟩
theorem raws_eq {C : Cn} {H : Hp} {cA : Str → Addr} : ∀ {xs : List Str} {us : List V}, RpA C H us (xs.map fun x => D.raw (.ref (cA x))) → us = xs.map fun x => V.ref (cA x)
  | [], _, h => by cases h; rfl
  | x :: xs, _, h => by
    cases h with
    | cons r1 r2 =>
      cases r1
      rw [List.map_cons, raws_eq r2]
theorem cq_isXT (hE : ExK X.K Θ.C kt fl) (xs : List Str) : CaQ X Θ (.builtin "isinstance") (isXTF Θ.C.cA kt xs) := by
  refine ⟨_, call_isHT, fun σ H e vs ds k Q E r h K => ?_⟩
  match ds, r, h with
  | [.exc c ks es, .tup ts], r, ⟨hA, hs, b, hb, hk⟩ =>
    subst hA
    obtain ⟨v, v', rfl, rv, rv'⟩ := r.two
    obtain ⟨p, us, rfl, hp, ru⟩ := rv'.tupE
    obtain ⟨a, od, rfl, ha, hd⟩ := exc_at rv
    have eu : us = xs.map fun x => V.ref (Θ.C.cA x) := raws_eq ru
    subst eu
    have hq : ∃ t, ktGet kt c c = some t := by
      cases q : ktGet kt c c with
      | none => exact absurd q hs
      | some t => exact ⟨t, rfl⟩
    obtain ⟨t, hq⟩ := hq
    refine ⟨a, _, p, od, xs.map Θ.C.cA, b, rfl, ha, fun dd e => by subst e; obtain ⟨fs, h1, _⟩ := hd; exact ⟨fs, h1⟩, hE.ex _ (ktGet_mem hq), by rw [List.map_map]; exact hp, by rw [List.map_map]; exact ktAny_ok hE hb, K _ _ _ _ (Res.mk E (.bl _)) hk⟩
/-- a field of an exception -/
def gFldX (fl : List (Str × Str)) (f : Str) (g : GE) : GE := fun e Q => g e fun d _ e1 => match d with
  | .exc c ks es => (c, f) ∈ fl ∧ ∃ x, getK ks es f = some x ∧ Q x false e1
  | _ => False
theorem q_fldX {f : Str} {a : Expr} {g : GE} (hE : ExK X.K Θ.C kt fl) (ha : PE X a (tOf Θ g)) (hb : attributeBase a f X.env (eval a X.env) = eval a X.env := by rfl) : PE X (.Attribute a f pos) (tOf Θ (gFldX fl f g)) :=
  pe_conv (pe_heldF ha hb) fun σ H Q ⟨e, Qp, E, h, k⟩ => ⟨e, _, E, h, fun v d fr H1 e1 r1 h1 => by
    match d, r1, h1 with
    | .exc c ks es, r1, ⟨hm, x, hx, hq⟩ =>
      obtain ⟨a, od, rfl, ha, hd⟩ := exc_at r1.rp
      match od, ha, hd with
      | none, ha, hd => rw [hd.1, hd.2] at hx; cases hx
      | some dd, ha, ⟨fs, h1, h2, h3⟩ =>
        obtain ⟨w, h5, h6⟩ := lookup_rp h2 h3 hx
        exact ⟨a, _, dd, fs, w, rfl, ha, h1, hE.fx _ hm, hE.fd _ hm, h5, k _ _ _ _ _ (Res.from r1.le (Res.mk r1.er h6)) hq⟩⟩
end
/-- these are taken -/
def subL (xs : List Str) : Str → Option Bool := fun c => if c ∈ xs then some true else none
theorem subL_ok {K : PySem.W.Frag} {cA : Str → Addr} {xs : List Str} {X0 : Str} (h : ∀ c ∈ xs, PySem.W.exmOne K (.ref (cA c)) (.ref (cA X0)) = some true) : ∀ c b, subL xs c = some b → PySem.W.exmOne K (.ref (cA c)) (.ref (cA X0)) = some b := fun c b e => by
  unfold subL at e
  by_cases q : c ∈ xs
  · rw [if_pos q] at e; cases e; exact h c q
  · rw [if_neg q] at e; cases e
end L2.Q
set_option Elab.async false
set_option linter.all false
set_option maxRecDepth 100000
set_option maxHeartbeats 4000000
namespace L2.Q.Wbm
open PySem PySem.Spec PyProof.Rows L2 L2.Wb L2.Q
structure Sd (w k : Nat) (d : D) : Prop where
  pd : pdD d = true
  sh : (toPy d).showable = true
  le : (toPy d).leavesShort 60 = true
  wt : (toPy d).weight ≤ w
  dp : (toPy d).depth ≤ k
theorem Sd.mono {w k w' k' : Nat} {d : D} (h : Sd w k d) (a : w ≤ w') (b : k ≤ k') : Sd w' k' d := ⟨h.pd, h.sh, h.le, Nat.le_trans h.wt a, Nat.le_trans h.dp b⟩
theorem Sd.shw {w k : Nat} {d : D} (h : Sd w k d) (a : w ≤ 200000) (b : k ≤ 40) : Shw (toPy d) := ⟨h.sh, h.le, Nat.le_trans h.wt a, Nat.le_trans h.dp b⟩
theorem sd_repr {w k : Nat} {d : D} {Q : D → Bool → Prop} (h : Sd w k d) (hq : Q (.str (toPy d).shown) false) (a : w ≤ 200000 := by decide) (b : k ≤ 40 := by decide) : reprF [d] Q := ⟨d, rfl, h.pd, h.shw a b, hq⟩
theorem sd_non : Sd 0 0 .non := ⟨rfl, rfl, rfl, Nat.le_refl _, Nat.le_refl _⟩
theorem sd_bl (b : Bool) : Sd 0 0 (.bl b) := ⟨rfl, rfl, rfl, Nat.le_refl _, Nat.le_refl _⟩
theorem sd_int {i : Int} (h : i.natAbs < 10 ^ 18) : Sd 60 0 (.int i) := by
  have hl : i.natAbs.log2 < 60 := by
    by_cases c : i.natAbs = 0
    · rw [c]; decide
    · exact (Nat.log2_lt c).mpr (Nat.lt_trans h (by decide))
  refine ⟨rfl, decide_eq_true (Nat.lt_trans hl (by decide)), ?_, ?_, Nat.le_refl _⟩
  · show decide ((PyData.shown (.int i)).length ≤ 60) = true
    refine decide_eq_true ?_
    have e := int_text_length_le10 (a := i) (k := 18) (by decide) h
    have e2 : (PyData.shown (.int i)).length = (toString i).length := by
      show (Str.ofString (toString i)).length = _
      exact PySem.ofString_length _
    omega
  · show (if i == 0 then 0 else i.natAbs.log2 + 1) ≤ 60
    split <;> omega
theorem sd_str {x : Str} {w : Nat} (h : ∀ c ∈ x.cps.toList, c < 16 ^ 8) (hl : x.length ≤ w) : Sd w 0 (.str x) := by
  refine ⟨rfl, rfl, ?_, ?_, Nat.le_refl _⟩
  · show (x.cps.toList.all fun c => decide (c < 16 ^ 8)) = true
    rw [List.all_eq_true]
    exact fun c hc => decide_eq_true (h c hc)
  · exact hl
theorem name_low {x : Str} (h : isNameS x = true) : x.length ≤ 8 ∧ 1 ≤ x.length ∧ ∀ c ∈ x.cps.toList, 97 ≤ c ∧ c ≤ 122 := by
  unfold isNameS at h
  simp only [Bool.and_eq_true, decide_eq_true_eq] at h
  refine ⟨h.1.2, h.1.1, fun c hc => ?_⟩
  have z := List.all_eq_true.mp h.2 c hc
  unfold isLow at z
  simpa using z
theorem sd_name {x : Str} (h : isNameS x = true) : Sd 8 0 (.str x) := by
  obtain ⟨a, _, b⟩ := name_low h
  exact sd_str (fun c hc => Nat.lt_of_le_of_lt (b c hc).2 (by decide)) a
theorem sd_word {x : Str} (h : x ∈ words) : Sd 8 0 (.str x) := by
  have t : ∀ x ∈ words, isNameS x = true := by decide +kernel
  exact sd_name (t x h)
theorem sd_all {w k : Nat} : ∀ {ds : List D}, (∀ d ∈ ds, Sd w k d) → pdA ds = true ∧ PyData.showableAll (toPyA ds) = true ∧ PyData.leavesShortAll 60 (toPyA ds) = true ∧ PyData.weightAll (toPyA ds) ≤ ds.length * (w + 1) ∧ PyData.depthAll (toPyA ds) ≤ k
  | [], _ => ⟨rfl, rfl, rfl, Nat.zero_le _, Nat.zero_le _⟩
  | d :: r, h => by
    obtain ⟨p, a, b, c, e⟩ := sd_all fun x hx => h x (List.mem_cons_of_mem _ hx)
    have hd := h d List.mem_cons_self
    refine ⟨?_, ?_, ?_, ?_, ?_⟩
    · show (pdD d && pdA r) = true
      rw [hd.pd, p]; rfl
    · show ((toPy d).showable && PyData.showableAll (toPyA r)) = true
      rw [hd.sh, a]; rfl
    · show ((toPy d).leavesShort 60 && PyData.leavesShortAll 60 (toPyA r)) = true
      rw [hd.le, b]; rfl
    · show (toPy d).weight + 1 + PyData.weightAll (toPyA r) ≤ (r.length + 1) * (w + 1)
      have := hd.wt
      rw [Nat.succ_mul]
      omega
    · show max (toPy d).depth (PyData.depthAll (toPyA r)) ≤ k
      exact Nat.max_le.mpr ⟨hd.dp, e⟩
theorem sd_lst {w k : Nat} (n : Nat) {ds : List D} (h : ∀ d ∈ ds, Sd w k d) (hn : ds.length ≤ n) : Sd (n * (w + 1)) (k + 1) (.lst ds) := by
  obtain ⟨p, a, b, c, e⟩ := sd_all h
  exact ⟨p, a, b, Nat.le_trans c (Nat.mul_le_mul_right _ hn), Nat.succ_le_succ e⟩
theorem sd_tup {w k : Nat} (n : Nat) {ds : List D} (h : ∀ d ∈ ds, Sd w k d) (hn : ds.length ≤ n) : Sd (n * (w + 1)) (k + 1) (.tup ds) := by
  obtain ⟨p, a, b, c, e⟩ := sd_all h
  exact ⟨p, a, b, Nat.le_trans c (Nat.mul_le_mul_right _ hn), Nat.succ_le_succ e⟩
theorem sd_kv {w k : Nat} {F : Str → D} : ∀ {ks : List Str}, (∀ x ∈ ks, isNameS x = true ∧ Sd w k (F x)) →
    pdA (ks.map F) = true ∧ PyData.showableKv (((ks.map (Sum.inr : Str → Key)).map kP).zip (toPyA (ks.map F))) = true ∧ PyData.leavesShortKv 60 (((ks.map (Sum.inr : Str → Key)).map kP).zip (toPyA (ks.map F))) = true ∧ PyData.weightKv (((ks.map (Sum.inr : Str → Key)).map kP).zip (toPyA (ks.map F))) ≤ ks.length * (w + 10) ∧ PyData.depthKv (((ks.map (Sum.inr : Str → Key)).map kP).zip (toPyA (ks.map F))) ≤ k
  | [], _ => ⟨rfl, rfl, rfl, Nat.zero_le _, Nat.zero_le _⟩
  | x :: r, h => by
    obtain ⟨p, a, b, c, e⟩ := sd_kv (ks := r) fun x hx => h x (List.mem_cons_of_mem _ hx)
    obtain ⟨hx, hd⟩ := h x List.mem_cons_self
    have hk := sd_name hx
    have k1 := hk.sh
    have k2 := hk.le
    have k3 : (PyData.str x).weight ≤ 8 := hk.wt
    refine ⟨?_, ?_, ?_, ?_, ?_⟩
    · show (pdD (F x) && pdA (r.map F)) = true
      rw [hd.pd, p]; rfl
    · show ((PyData.str x).showable && (toPy (F x)).showable && PyData.showableKv (((r.map (Sum.inr : Str → Key)).map kP).zip (toPyA (r.map F)))) = true
      rw [hd.sh, a]; rfl
    · show ((PyData.str x).leavesShort 60 && (toPy (F x)).leavesShort 60 && PyData.leavesShortKv 60 (((r.map (Sum.inr : Str → Key)).map kP).zip (toPyA (r.map F)))) = true
      rw [hd.le, b, show (PyData.str x).leavesShort 60 = true from k2]; rfl
    · show (PyData.str x).weight + (toPy (F x)).weight + 2 + PyData.weightKv (((r.map (Sum.inr : Str → Key)).map kP).zip (toPyA (r.map F))) ≤ (r.length + 1) * (w + 10)
      have := hd.wt
      rw [Nat.succ_mul]
      omega
    · show max (max (PyData.str x).depth (toPy (F x)).depth) (PyData.depthKv (((r.map (Sum.inr : Str → Key)).map kP).zip (toPyA (r.map F)))) ≤ k
      exact Nat.max_le.mpr ⟨Nat.max_le.mpr ⟨Nat.zero_le _, hd.dp⟩, e⟩
theorem sd_dct {w k : Nat} (n : Nat) {ks : List Str} {F : Str → D} (h : ∀ x ∈ ks, isNameS x = true ∧ Sd w k (F x)) (hn : ks.length ≤ n) : Sd (n * (w + 10)) (k + 1) (.dct (ks.map Sum.inr) (ks.map F)) := by
  obtain ⟨p, a, b, c, e⟩ := sd_kv h
  exact ⟨p, a, b, Nat.le_trans c (Nat.mul_le_mul_right _ hn), Nat.succ_le_succ e⟩
theorem sd_pan {r : Wbm.Row} (ok : rowOk r) {p : Option Str} (h : okP r p) : Sd 8 0 (panD p) := by
  cases p with
  | none => exact sd_non.mono (by decide) (by decide)
  | some x => exact sd_name (ok.nm x (h x rfl))
theorem rowOk.bname {r : Wbm.Row} (ok : rowOk r) {b : Str} (h : b ∈ r.beams.map (·.1)) : isNameS b = true := by
  obtain ⟨p, hp, rfl⟩ := List.mem_map.mp h
  exact (ok.bm p hp).1
theorem sd_rw {r : Wbm.Row} (ok : rowOk r) {x : Wg × Str} (h : okR r x) : Sd 36 1 (rwD x) := by
  refine sd_tup 4 (w := 8) (k := 0) (fun d hd => ?_) (Nat.le_refl _)
  simp only [List.mem_cons, List.not_mem_nil, or_false] at hd
  rcases hd with rfl | rfl | rfl | rfl
  · exact sd_name (ok.bname h.w.b)
  · exact sd_pan ok h.w.l
  · exact sd_pan ok h.w.q
  · exact sd_word h.d
theorem sd_rws {r : Wbm.Row} (ok : rowOk r) {xs : List (Wg × Str)} (h : ∀ x ∈ xs, okR r x) (hl : xs.length ≤ 1000) : Sd 37000 2 (.lst (xs.map rwD)) :=
  sd_lst 1000 (w := 36) (k := 1) (fun d hd => by obtain ⟨x, hx, rfl⟩ := List.mem_map.mp hd; exact sd_rw ok (h x hx)) (by rw [List.length_map]; exact hl)
/-- texts that are alike -/
theorem ne_self (x : Str) : (!eqD (.str x) (.str x)) = false := by rw [eqD_str, beq_self_eq_true]; rfl
end L2.Q.Wbm
set_option Elab.async false
set_option linter.all false
set_option maxRecDepth 100000
set_option maxHeartbeats 4000000
namespace L2.Q.Lw
open PySem PySem.Spec PyProof.Rows L2 L2.Wb L2.Q L2.Q.Wbm
def absI (t : Int) : Int := if t < 0 then -t else t
def manyN (t s : Int) : Int := -((-absI t) / s)
def sameRest (a b s : Int) : Bool := manyN a s == manyN b s && (decide (manyN a s * s = absI a) == decide (manyN b s * s = absI b))
def timesN (a b s : Int) : Option Int := if wordOf a ≠ wordOf b then some 1 else if sameRest a b s then none else some (min (manyN a s) (manyN b s) + 1)
theorem absI_nn (t : Int) : 0 ≤ absI t := by unfold absI; split <;> omega
end L2.Q.Lw
set_option Elab.async false
set_option linter.all false
set_option maxRecDepth 100000
set_option maxHeartbeats 4000000
namespace L2.Q.Wbm
open PySem PySem.Spec PyProof.Rows L2 L2.Wb L2.Q
theorem tellR_fst {st wt : Str → Int} : ∀ {xs : List Wg} {ln : Str → Int}, (tellR st wt ln xs).map (·.1) = xs
  | [], _ => rfl
  | x :: xs, ln => congrArg (x :: ·) tellR_fst
theorem tellR_ok {r : Wbm.Row} {st wt : Str → Int} : ∀ {xs : List Wg} {ln : Str → Int}, (∀ x ∈ xs, okW r x) → ∀ y ∈ tellR st wt ln xs, okR r y
  | [], _, _, y, hy => by cases hy
  | x :: xs, ln, h, y, hy => by
    rcases List.mem_cons.mp hy with rfl | hy
    · exact ⟨h x List.mem_cons_self, wordOf_mem _⟩
    · exact tellR_ok (fun z hz => h z (List.mem_cons_of_mem _ hz)) y hy
end L2.Q.Wbm
set_option Elab.async false
set_option linter.all false
set_option maxRecDepth 100000
set_option maxHeartbeats 4000000
namespace L2.Q.Lw
open PySem PySem.Spec PyProof.Rows L2 L2.Wb L2.Q L2.Q.Wbm
end L2.Q.Lw
set_option Elab.async false
set_option linter.all false
set_option maxRecDepth 100000
set_option maxHeartbeats 4000000
namespace L2.Q.Lw
open PySem PySem.Spec PyProof.Rows L2 L2.Wb L2.Q L2.Q.Wbm
theorem dm {a s : Int} (hs : 0 < s) : a % s + s * (a / s) = a ∧ 0 ≤ a % s ∧ a % s < s := (Int.ediv_emod_unique hs).mp ⟨rfl, rfl⟩
theorem sameRest_iff {a b s : Int} : sameRest a b s = true ↔ manyN a s = manyN b s ∧ (manyN a s * s = absI a ↔ manyN b s * s = absI b) := by
  unfold sameRest
  rw [Bool.and_eq_true, beq_iff_eq, beq_iff_eq, decide_eq_decide]
end L2.Q.Lw
set_option Elab.async false
set_option linter.all false
set_option maxRecDepth 100000
set_option maxHeartbeats 4000000
namespace L2.Q
open PySem PySem.Spec PyProof.Rows L2 L2.Wb
end L2.Q
set_option Elab.async false
set_option linter.all false
set_option maxRecDepth 100000
set_option maxHeartbeats 4000000
namespace L2.Q.Lw
open PySem PySem.Spec PyProof.Rows L2 L2.Wb L2.Q L2.Q.Wbm
theorem many_spec {a s : Int} (hs : 0 < s) : (manyN a s - 1) * s < absI a ∧ absI a ≤ manyN a s * s := by
  obtain ⟨h1, h2, h3⟩ := dm (a := -absI a) hs
  unfold manyN
  rw [Int.sub_mul, Int.one_mul, Int.neg_mul, Int.mul_comm ((-absI a) / s) s]
  omega
theorem word_pos {a : Int} (h : 0 < a) : wordOf a = "left" := if_pos h
theorem word_neg {a : Int} (h : a < 0) : wordOf a = "right" := by
  unfold wordOf
  rw [if_neg (by omega), if_neg (by omega)]
end L2.Q.Lw
set_option Elab.async false
set_option linter.all false
set_option maxRecDepth 100000
set_option maxHeartbeats 4000000
namespace L2.Q.Lw
open PySem PySem.Spec PyProof.Rows L2 L2.Wb L2.Q L2.Q.Wbm
/-- a search's weighing: its place among the leans, its step, its first sums in two worlds -/
structure Wx where
  k : Nat
  s : Int
  a : Int
  b : Int
def atG (x : List Int) (k : Nat) : Int := x.getD k 0
def sepX (x : List Int) (w : Wx) : Bool := !decide (wordOf (w.a + atG x w.k) = wordOf (w.b + atG x w.k))
def goX (x : List Int) (w : Wx) : List Int := x.set w.k (atG x w.k + turnN (wordOf (w.a + atG x w.k)) * w.s)
inductive Rch (ws : List Wx) (x0 : List Int) : Nat → List Int → Prop
  | z : Rch ws x0 0 x0
  | s {d x w} : Rch ws x0 d x → w ∈ ws → sepX x w = false → Rch ws x0 (d + 1) (goX x w)
structure OkW (ws : List Wx) (n : Nat) : Prop where
  k : ∀ w ∈ ws, w.k < n
  s : ∀ w ∈ ws, 0 < w.s
  e : ∀ w ∈ ws, ∀ v ∈ ws, w.k = v.k → w.s = v.s
def ftT (x0 : List Int) (w : Wx) : Option Int := timesN (w.a + atG x0 w.k) (w.b + atG x0 w.k) w.s
theorem goX_len {x : List Int} {w : Wx} : (goX x w).length = x.length := List.length_set
theorem atG_set {x : List Int} {k j : Nat} {v : Int} (h : k < x.length) : atG (x.set k v) j = if j = k then v else atG x j := by
  unfold atG
  rw [List.getD_eq_getElem?_getD, List.getD_eq_getElem?_getD, List.getElem?_set]
  by_cases c : k = j
  · rw [if_pos c, if_pos c.symm, if_pos (by omega)]; rfl
  · rw [if_neg c, if_neg fun z => c z.symm]
theorem Rch.len {ws : List Wx} {x0 : List Int} {d : Nat} {x : List Int} (h : Rch ws x0 d x) : x.length = x0.length := by
  induction h with
  | z => rfl
  | s h hw hs ih => rw [goX_len, ih]
theorem turn_c (w : Str) : turnN w = -1 ∨ turnN w = 0 ∨ turnN w = 1 := by
  unfold turnN
  split
  · exact .inl rfl
  · split
    · exact .inr (.inr rfl)
    · exact .inr (.inl rfl)
/-- behind d steps each lean is moved by at most d of its beam's steps -/
theorem Rch.near {ws : List Wx} {x0 : List Int} (ok : OkW ws x0.length) {d : Nat} {x : List Int} (h : Rch ws x0 d x) {w : Wx} (hw : w ∈ ws) : ∃ j : Int, -(d : Int) ≤ j ∧ j ≤ d ∧ atG x w.k = atG x0 w.k + j * w.s := by
  induction h with
  | z => exact ⟨0, by omega, by omega, by rw [Int.zero_mul, Int.add_zero]⟩
  | @s d x v h hv hs ih =>
    obtain ⟨j, j1, j2, e⟩ := ih
    unfold goX
    rw [atG_set (by rw [h.len]; exact ok.k v hv)]
    by_cases c : w.k = v.k
    · rw [if_pos c, ← ok.e w hw v hv c, ← c, e]
      rcases turn_c (wordOf (v.a + (atG x0 w.k + j * w.s))) with t | t | t <;> rw [t]
      · exact ⟨j - 1, by omega, by omega, by rw [Int.sub_mul]; omega⟩
      · exact ⟨j, by omega, by omega, by omega⟩
      · exact ⟨j + 1, by omega, by omega, by rw [Int.add_mul]; omega⟩
    · rw [if_neg c]
      exact ⟨j, by omega, by omega, e⟩
theorem word_tri (a : Int) : (wordOf a = "left" ∧ 0 < a) ∨ (wordOf a = "even" ∧ a = 0) ∨ (wordOf a = "right" ∧ a < 0) := by
  rcases Int.lt_trichotomy a 0 with h | h | h
  · exact .inr (.inr ⟨word_neg h, h⟩)
  · exact .inr (.inl ⟨by rw [h]; rfl, h⟩)
  · exact .inl ⟨word_pos h, h⟩
theorem word_same {a b : Int} : wordOf a = wordOf b ↔ (0 < a ∧ 0 < b) ∨ (a = 0 ∧ b = 0) ∨ (a < 0 ∧ b < 0) := by
  have n1 : ¬ (("left" : Str) = "even") := by decide
  have n2 : ¬ (("left" : Str) = "right") := by decide
  have n3 : ¬ (("even" : Str) = "right") := by decide
  rcases word_tri a with ⟨e, h⟩ | ⟨e, h⟩ | ⟨e, h⟩ <;> rcases word_tri b with ⟨e', h'⟩ | ⟨e', h'⟩ | ⟨e', h'⟩ <;> rw [e, e']
  · exact ⟨fun _ => .inl ⟨h, h'⟩, fun _ => rfl⟩
  · exact ⟨fun z => absurd z n1, fun z => by omega⟩
  · exact ⟨fun z => absurd z n2, fun z => by omega⟩
  · exact ⟨fun z => absurd z.symm n1, fun z => by omega⟩
  · exact ⟨fun _ => .inr (.inl ⟨h, h'⟩), fun _ => rfl⟩
  · exact ⟨fun z => absurd z n3, fun z => by omega⟩
  · exact ⟨fun z => absurd z.symm n2, fun z => by omega⟩
  · exact ⟨fun z => absurd z.symm n3, fun z => by omega⟩
  · exact ⟨fun _ => .inr (.inr ⟨h, h'⟩), fun _ => rfl⟩
theorem many_cut {a s j : Int} (hs : 0 < s) (ha : 0 ≤ a) : a ≤ j * s ↔ manyN a s ≤ j := by
  obtain ⟨m1, m2⟩ := many_spec (a := a) hs
  have e : absI a = a := by unfold absI; rw [if_neg (by omega)]
  rw [e] at m1 m2
  constructor
  · intro h
    by_cases c : manyN a s ≤ j
    · exact c
    · have : j * s ≤ (manyN a s - 1) * s := Int.mul_le_mul_of_nonneg_right (by omega) (by omega)
      omega
  · intro h
    have : manyN a s * s ≤ j * s := Int.mul_le_mul_of_nonneg_right h (by omega)
    omega
theorem many_neg' (a s : Int) : manyN (-a) s = manyN a s := by
  have : absI (-a) = absI a := by unfold absI; split <;> split <;> omega
  unfold manyN
  rw [this]
theorem sameRest_neg (a b s : Int) : sameRest (-a) (-b) s = sameRest a b s := by
  have h : ∀ a, absI (-a) = absI a := fun a => by unfold absI; split <;> split <;> omega
  unfold sameRest
  rw [many_neg', many_neg', h, h]
/-- two sums above 0 that are moved alike, and come to unlike words -/
theorem apart_pos {a b s j : Int} (hs : 0 < s) (ha : 0 < a) (hb : 0 < b) (h : wordOf (a + j * s) ≠ wordOf (b + j * s)) : sameRest a b s = false ∧ min (manyN a s) (manyN b s) ≤ -j := by
  have e : ∀ c : Int, (c + j * s ≤ 0 ↔ manyN c s ≤ -j) ∨ c < 0 := fun c => by
    by_cases q : c < 0
    · exact .inr q
    · refine .inl ?_
      rw [← many_cut hs (by omega), Int.neg_mul]; omega
  have ea : a + j * s ≤ 0 ↔ manyN a s ≤ -j := (e a).resolve_right (by omega)
  have eb : b + j * s ≤ 0 ↔ manyN b s ≤ -j := (e b).resolve_right (by omega)
  have hn : ¬ ((0 < a + j * s ∧ 0 < b + j * s) ∨ (a + j * s = 0 ∧ b + j * s = 0) ∨ (a + j * s < 0 ∧ b + j * s < 0)) := fun z => h (word_same.mpr z)
  refine ⟨?_, by omega⟩
  rw [Bool.eq_false_iff]
  intro z
  obtain ⟨z1, z2⟩ := sameRest_iff.mp z
  obtain ⟨ma1, ma2⟩ := many_spec (a := a) hs
  obtain ⟨mb1, mb2⟩ := many_spec (a := b) hs
  have eA : absI a = a := by unfold absI; rw [if_neg (by omega)]
  have eB : absI b = b := by unfold absI; rw [if_neg (by omega)]
  rw [eA] at ma1 ma2 z2
  rw [eB] at mb1 mb2 z2
  rw [z1] at ma1 ma2 z2 ea
  by_cases c : manyN b s ≤ -j
  · have ha0 := ea.mpr c
    have hb0 := eb.mpr c
    have hm : manyN b s * s ≤ -j * s := Int.mul_le_mul_of_nonneg_right c (by omega)
    rw [Int.neg_mul] at hm
    by_cases c2 : manyN b s * s = a
    · have := z2.mp c2
      omega
    · have c3 : ¬ manyN b s * s = b := fun q => c2 (z2.mpr q)
      omega
  · have ha0 : ¬ (a + j * s ≤ 0) := fun q => c (ea.mp q)
    have hb0 : ¬ (b + j * s ≤ 0) := fun q => c (eb.mp q)
    omega
theorem apart {a b s j : Int} (hs : 0 < s) (h : wordOf (a + j * s) ≠ wordOf (b + j * s)) : ∃ t, timesN a b s = some t ∧ t ≤ absI j + 1 := by
  have hA := absI_nn j
  unfold timesN
  by_cases c : wordOf a ≠ wordOf b
  · rw [if_pos c]; exact ⟨1, rfl, by omega⟩
  · rw [if_neg c]
    have c : wordOf a = wordOf b := Decidable.not_not.mp c
    rcases word_same.mp c with ⟨h1, h2⟩ | ⟨h1, h2⟩ | ⟨h1, h2⟩
    · obtain ⟨q1, q2⟩ := apart_pos hs h1 h2 h
      rw [q1]
      have : -j ≤ absI j := by unfold absI; split <;> omega
      exact ⟨_, rfl, by omega⟩
    · rw [h1, h2] at h
      exact absurd rfl h
    · have h' : wordOf (-a + -j * s) ≠ wordOf (-b + -j * s) := fun z => by
        have q := word_same.mp z
        rw [Int.neg_mul] at q
        exact h (word_same.mpr (by omega))
      obtain ⟨q1, q2⟩ := apart_pos (a := -a) (b := -b) (j := -j) hs (by omega) (by omega) h'
      rw [sameRest_neg] at q1
      rw [many_neg', many_neg', Int.neg_neg] at q2
      rw [q1]
      have : j ≤ absI j := by unfold absI; split <;> omega
      exact ⟨_, rfl, by omega⟩
/-- what is parted behind d steps is parted by one weighing alone, done no oftener than d + 1 times -/
theorem Rch.few {ws : List Wx} {x0 : List Int} (ok : OkW ws x0.length) {d : Nat} {x : List Int} (h : Rch ws x0 d x) {w : Wx} (hw : w ∈ ws) (hs : sepX x w = true) : ∃ t, ftT x0 w = some t ∧ t ≤ (d : Int) + 1 := by
  obtain ⟨j, j1, j2, e⟩ := h.near ok hw
  unfold sepX at hs
  have hne : wordOf (w.a + atG x w.k) ≠ wordOf (w.b + atG x w.k) := by simpa using hs
  rw [e, ← Int.add_assoc, ← Int.add_assoc] at hne
  obtain ⟨t, h1, h2⟩ := apart (ok.s w hw) hne
  have : absI j ≤ d := by unfold absI; split <;> omega
  exact ⟨t, h1, by omega⟩
theorem set_same {x : List Int} {k : Nat} : x.set k (atG x k) = x := by
  unfold atG
  by_cases c : k < x.length
  · rw [List.getD_eq_getElem?_getD, List.getElem?_eq_getElem c]
    exact List.set_getElem_self c
  · exact List.set_eq_of_length_le (by omega)
/-- what a search by layers tells -/
def IsFew (ws : List Wx) (x0 : List Int) : Option Int → Prop
  | some t => ∃ d : Nat, t = (d : Int) + 1 ∧ (∃ x, Rch ws x0 d x ∧ ∃ w ∈ ws, sepX x w = true) ∧ ∀ d' < d, ∀ x, Rch ws x0 d' x → ∀ w ∈ ws, sepX x w = false
  | none => ∀ d x, Rch ws x0 d x → ∀ w ∈ ws, sepX x w = false
end L2.Q.Lw
set_option Elab.async false
set_option linter.all false
set_option maxRecDepth 100000
set_option maxHeartbeats 4000000
namespace L2.Q
open PySem PySem.Spec PyProof.Rows L2 L2.Wb RZ
open Classical
end L2.Q
set_option Elab.async false
set_option linter.all false
set_option maxRecDepth 100000
set_option maxHeartbeats 4000000
namespace L2.Q
open PySem PySem.Spec PyProof.Rows L2 L2.Wb RZ
end L2.Q
set_option Elab.async false
set_option linter.all false
set_option maxRecDepth 100000
set_option maxHeartbeats 4000000
namespace L2.Q
open PySem PySem.Spec PyProof.Rows L2 L2.Wb RZ
end L2.Q
set_option Elab.async false
set_option linter.all false
set_option maxRecDepth 100000
set_option maxHeartbeats 4000000
namespace L2.Q
open PySem PySem.Spec PyProof.Rows L2 L2.Wb RZ
end L2.Q
set_option Elab.async false
set_option linter.all false
set_option maxRecDepth 100000
set_option maxHeartbeats 4000000
namespace L2.Q.Wbm
open PySem PySem.Spec PyProof.Rows L2 L2.Wb L2.Q
/-- a step's name: a row's number or a text, and a text -/
abbrev SK : Type := Key × Str
/-- from which pan, to which, its number, its beam, how often that beam's lean comes -/
structure Stp where
  s : Option Str
  e : Option Str
  n : Int
  b : Str
  m : Int
def rB (at_ : Nat) (x : Wg × Str) (c k : Int) : SK × Stp := ((((.inl (at_ : Int) : Key), ("most" : Str)) : SK), (⟨x.1.q, x.1.l, -c - k, x.1.b, -1⟩ : Stp))
end L2.Q.Wbm
set_option Elab.async false
set_option linter.all false
set_option maxRecDepth 100000
set_option maxHeartbeats 4000000
namespace L2.Q
open PySem PySem.Spec PyProof.Rows L2 L2.Wb RZ
section
variable {Θ : Th} {X : Cx} {pos : Pos}
def isntBF : F2 := fun x y k => match x, y with
  | .bl a, .bl b => k (.bl (!decide (a = b))) false
  | _, _ => False
theorem oq_isntB : OpQ X Θ (compareOp .IsNot) isntBF := ⟨_, op_notBl, fun σ H e v w x y k Q E rx ry h K => by
  match x, y, h with
  | .bl a, .bl b, h => exact ⟨a, b, rx.blE, ry.blE, K _ _ _ _ (Res.mk E (.bl _)) h⟩⟩
end
section
variable {prog : Program} {w : World} {A : Around} {E : Value → Shared → Prop} {s : Shared}
theorem pick_rev (xs : Array Value) : ((List.range xs.size).filterMap fun (m : Nat) => xs[(((xs.size : Int) - 1) + (m : Int) * (-1)).toNat]?).toArray = xs.toList.reverse.toArray := by
  congr 1
  rw [← PySem.W.krv_all xs, ← List.filterMap_reverse, ← PySem.W.krv_range, List.filterMap_map]
  have cg : ∀ {l : List Nat}, (∀ m ∈ l, m < xs.size) → l.filterMap (fun (m : Nat) => xs[(((xs.size : Int) - 1) + (m : Int) * (-1)).toNat]?) = l.filterMap ((fun k => xs[k]?) ∘ fun k => xs.size - 1 - k) := by
    intro l
    induction l with
    | nil => intro _; rfl
    | cons a l ih =>
      intro h
      have ha := h a List.mem_cons_self
      have e : (((xs.size : Int) - 1) + (a : Int) * (-1)).toNat = xs.size - 1 - a := by omega
      rw [List.filterMap_cons, List.filterMap_cons, ih fun m hm => h m (List.mem_cons_of_mem _ hm), e]
      rfl
  exact cg fun m hm => List.mem_range.mp hm
theorem getItem_tuple_rev {t sl : Addr} {items : Array Value} {vs : Value} {Q : Value → Shared → Prop} (ht : IsTup s.heap t items) (hs : s.heap.IsSliceOf sl .none .none vs) (ps : IsPart vs (some (-1)))
    (h : Q (.ref s.heap.objs.size) { s with heap := s.heap.push { cls := .type "tuple", data := .seq items.toList.reverse.toArray } })
    (hsz : items.size ≤ sizeLine) : wpAny (model prog w) A (getItem (.ref t) (.ref sl)) Q E s := by
  have hz : sizeOk (.seq items.toList.reverse.toArray) := by
    show items.toList.reverse.toArray.size ≤ sizeLine
    rw [List.size_toArray, List.length_reverse, Array.length_toList]; exact hsz
  obtain ⟨os, hos, hcs, hds⟩ := id hs
  have hTs : s.TypeIs (.ref sl) "slice" := ⟨os, hos, hcs⟩
  unfold getItem
  try with_reducible refine wpAny_holding ?_
  first | refine wpAny_bind (wpAny_pure ?_) | skip
  refine wpAny_bind (wpAny_sequenceKey ht.typeIs (by decide) ?_)
  refine wpAny_bind (wpAny_callSpecial?_slot (name := Str.ofString "__getitem__") ht.typeIs PyProof.Rows.slot_tuple_getitem
    (wpAny_call_entry PyProof.Rows.slot_tuple_getitem ht.typeIs entry_tuple_getitem ?_ (args_tuple_getitem _ _)))
  show wpAny _ _ (Builtin.Tuple.tupleItemsOf (.ref t) >>= _) _ _ s
  refine wpAny_bind (tupleItemsOf_ ht ?_)
  refine wpAny_bind (wpAny_typeOf hTs ?_)
  rw [if_pos (by decide)]
  have ap : ∀ {R : Int × Int × Nat → Shared → Prop}, R ((items.size : Int) - 1, -1, items.size) s → wpAny (model prog w) A.in1 (Builtin.Slice.sliceApplied (.ref sl) (pure (items.size : Int))) R E s := fun {R} h => by
    unfold Builtin.Slice.sliceApplied Builtin.Slice.sliceFields
    refine wpAny_bind (wpAny_bind (wpAny_field hos hds (x := .none) rfl (wpAny_bind (wpAny_field hos hds (x := .none) rfl (wpAny_bind (wpAny_field hos hds (x := vs) rfl (wpAny_pure ?_)))))))
    refine wpAny_bind (HT.slicePart_ ps ?_)
    show wpAny _ _ (if ((-1 : Int) == 0) = true then _ else _) _ _ s
    rw [if_neg (by decide)]
    refine wpAny_bind (slicePart_none (wpAny_bind (slicePart_none (wpAny_bind (wpAny_pure ?_)))))
    show wpAny _ _ (pure ((items.size : Int) - 1, (-1 : Int), Builtin.Slice.slicePlaces ((items.size : Int) - 1) (-1) (-1))) _ _ s
    have e : Builtin.Slice.slicePlaces ((items.size : Int) - 1) (-1) (-1) = items.size := by
      unfold Builtin.Slice.slicePlaces
      rw [if_neg (by decide), show (-(-1) : Int) = 1 by decide, Int.ediv_one]
      split <;> omega
    rw [e]
    exact wpAny_pure h
  refine wpAny_bind (ap ?_)
  have hno : ¬ ((((items.size : Int) - 1) == 0 && (-1 : Int) == 1 && items.size == items.size) = true) := by
    intro q
    rw [Bool.and_eq_true, Bool.and_eq_true] at q
    exact absurd q.1.2 (by decide)
  show wpAny _ _ (if (((items.size : Int) - 1) == 0 && (-1 : Int) == 1 && items.size == items.size) = true then _ else _) _ _ s
  rw [if_neg hno, pick_rev]
  first
    | exact wpAny_bind (m := Builtin.Tuple.tupleExact _) (wpAny_newObj_type (wpAny_pure ⟨_, rfl, wpAny_pure h⟩) hz)
    | exact wpAny_bind (m := Builtin.Tuple.tupleExact _) (wpAny_newObj_type (wpAny_bind (wpAny_pure (wpAny_pure ⟨_, rfl, wpAny_pure h⟩))) hz)
    | exact wpAny_bind (wpAny_bind (m := Builtin.Tuple.tupleExact _) (wpAny_newObj_type (wpAny_pure (wpAny_pure ⟨_, rfl, wpAny_pure h⟩)) hz))
    | exact wpAny_bind (wpAny_bind (m := Builtin.Tuple.tupleExact _) (wpAny_newObj_type (wpAny_pure ⟨_, rfl, wpAny_pure h⟩) hz))
end
section
variable {Θ : Th} {X : Cx} {pos : Pos}
def tRevT (K : PySem.W.Frag) (te : TE) : TE := fun σ H Q => te σ H fun x H1 => ∃ a xs, x = .ref a ∧ SqT K H1 a xs ∧ ∀ p, H1 p = none → Q (.ref p) (upd H1 p (.tup xs.reverse))
theorem pe_revT {e : Expr} {te : TE} {k : Nat} {p1 p2 p3 : Pos} (he : PE X e te) : PE X (.Subscript e (.Slice none none (some (.UnaryOp .USub (.Constant (.int 1) k p1) p2)) p3) pos) (tRevT X.K te) := by
  refine ⟨fun pins s σ H Q I h => ?_⟩
  refine Subscript_ (thn (he.run pins s σ H _ I h) fun v s1 ⟨x, H1, I1, r1, q1⟩ => ?_)
  obtain ⟨a, xs, ex, hx, q⟩ := q1
  subst ex
  cases r1
  have hst : PO X (some (.UnaryOp .USub (.Constant (.int 1) k p1) p2)) (tPart (tUn (rU fun i => .int (-i)) (tC (.int 1)))) := po_some (pe_un un_neg pe_int)
  refine wpAny_Slice (thn (po_none.run pins s1 σ H1 (fun o H2 => o = none ∧ H2 = H1) I1 ⟨rfl, rfl⟩) fun vl s2 ⟨l, H2, I2, pl, el, e2⟩ => ?_)
  subst el e2
  refine thn (po_none.run pins s2 σ H2 (fun o H3 => o = none ∧ H3 = H2) I2 ⟨rfl, rfl⟩) fun vu s3 ⟨u, H3, I3, pu, eu, e3⟩ => ?_
  subst eu e3
  refine thn (hst.run pins s3 σ H3 (fun o H4 => o = some (-1) ∧ H4 = H3) I3 ⟨1, rfl, -1, rfl, rfl, rfl⟩) fun vs s4 ⟨o, H4, I4, ps, eo, e4⟩ => ?_
  subst eo e4
  cases pl
  cases pu
  have I5 : Inv X pins σ H4 { s4 with heap := s4.heap.push { cls := .type "slice", data := .fields #[.none, .none, vs] } } := I4.kept (t' := s4.toks) fun b ob q => Heap.get?_push_of_some _ q
  obtain ⟨its, r, ht, hz⟩ := I5.tuple hx
  have hlen := r.length
  show wpAny (model X.prog X.w) X.A (subscriptTail e (.Slice none none (some (.UnaryOp .USub (.Constant (.int 1) k p1) p2)) p3) (.ref a) (.ref s4.heap.objs.size)) (EP X pins σ Q) X.xe { s4 with heap := s4.heap.push { cls := .type "slice", data := .fields #[.none, .none, vs] } }
  refine tail_any (ops := [.ref a, .ref s4.heap.objs.size]) ht.typeIs (PyProof.Rows.slot_tuple_getitem.lookup) ?_ (by with_unfolding_all rfl)
  refine getItem_tuple_rev ht (Heap.IsSliceOf.new _ _ _ vs) ps ?_ (by rw [List.size_toArray]; omega)
  refine ⟨.ref _, _, I5.laid (t' := s4.toks) (o := .tup xs.reverse) (fun b ob q => Heap.get?_push_of_some _ q) (Nat.le_refl _) ?_, rfl, q _ (I5.hok.fresh (Nat.le_refl _))⟩
  exact ⟨by rw [List.length_reverse]; exact hz, _, r.reverse, IsTup.new _ _⟩
def gRevT (g : GE) : GE := fun e Q => g e fun d _ e1 => match d with
  | .tup ds => Q (.tup ds.reverse) false e1
  | _ => False
theorem q_revT {a : Expr} {g : GE} {kx : Nat} {p1 p2 p3 : Pos} (ha : PE X a (tOf Θ g)) : PE X (.Subscript a (.Slice none none (some (.UnaryOp .USub (.Constant (.int 1) kx p1) p2)) p3) pos) (tOf Θ (gRevT g)) := pe_conv (pe_revT ha) fun σ H Q ⟨e, Qp, E, h, k⟩ => ⟨e, _, E, h, fun v d fr H1 e1 r1 h1 => by
  match d, r1, h1 with
  | .tup ds, r1, h1 =>
    obtain ⟨a, xs, rfl, h2, r2⟩ := r1.rp.tupE
    exact ⟨a, xs, rfl, SqT.of h2, fun p hp => k _ _ _ _ _ ((Res.newT r1.er hp r2.rev).from r1.le) h1⟩⟩
end
end L2.Q
set_option Elab.async false
set_option linter.all false
set_option maxRecDepth 100000
set_option maxHeartbeats 4000000
namespace L2.Q.Wbm
open PySem PySem.Spec PyProof.Rows L2 L2.Wb L2.Q
structure okB (x : Stp) : Prop where
  n : -1000 ≤ x.n ∧ x.n ≤ 1000
  m : -1 ≤ x.m ∧ x.m ≤ 1
/-- ints, read by names -/
theorem fun_of : ∀ {bs : List Str} {us : List Int}, bs.Nodup → us.length = bs.length → ∃ ln : Str → Int, bs.map ln = us
  | [], [], _, _ => ⟨fun _ => 0, rfl⟩
  | b :: bs, u :: us, h, l => by
    rw [List.nodup_cons] at h
    obtain ⟨ln, e⟩ := fun_of (us := us) h.2 (by simpa using l)
    refine ⟨fun z => if z = b then u else ln z, ?_⟩
    rw [List.map_cons, if_pos rfl, ← e]
    congr 1
    refine List.map_congr_left fun z hz => ?_
    rw [if_neg fun q => h.1 (by rw [← q]; exact hz)]
end L2.Q.Wbm
set_option Elab.async false
set_option linter.all false
set_option maxRecDepth 100000
set_option maxHeartbeats 4000000
namespace L2.Q.Lw
open PySem PySem.Spec PyProof.Rows L2 L2.Wb L2.Q L2.Q.Wbm
def inBox (n : Nat) (x : List Int) : Prop := x.length = n ∧ ∀ v ∈ x, -120 ≤ v ∧ v ≤ 120
/-- a search's state: what is known, what was reached last, what is done, how far -/
structure Sch (ws : List Wx) (x0 : List Int) (n : Nat) (kn ln dn : List (List Int)) (d : Nat) : Prop where
  hnd : kn.Nodup
  hbx : ∀ x ∈ kn, inBox n x
  hkd : ∀ x, x ∈ kn ↔ x ∈ dn ∨ x ∈ ln
  hln : ∀ x ∈ ln, Rch ws x0 d x
  hdn : ∀ x ∈ dn, ∀ w ∈ ws, sepX x w = false ∧ goX x w ∈ kn
  hx0 : x0 ∈ kn
  hlo : ∀ d' < d, ∀ x, Rch ws x0 d' x → x ∈ dn
theorem Sch.next {ws : List Wx} {x0 : List Int} {n : Nat} {kn ln dn lt : List (List Int)} {d : Nat} (S : Sch ws x0 n kn ln dn d) (h1 : (kn ++ lt).Nodup) (h2 : ∀ x ∈ lt, inBox n x) (h3 : ∀ x ∈ lt, Rch ws x0 (d + 1) x) (h4 : ∀ x ∈ ln, ∀ w ∈ ws, sepX x w = false ∧ goX x w ∈ kn ++ lt) : Sch ws x0 n (kn ++ lt) lt kn (d + 1) := by
  refine ⟨h1, fun x hx => (List.mem_append.mp hx).elim (S.hbx x) (h2 x), fun x => List.mem_append, h3, fun x hx w hw => ?_, List.mem_append_left _ S.hx0, fun d' hd' x r => ?_⟩
  · rcases (S.hkd x).mp hx with q | q
    · exact ⟨(S.hdn x q w hw).1, List.mem_append_left _ (S.hdn x q w hw).2⟩
    · exact h4 x q w hw
  · by_cases c : d' < d
    · exact (S.hkd x).mpr (.inl (S.hlo d' c x r))
    · have e : d' = d := by omega
      subst e
      cases r with
      | z => exact S.hx0
      | @s d2 y w r hw hs => exact (S.hdn y (S.hlo d2 (by omega) y r) w hw).2
theorem Sch.few {ws : List Wx} {x0 : List Int} {n : Nat} {kn ln dn : List (List Int)} {d : Nat} (S : Sch ws x0 n kn ln dn d) {x : List Int} {w : Wx} (hx : x ∈ ln) (hw : w ∈ ws) (hs : sepX x w = true) : IsFew ws x0 (some ((d : Int) + 1)) :=
  ⟨d, rfl, ⟨x, S.hln x hx, w, hw, hs⟩, fun d' hd' y r v hv => (S.hdn y (S.hlo d' hd' y r) v hv).1⟩
theorem turn_sgn (t : Int) : turnN (wordOf t) = - sgn t := by
  rcases word_tri t with ⟨e, h⟩ | ⟨e, h⟩ | ⟨e, h⟩ <;> rw [e] <;> unfold sgn
  · rw [if_pos h]; rfl
  · rw [if_neg (by omega), if_pos h]; rfl
  · rw [if_neg (by omega), if_neg (by omega)]; rfl
end L2.Q.Lw
set_option Elab.async false
set_option linter.all false
set_option maxRecDepth 100000
set_option maxHeartbeats 4000000
namespace L2.Q.Lw
open PySem PySem.Spec PyProof.Rows L2 L2.Wb L2.Q L2.Q.Wbm
def dueD (p : D → Bool) (t : D) : D := match seqD t with
  | none => .int 0
  | some xs => match badX p xs with
    | none => .non
    | some i => .int i
theorem outX_by {p : D → Bool} {t : D} {n : Nat} {F : D → Bool → Nat → Prop} {Y : Str → List Str → List D → Nat → Prop} (h0 : dueD p t = .non → F .non false n) (h1 : ∀ i : Int, dueD p t = .int i → Y "NoRow" ["at"] [.int i] n) : outX p t n F Y := by
  unfold outX dueD at *
  cases q : seqD t with
  | none => rw [q] at h1; exact h1 0 rfl
  | some xs =>
    rw [q] at h0 h1
    dsimp only at h0 h1 ⊢
    cases q2 : badX p xs with
    | none => rw [q2] at h0; exact h0 rfl
    | some i => rw [q2] at h1; exact h1 i rfl
end L2.Q.Lw
set_option Elab.async false
set_option linter.all false
set_option maxRecDepth 100000
set_option maxHeartbeats 4000000
namespace L2.Q.Wbm
open PySem PySem.Spec PyProof.Rows L2 L2.Wb L2.Q
open L2.Q.Lw (dueD)
def isNumX (lo hi : Int) : D → Bool
  | .int i => decide (lo ≤ i) && decide (i ≤ hi)
  | _ => false
/-- what a dict says of a text -/
def dVal (d : D) (x : Str) : Option D := match d with
  | .dct ks ds => getK ks ds (.inr x)
  | _ => none
def dLen : D → Nat → Bool
  | .dct ks _, m => decide (ks.length = m)
  | _, _ => false
def numXat (lo hi : Int) (d : D) (x : Str) : Bool := match dVal d x with
  | some v => isNumX lo hi v
  | none => false
def areX (names : List Str) (lo hi : Int) (d : D) : Bool := dLen d names.length && names.all (numXat lo hi d)
/-- what may be looked at whether it is a dict of numbers -/
structure DX (d : D) : Prop where
  ty : (tyName d).isSome = true
  nt : ∀ ks ds, d ≠ .dcT ks ds
  val : ∀ x v, dVal d x = some v → (tyName v).isSome = true
def wdX (r : Row) : D → Bool
  | .tup [a, b] => areX r.names 1 r.most a && areX (r.beams.map (·.1)) (-r.lean) r.lean b
  | _ => false
structure WX (d : D) : Prop where
  ty : (tyName d).isSome = true
  it : ∀ a b, d = .tup [a, b] → DX a ∧ DX b
theorem wdX_no {r : Row} {d : D} (h : tupL d 2 = false) : wdX r d = false := by
  match d, h with
  | .tup [a, b], h => cases h
  | .tup [], h => rfl
  | .tup [_], h => rfl
  | .tup (_ :: _ :: _ :: _), h => rfl
  | .non, _ => rfl
  | .bl _, _ => rfl
  | .int _, _ => rfl
  | .str _, _ => rfl
  | .lst _, _ => rfl
  | .dct _ _, _ => rfl
  | .dcT _ _, _ => rfl
  | .raw _, _ => rfl
  | .st, _ => rfl
  | .ins _ _ _, _ => rfl
  | .exc _ _ _, _ => rfl
  | .ext _, _ => rfl
theorem tupL2 {d : D} (h : tupL d 2 = true) : ∃ a b, d = .tup [a, b] := by
  cases d with
  | tup xs =>
    have h : xs.length = 2 := of_decide_eq_true h
    match xs, h with
    | [a, b], _ => exact ⟨a, b, rfl⟩
  | _ => cases h
def p_is_numberX : PSp := fun ds n R Y => ∃ (d : D) (t : String) (lo hi : Int), ds = [d, .int lo, .int hi] ∧ tyName d = some t ∧ R (.bl (isNumX lo hi d)) false n
def p_are_numbersX : PSp := fun ds n R Y => ∃ (d : D) (names : List Str) (lo hi : Int), ds = [d, .lst (names.map D.str), .int lo, .int hi] ∧ DX d ∧ names.length ≤ 8 ∧ R (.bl (areX names lo hi d)) false n
def p_is_some_worldX : PSp := fun ds n R Y => ∃ r d, ds = [yD r, d] ∧ r.ok ∧ WX d ∧ R (.bl (wdX r d)) false n
/-- no world: refused -/
def p_need_some_worldX : PSp := fun ds n R Y => ∃ r d, ds = [yD r, d] ∧ r.ok ∧ WX d ∧ (wdX r d = true → R .non false n) ∧ (wdX r d = false → Y "NoAsk" [] [] n)
/-- what has to be refused -/
def p_told_byX : PSp := fun ds n R Y => ∃ r d t, ds = [yD r, d, t] ∧ r.ok ∧ WX d ∧ Lg t ∧ (wdX r d = false → Y "NoAsk" [] [] n) ∧ (wdX r d = true → ∃ i : Int, dueD (isWgX r) t = .int i ∧ Y "NoRow" ["at"] [.int i] n)
def p_shiftsX : PSp := fun ds n R Y => ∃ r t, ds = [yD r, t] ∧ r.ok ∧ Lg t ∧ ∃ i : Int, dueD (isRwX r) t = .int i ∧ Y "NoRow" ["at"] [.int i] n
def p_is_worldX : PSp := fun ds n R Y => ∃ r t d, ds = [yD r, t, d] ∧ r.ok ∧ WX d ∧ Lg t ∧ ((∃ i : Int, dueD (isRwX r) t = .int i ∧ Y "NoRow" ["at"] [.int i] n) ∨ (dueD (isRwX r) t = .non ∧ wdX r d = false ∧ R (.bl false) false n))
end L2.Q.Wbm
set_option Elab.async false
set_option linter.all false
set_option maxRecDepth 100000
set_option maxHeartbeats 4000000
namespace L2.Q.Lw
open PySem PySem.Spec PyProof.Rows L2 L2.Wb L2.Q L2.Q.Wbm
section
variable {P : Program} {w : World} {K : PySem.W.Frag} {mg : Str → Option Value} {base : Heap}
abbrev s_turn : Stmt := top 23
theorem sc_turn : FnScope ["yard", "beam", "word"] ["yard", "beam", "word"] (defScope s_turn) := ⟨rfl, rfl, rfl, by decide +kernel, rfl, by decide +kernel, by decide +kernel⟩
abbrev l_turn : List Str := ["yard", "beam", "word"]
theorem ok_turn {f : Addr} {fd : FuncData} (C : Cn) (hK : C.K = K) (F : Fun K "turn" "turn" s_turn f fd) {aT : Addr} (m_TURNS : mg "TURNS" = some (.ref aT)) (k_TURNS : ∀ z i, v_TURNS z = some i → KDct K w aT z (.int i))  {f_step : Addr} {d_step : FuncData} (M_step : MethQ P w K mg base C "Yard" "step" 2 f_step d_step l_Y_step p_Y_step) : FnOk P w K mg base (L2.CX P w) 3 f fd ["yard", "beam", "word"] (spOf C p_turn) :=
  q_fun F sc_turn C (fun ds n R Y h => by obtain ⟨_, _, _, rfl, _⟩ := h; rfl) fun m M H std n3 ms Y cdv A outer s E hr tk => ⟨_,
    (qs_one (q_ret (q_op oq_mul (q_ixG v_TURNS k_TURNS m_TURNS (q_var 2)) (q_meth M_step hr (q_var 0) (qa_cons (q_var 1) qa_nil))))), fun ds n R h => by
    obtain ⟨r, b, wd, rfl, hb, hw, hR⟩ := h
    change (_ : GS) _ (⟨[some (_, false), some (_, false), some (_, false)], n⟩ : L2.Q.Env)
    one_item
    refine ⟨wd, turnN wd, rfl, if_pos hw, _, _, rfl, by decide, r, b, stF r b, rfl, stF_of hb, ?_⟩
    one_item
    exact ⟨.inl (turnN_le wd), hR⟩⟩
abbrev s_shifts : Stmt := top 24
theorem sc_shifts : FnScope ["yard", "log", "told", "beam", "_", "word"] ["yard", "log"] (defScope s_shifts) := ⟨rfl, rfl, rfl, by decide +kernel, rfl, by decide +kernel, by decide +kernel⟩
abbrev l_shifts : List Str := ["yard", "log"]
theorem ok_shifts {f : Addr} {fd : FuncData} (C : Cn) (hK : C.K = K) (F : Fun K "shifts" "shifts" s_shifts f fd)   {f_need_log : Addr} {d_need_log : FuncData} (D_need_log : DefQ P w K mg base C "need_log" 6 f_need_log d_need_log l_need_log p_need_log) {f_names_of : Addr} {d_names_of : FuncData} (D_names_of : DefQ P w K mg base C "names_of" 2 f_names_of d_names_of l_names_of p_names_of) {f_turn : Addr} {d_turn : FuncData} (D_turn : DefQ P w K mg base C "turn" 3 f_turn d_turn l_turn p_turn) : FnOk P w K mg base (L2.CX P w) 7 f fd ["yard", "log"] (spOf C p_shifts) :=
  q_fun F sc_shifts C (fun ds n R Y h => by obtain ⟨_, _, _, rfl, _⟩ := h; rfl) fun m M H std n3 ms Y cdv A outer s E hr tk => ⟨_,
    (qs_cons (q_drop (q_callD D_need_log hr (qa_cons (q_var 0) (qa_cons (q_var 1) qa_nil)))) (qs_cons (q_setDc (i := 2) [("beam", 3)] rfl sc_shifts.nd rfl (blkOk_by (own := [("beam", 3)]) (N := ["yard", "log", "told", "beam", "_", "word"]) (sc := defScope s_shifts) (by decide +kernel)) (qi_seq (q_callD D_names_of hr (qa_cons (q_var 0) qa_nil))) (fun _ _ _ _ _ _ _ _ => (qg_name (i := 3) sc_shifts.nd rfl (by first | exact Or.inl rfl | exact Or.inr rfl))) (fun _ _ _ _ _ _ _ _ => (q_var 3)) (fun _ _ _ _ _ _ _ _ => q_int)) (qs_cons (q_for (passes_of rfl) rfl (qi_seq (q_var 1)) (qg_tup (n := 4) rfl (qgs_cons (qg_name (i := 3) sc_shifts.nd rfl (by first | exact Or.inl rfl | exact Or.inr rfl)) (qgs_cons (qg_name (i := 4) sc_shifts.nd rfl (by first | exact Or.inl rfl | exact Or.inr rfl)) (qgs_cons (qg_name (i := 4) sc_shifts.nd rfl (by first | exact Or.inl rfl | exact Or.inr rfl)) (qgs_cons (qg_name (i := 5) sc_shifts.nd rfl (by first | exact Or.inl rfl | exact Or.inr rfl)) qgs_nil))))) (qs_one (q_augI 2 hr.u1 iq_add (q_var 3) (q_callD D_turn hr (qa_cons (q_var 0) (qa_cons (q_var 3) (qa_cons (q_var 5) qa_nil))))))) (qs_one (q_retV 2))))), fun ds n R h => by
    obtain ⟨r, xs, t, rfl, ok, ht, hx, hR⟩ := h
    have hb := ok.b3
    change (_ : GS) _ (⟨[some (_, false), some (_, false), none, none, none, none], n⟩ : L2.Q.Env)
    one_item
    refine ⟨r, xs.map rwD, t, rfl, ok, ht, fun d hd => ?_, ?_⟩
    · obtain ⟨x, h1, rfl⟩ := List.mem_map.mp hd
      exact ⟨x, rfl, hx x h1⟩
    one_item
    refine dc_each (r.beams.map (·.1)) ⟨[some (yD r, false), some (t, false), none, none, none, none], n⟩ (fun Q h => ⟨r, rfl, ok, h⟩) (fun _ => .int 0) ok.bn (by rw [List.length_map]; omega) (noOwn_of rfl) (fun x hx K hk => hk _ rfl) ?_
    one_item
    refine for_go (xs.map rwD) ⟨[some (yD r, false), some (t, false), some (dfD (r.beams.map (·.1)) (shF (stF r) []), true), none, none, none], n⟩ (fun Q h => ?_)
      (fun i e => ∃ s3 s4 s5, e = ⟨[some (yD r, false), some (t, false), some (dfD (r.beams.map (·.1)) (shF (stF r) (xs.take i)), true), s3, s4, s5], n⟩) ⟨_, _, _, rfl⟩ (fun i d e hd ⟨s3, s4, s5, he⟩ => ?_) (fun e ⟨s3, s4, s5, he⟩ => ?_)
    · rcases ht with rfl | rfl <;> exact h
    · subst he
      rw [List.getElem?_map] at hd
      obtain ⟨x, hx1, rfl⟩ := Option.map_eq_some_iff.mp hd
      have hok := hx x (List.mem_of_getElem? hx1)
      have ht' : xs.take (i + 1) = xs.take i ++ [x] := by rw [List.take_add_one, hx1]; rfl
      dsimp only [rwD]
      one_item
      refine ⟨rfl, rfl, _, atD_df hok.w.b, r, x.1.b, x.2, rfl, hok.w.b, hok.d, ?_⟩
      one_item
      refine ⟨_, putI_df hok.w.b (by rw [List.length_map]; omega), ?_⟩
      rw [shF_step, ← ht']
      exact ⟨_, _, _, rfl⟩
    · subst he
      rw [List.length_map, List.take_length]
      exact hR⟩
abbrev s_word_of : Stmt := top 25
theorem sc_word_of : FnScope ["total"] ["total"] (defScope s_word_of) := ⟨rfl, rfl, rfl, by decide +kernel, rfl, by decide +kernel, by decide +kernel⟩
abbrev l_word_of : List Str := ["total"]
theorem ok_word_of {f : Addr} {fd : FuncData} (C : Cn) (hK : C.K = K) (F : Fun K "word_of" "word_of" s_word_of f fd)   : FnOk P w K mg base (L2.CX P w) 1 f fd ["total"] (spOf C p_word_of) :=
  q_fun F sc_word_of C (fun ds n R Y h => by obtain ⟨_, rfl, _⟩ := h; rfl) fun m M H std n3 ms Y cdv A outer s E hr tk => ⟨_,
    (qs_cons (q_ifS (qt_cmp oq_gt (q_var 0) q_int) (qs_one (q_ret q_str)) qs_nil) (qs_one (q_ret (q_if (qt_cmp (oq_eq hr.u65 hK) (q_var 0) q_int) q_str q_str)))), fun ds n R h => by
    obtain ⟨t, rfl, hR⟩ := h
    change (_ : GS) _ (⟨[some (_, false)], n⟩ : L2.Q.Env)
    one_item
    refine ⟨fun c => ?_, fun c => ⟨_, rfl, fun c2 => ?_, fun c2 => ?_⟩⟩
    · have e : wordOf t = "left" := if_pos (by simpa using c)
      rw [e] at hR; exact hR
    · have e : wordOf t = "even" := by
        rw [eqD_int] at c2
        unfold wordOf
        rw [if_neg (by simpa using c), if_pos (by simpa using c2)]
      rw [e] at hR; exact hR
    · have e : wordOf t = "right" := by
        rw [eqD_int] at c2
        unfold wordOf
        rw [if_neg (by simpa using c), if_neg (by simpa using c2)]
      rw [e] at hR; exact hR⟩
abbrev s_in_pans : Stmt := top 26
theorem sc_in_pans : FnScope ["world", "weights", "_"] ["world"] (defScope s_in_pans) := ⟨rfl, rfl, rfl, by decide +kernel, rfl, by decide +kernel, by decide +kernel⟩
abbrev l_in_pans : List Str := ["world"]
theorem ok_in_pans {f : Addr} {fd : FuncData} (C : Cn) (hK : C.K = K) (F : Fun K "in_pans" "in_pans" s_in_pans f fd)   : FnOk P w K mg base (L2.CX P w) 1 f fd ["world"] (spOf C (p_in_pans P w)) :=
  q_fun F sc_in_pans C (fun ds n R Y h => by obtain ⟨_, _, _, _, rfl, _⟩ := h; rfl) fun m M H std n3 ms Y cdv A outer s E hr tk => ⟨_,
    (qs_cons (q_asg (q_var 0) (qg_tup (n := 2) rfl (qgs_cons (qg_name (i := 1) sc_in_pans.nd rfl (by first | exact Or.inl rfl | exact Or.inr rfl)) (qgs_cons (qg_name (i := 2) sc_in_pans.nd rfl (by first | exact Or.inl rfl | exact Or.inr rfl)) qgs_nil)))) (qs_one (q_ret (q_nd 1)))), fun ds n R h => by
    obtain ⟨ks, wt, k2, ln, rfl, hl, hR⟩ := h
    change (_ : GS) _ (⟨[some (_, false), none, none], n⟩ : L2.Q.Env)
    one_item
    refine ⟨rfl, rfl, ks.map Sum.inr, ks.map wt, false, by rw [List.map_map]; rfl, by rw [List.length_map]; omega, ?_⟩
    rw [zip_nd]
    exact hR⟩
abbrev s_words : Stmt := top 27
theorem sc_words : FnScope ["yard", "world", "listed", "weighs", "now", "log", "beam", "left", "right", "word"] ["yard", "world", "listed"] (defScope s_words) := ⟨rfl, rfl, rfl, by decide +kernel, rfl, by decide +kernel, by decide +kernel⟩
abbrev l_words : List Str := ["yard", "world", "listed"]
theorem ok_words {f : Addr} {fd : FuncData} (C : Cn) (hK : C.K = K) (F : Fun K "_words" "_words" s_words f fd)  (n_dict : mg "dict" = none) {f_in_pans : Addr} {d_in_pans : FuncData} (D_in_pans : DefQ P w K mg base C "in_pans" 1 f_in_pans d_in_pans l_in_pans (p_in_pans P w)) {f_word_of : Addr} {d_word_of : FuncData} (D_word_of : DefQ P w K mg base C "word_of" 1 f_word_of d_word_of l_word_of p_word_of) {f_turn : Addr} {d_turn : FuncData} (D_turn : DefQ P w K mg base C "turn" 3 f_turn d_turn l_turn p_turn) : FnOk P w K mg base (L2.CX P w) 4 f fd ["yard", "world", "listed"] (spOf C p_words) :=
  q_fun F sc_words C (fun ds n R Y h => by obtain ⟨_, _, _, _, _, _, _, rfl, _⟩ := h; rfl) fun m M H std n3 ms Y cdv A outer s E hr tk => ⟨_,
    (qs_cons (q_set (i := 3) sc_words.nd rfl (by first | exact Or.inl rfl | exact Or.inr rfl) (q_callD D_in_pans hr (qa_cons (q_var 1) qa_nil))) (qs_cons (q_set (i := 4) sc_words.nd rfl (by first | exact Or.inl rfl | exact Or.inr rfl) (q_tcall (cq_dict rfl) (by rfl) n_dict (qa_cons (q_ixV 1 hr.u1 q_int) qa_nil))) (qs_cons (q_set (i := 5) sc_words.nd rfl (by first | exact Or.inl rfl | exact Or.inr rfl) (q_lst qa_nil)) (qs_cons (q_for (passes_of rfl) rfl (qi_seq (q_var 2)) (qg_tup (n := 3) rfl (qgs_cons (qg_name (i := 6) sc_words.nd rfl (by first | exact Or.inl rfl | exact Or.inr rfl)) (qgs_cons (qg_name (i := 7) sc_words.nd rfl (by first | exact Or.inl rfl | exact Or.inr rfl)) (qgs_cons (qg_name (i := 8) sc_words.nd rfl (by first | exact Or.inl rfl | exact Or.inr rfl)) qgs_nil)))) (qs_cons (q_set (i := 9) sc_words.nd rfl (by first | exact Or.inl rfl | exact Or.inr rfl) (q_callD D_word_of hr (qa_cons (q_op oq_add (q_op oq_sub (q_ixN (q_var 3) (q_var 7)) (q_ixN (q_var 3) (q_var 8))) (q_ixV 4 hr.u1 (q_var 6))) qa_nil))) (qs_cons (q_augI 4 hr.u1 iq_add (q_var 6) (q_callD D_turn hr (qa_cons (q_var 0) (qa_cons (q_var 6) (qa_cons (q_var 9) qa_nil))))) (qs_one (q_drop (q_lm 5 lq_append PySem.F.slot_list_append PySem.F.type_list_append (qa_cons (q_tup (qa_cons (q_var 6) (qa_cons (q_var 7) (qa_cons (q_var 8) (qa_cons (q_var 9) qa_nil))))) qa_nil) hK)))))) (qs_one (q_retV 5)))))), fun ds n R h => by
    obtain ⟨r, ks, wt, k2, ln, xs, t, rfl, ok, hd, ht, hx, hl, hR⟩ := h
    have hb := ok.b3
    have hk2 : k2.length < 1000000 := by have := hd.l.len; rw [List.length_map] at this; omega
    change (_ : GS) _ (⟨[some (_, false), some (_, false), some (_, false), none, none, none, none, none, none, none], n⟩ : L2.Q.Env)
    one_item
    refine ⟨ks, wt, k2, ln, rfl, by have := hd.w.len; have := ok.n8; omega, rfl, _, rfl, ?_⟩
    dsimp only [dfD]
    one_item
    refine ⟨by decide, ?_⟩
    refine for_go (xs.map wD) ⟨[some (yD r, false), some (wdD ks wt k2 ln, false), some (t, false), some (ndD P w ks wt, false), some (dfD k2 ln, true), some (.lst [], true), none, none, none, none], n⟩ (fun Q h => ?_)
      (fun i e => ∃ l2 done s6 s7 s8 s9, tellR (stF r) wt ln xs = done ++ tellR (stF r) wt l2 (xs.drop i) ∧ done.length = i ∧ e = ⟨[some (yD r, false), some (wdD ks wt k2 ln, false), some (t, false), some (ndD P w ks wt, false), some (dfD k2 l2, true), some (.lst (done.map rwD), true), s6, s7, s8, s9], n⟩) ⟨ln, [], _, _, _, _, rfl, rfl, rfl⟩ (fun i d e hd' ⟨l2, done, s6, s7, s8, s9, h1, h2, he⟩ => ?_) (fun e ⟨l2, done, s6, s7, s8, s9, h1, h2, he⟩ => ?_)
    · rcases ht with rfl | rfl <;> exact h
    · subst he
      rw [List.getElem?_map] at hd'
      obtain ⟨x, hx1, rfl⟩ := Option.map_eq_some_iff.mp hd'
      obtain ⟨hi, hxi⟩ := List.getElem?_eq_some_iff.mp hx1
      have hok := hx x (List.mem_of_getElem? hx1)
      rw [List.drop_eq_getElem_cons hi, hxi] at h1
      have hwt : ∀ z ∈ r.names, z ∈ ks := fun z hz => (hd.w.at_ z hz).1
      have hbk : x.b ∈ k2 := (hd.l.at_ x.b hok.b).1
      dsimp only [wD]
      one_item
      refine ⟨rfl, rfl, ?_⟩
      refine nd_at hok.l hwt ?_
      refine nd_at hok.q hwt ?_
      one_item
      refine ⟨rfl, ixAF_df hbk ?_⟩
      refine ⟨_, rfl, ?_⟩
      refine ⟨_, atD_df hbk, r, x.b, _, rfl, hok.b, wordOf_mem _, ?_⟩
      one_item
      refine ⟨_, putI_df hbk hk2, ?_⟩
      one_item
      refine ⟨Nat.le_of_ble_eq_true rfl, by rw [List.length_map]; omega, ?_⟩
      refine ⟨updF l2 x.b (l2 x.b + turnN (wordOf (wtP wt x.l - wtP wt x.q + l2 x.b)) * stF r x.b), done ++ [(x, wordOf (wtP wt x.l - wtP wt x.q + l2 x.b))], some (.str x.b, false), some (panD x.l, false), some (panD x.q, false), some (.str (wordOf (wtP wt x.l - wtP wt x.q + l2 x.b)), false), ?_, by rw [List.length_append, h2]; rfl, ?_⟩
      · rw [h1, List.append_assoc]; rfl
      · rw [List.map_append]; rfl
    · subst he
      rw [List.length_map, List.drop_length] at h1
      have h1' : tellR (stF r) wt ln xs = done := by rw [h1]; exact List.append_nil _
      rw [h1'] at hR
      exact hR⟩
abbrev s_are_numbers : Stmt := top 28
theorem sc_are_numbers : FnScope ["thing", "names", "first", "last", "name"] ["thing", "names", "first", "last"] (defScope s_are_numbers) := ⟨rfl, rfl, rfl, by decide +kernel, rfl, by decide +kernel, by decide +kernel⟩
abbrev l_are_numbers : List Str := ["thing", "names", "first", "last"]
theorem ok_are_numbers {f : Addr} {fd : FuncData} (C : Cn) (hK : C.K = K) (F : Fun K "_are_numbers" "_are_numbers" s_are_numbers f fd)  (n_all : mg "all" = none) (n_dict : mg "dict" = none) (n_len : mg "len" = none) (n_type : mg "type" = none) {f_is_number : Addr} {d_is_number : FuncData} (D_is_number : DefQ P w K mg base C "is_number" 1 f_is_number d_is_number l_is_number p_is_number) : FnOk P w K mg base (L2.CX P w) 2 f fd ["thing", "names", "first", "last"] (spOf C p_are_numbers) :=
  q_fun F sc_are_numbers C (fun ds n R Y h => by obtain ⟨_, _, _, _, _, rfl, _⟩ := h; rfl) fun m M H std n3 ms Y cdv A outer s E hr tk => ⟨_,
    (qs_cons (q_ifS (PW.pt (qw_or (qt_cmp oq_isntT (q_tcall cq_type (by rfl) n_type (qa_cons (q_var 0) qa_nil)) (q_ty (n := "dict") (by rfl) n_dict)) (qw_or1 (qt_cmp (oq_ne hr.u65 hK) (q_lenD 0 n_len) (q_lenV 1 n_len))))) (qs_one (q_ret q_bl)) qs_nil) (qs_one (q_ret (q_bcall (cq_all rfl) (by rfl) n_all (qa_cons (q_lc [("name", 4)] rfl sc_are_numbers.nd (blkOk_by (own := [("name", 4)]) (N := ["thing", "names", "first", "last", "name"]) (sc := defScope s_are_numbers) (by decide +kernel)) (qi_seq (q_var 1)) (fun _ _ _ _ _ _ _ _ => (qg_name (i := 4) sc_are_numbers.nd rfl (by first | exact Or.inl rfl | exact Or.inr rfl))) (fun _ _ _ _ _ _ _ _ => (q_and (q_inV 0 hr.u65 (q_var 4) hK) (q_one (q_callD D_is_number hr (qa_cons (q_ixV 0 hr.u1 (q_var 4)) (qa_cons (q_var 2) (qa_cons (q_var 3) qa_nil)))))))) qa_nil))))), fun ds n R h => by
    obtain ⟨ks, F, names, lo, hi, rfl, hd, hR⟩ := h
    have h8 := hd.n8
    change (_ : GS) _ (⟨[some (_, false), some (_, false), some (_, false), some (_, false), none], n⟩ : L2.Q.Env)
    one_item
    refine ⟨"dict", rfl, fun c => ?_, fun _ => ?_⟩
    · exact absurd c (by decide)
    refine ⟨_, _, _, rfl, rfl, rfl, fun c => ?_, fun _ => ?_⟩
    · rw [eqD_int, List.length_map, List.length_map, hd.len, beq_self_eq_true] at c; cases c
    refine lc_go2 (names.map D.str) ⟨[some (dfD ks F, false), some (.lst (names.map D.str), false), some (.int lo, false), some (.int hi, false), none], n⟩ (fun Q h => h) ?_
    refine lc_each (fun _ => .bl true) (noOwn_of rfl) (by rw [List.length_map]; omega) (fun d hd1 K K' hk => ?_) ?_
    · obtain ⟨x, hx, rfl⟩ := List.mem_map.mp hd1
      obtain ⟨h1, h2, h3⟩ := hd.at_ x hx
      one_item
      refine ⟨fun _ => inAF_df h1 ?_, fun c => (nomatch c)⟩
      refine ⟨fun _ => ⟨rfl, ixAF_df h1 ?_⟩, fun c => (nomatch c)⟩
      refine ⟨F x, lo, hi, rfl, ?_⟩
      rw [decide_eq_true h2, decide_eq_true h3]
      exact hk _ _ rfl
    · refine ⟨List.replicate names.length true, ?_, ?_⟩
      · clear hR hd h8
        rename_i cc; clear cc
        induction names with
        | nil => rfl
        | cons y ys ih =>
          show (blsOf _).map _ = _
          rw [ih]; rfl
      · have e : (List.replicate names.length true).all id = true := by simp
        rw [e]; exact hR⟩
abbrev s_is_some_world : Stmt := top 29
theorem sc_is_some_world : FnScope ["yard", "thing", "weights", "leans", "lean"] ["yard", "thing"] (defScope s_is_some_world) := ⟨rfl, rfl, rfl, by decide +kernel, rfl, by decide +kernel, by decide +kernel⟩
abbrev l_is_some_world : List Str := ["yard", "thing"]
theorem ok_is_some_world {f : Addr} {fd : FuncData} (C : Cn) (hK : C.K = K) (F : Fun K "is_some_world" "is_some_world" s_is_some_world f fd)   {f_is_tuple : Addr} {d_is_tuple : FuncData} (D_is_tuple : DefQ P w K mg base C "is_tuple" 1 f_is_tuple d_is_tuple l_is_tuple p_is_tuple) {f_are_numbers : Addr} {d_are_numbers : FuncData} (D__are_numbers : DefQ P w K mg base C "_are_numbers" 2 f_are_numbers d_are_numbers l_are_numbers p_are_numbers) {f_names_of : Addr} {d_names_of : FuncData} (D_names_of : DefQ P w K mg base C "names_of" 2 f_names_of d_names_of l_names_of p_names_of) {f_lean : Addr} {d_lean : FuncData} (M_lean : MethQ P w K mg base C "Yard" "lean" 1 f_lean d_lean l_Y_lean p_Y_lean) {f_most : Addr} {d_most : FuncData} (M_most : MethQ P w K mg base C "Yard" "most" 1 f_most d_most l_Y_most p_Y_most) {f_things : Addr} {d_things : FuncData} (M_things : MethQ P w K mg base C "Yard" "things" 1 f_things d_things l_Y_things p_Y_things) : FnOk P w K mg base (L2.CX P w) 3 f fd ["yard", "thing"] (spOf C p_is_some_world) :=
  q_fun F sc_is_some_world C (fun ds n R Y h => by obtain ⟨_, _, _, _, _, rfl, _⟩ := h; rfl) fun m M H std n3 ms Y cdv A outer s E hr tk => ⟨_,
    (qs_cons (q_ifS (qt_not (qt_val (q_callD D_is_tuple hr (qa_cons (q_var 1) (qa_cons q_int qa_nil))))) (qs_one (q_ret q_bl)) qs_nil) (qs_cons (q_asg (q_var 1) (qg_tup (n := 2) rfl (qgs_cons (qg_name (i := 2) sc_is_some_world.nd rfl (by first | exact Or.inl rfl | exact Or.inr rfl)) (qgs_cons (qg_name (i := 3) sc_is_some_world.nd rfl (by first | exact Or.inl rfl | exact Or.inr rfl)) qgs_nil)))) (qs_cons (q_set (i := 4) sc_is_some_world.nd rfl (by first | exact Or.inl rfl | exact Or.inr rfl) (q_meth0 M_lean hr (q_var 0))) (qs_one (q_ret (q_and (q_callD D__are_numbers hr (qa_cons (q_var 2) (qa_cons (q_meth0 M_things hr (q_var 0)) (qa_cons q_int (qa_cons (q_meth0 M_most hr (q_var 0)) qa_nil))))) (q_one (q_callD D__are_numbers hr (qa_cons (q_var 3) (qa_cons (q_callD D_names_of hr (qa_cons (q_var 0) qa_nil)) (qa_cons (q_neg (q_var 4)) (qa_cons (q_var 4) qa_nil)))))))))))), fun ds n R h => by
    obtain ⟨r, ks, wt, k2, ln, rfl, ok, hd, hR⟩ := h
    change (_ : GS) _ (⟨[some (_, false), some (_, false), none, none, none], n⟩ : L2.Q.Env)
    one_item
    refine ⟨_, 2, rfl, rfl, fun c => (nomatch c), fun _ => ⟨rfl, rfl, _, _, rfl, by decide, r, rfl, ?_⟩⟩
    refine ⟨_, _, rfl, by decide, r, rfl, ?_⟩
    refine ⟨_, _, rfl, by decide, r, rfl, ?_⟩
    refine ⟨ks, wt, r.names, 1, r.most, rfl, hd.w, fun _ => ?_, fun c => (nomatch c)⟩
    refine ⟨r, rfl, ok, ?_⟩
    exact ⟨k2, ln, _, _, _, rfl, hd.l, hR⟩⟩
abbrev s_need_some_world : Stmt := top 30
theorem sc_need_some_world : FnScope ["yard", "thing"] ["yard", "thing"] (defScope s_need_some_world) := ⟨rfl, rfl, rfl, by decide +kernel, rfl, by decide +kernel, by decide +kernel⟩
abbrev l_need_some_world : List Str := ["yard", "thing"]
theorem ok_need_some_world {f : Addr} {fd : FuncData} (C : Cn) (hK : C.K = K) (F : Fun K "need_some_world" "need_some_world" s_need_some_world f fd)   {f_is_some_world : Addr} {d_is_some_world : FuncData} (D_is_some_world : DefQ P w K mg base C "is_some_world" 3 f_is_some_world d_is_some_world l_is_some_world p_is_some_world) : FnOk P w K mg base (L2.CX P w) 4 f fd ["yard", "thing"] (spOf C p_need_some_world) :=
  q_fun F sc_need_some_world C (fun ds n R Y h => by obtain ⟨_, _, _, _, _, rfl, _⟩ := h; rfl) fun m M H std n3 ms Y cdv A outer s E hr tk => ⟨_,
    (qs_one (q_ifS (qt_not (qt_val (q_callD D_is_some_world hr (qa_cons (q_var 0) (qa_cons (q_var 1) qa_nil))))) (qs_one q_never) qs_nil)), fun ds n R h => by
    obtain ⟨r, ks, wt, k2, ln, rfl, ok, hd, hR⟩ := h
    change (_ : GS) _ (⟨[some (_, false), some (_, false)], n⟩ : L2.Q.Env)
    one_item
    exact ⟨r, ks, wt, k2, ln, rfl, ok, hd, fun c => (nomatch c), fun _ => hR⟩⟩
abbrev s_told_by : Stmt := top 31
theorem sc_told_by : FnScope ["yard", "world", "weighings"] ["yard", "world", "weighings"] (defScope s_told_by) := ⟨rfl, rfl, rfl, by decide +kernel, rfl, by decide +kernel, by decide +kernel⟩
abbrev l_told_by : List Str := ["yard", "world", "weighings"]
theorem ok_told_by {f : Addr} {fd : FuncData} (C : Cn) (hK : C.K = K) (F : Fun K "told_by" "told_by" s_told_by f fd)   {f_need_some_world : Addr} {d_need_some_world : FuncData} (D_need_some_world : DefQ P w K mg base C "need_some_world" 4 f_need_some_world d_need_some_world l_need_some_world p_need_some_world) {f_need_weighings : Addr} {d_need_weighings : FuncData} (D_need_weighings : DefQ P w K mg base C "need_weighings" 6 f_need_weighings d_need_weighings l_need_weighings p_need_weighings) {f_words : Addr} {d_words : FuncData} (D__words : DefQ P w K mg base C "_words" 4 f_words d_words l_words p_words) : FnOk P w K mg base (L2.CX P w) 7 f fd ["yard", "world", "weighings"] (spOf C p_told_by) :=
  q_fun F sc_told_by C (fun ds n R Y h => by obtain ⟨_, _, _, _, _, _, _, rfl, _⟩ := h; rfl) fun m M H std n3 ms Y cdv A outer s E hr tk => ⟨_,
    (qs_cons (q_drop (q_callD D_need_some_world hr (qa_cons (q_var 0) (qa_cons (q_var 1) qa_nil)))) (qs_cons (q_drop (q_callD D_need_weighings hr (qa_cons (q_var 0) (qa_cons (q_var 2) qa_nil)))) (qs_one (q_ret (q_callD D__words hr (qa_cons (q_var 0) (qa_cons (q_var 1) (qa_cons (q_var 2) qa_nil)))))))), fun ds n R h => by
    obtain ⟨r, ks, wt, k2, ln, xs, t, rfl, ok, hd, ht, hx, hl, hR⟩ := h
    change (_ : GS) _ (⟨[some (_, false), some (_, false), some (_, false)], n⟩ : L2.Q.Env)
    one_item
    refine ⟨r, ks, wt, k2, ln, rfl, ok, hd, r, xs.map wD, t, rfl, ok, ht, fun d hd => ?_, ?_⟩
    · obtain ⟨x, h1, rfl⟩ := List.mem_map.mp hd
      exact ⟨x, rfl, hx x h1⟩
    · exact ⟨r, ks, wt, k2, ln, xs, t, rfl, ok, hd, ht, hx, hl, hR⟩⟩
abbrev s_is_world : Stmt := top 32
theorem sc_is_world : FnScope ["yard", "log", "thing", "row"] ["yard", "log", "thing"] (defScope s_is_world) := ⟨rfl, rfl, rfl, by decide +kernel, rfl, by decide +kernel, by decide +kernel⟩
abbrev l_is_world : List Str := ["yard", "log", "thing"]
theorem ok_is_world {f : Addr} {fd : FuncData} (C : Cn) (hK : C.K = K) (F : Fun K "is_world" "is_world" s_is_world f fd)  (n_list : mg "list" = none) {f_need_log : Addr} {d_need_log : FuncData} (D_need_log : DefQ P w K mg base C "need_log" 6 f_need_log d_need_log l_need_log p_need_log) {f_words : Addr} {d_words : FuncData} (D__words : DefQ P w K mg base C "_words" 4 f_words d_words l_words p_words) {f_is_some_world : Addr} {d_is_some_world : FuncData} (D_is_some_world : DefQ P w K mg base C "is_some_world" 3 f_is_some_world d_is_some_world l_is_some_world p_is_some_world) : FnOk P w K mg base (L2.CX P w) 7 f fd ["yard", "log", "thing"] (spOf C p_is_world) :=
  q_fun F sc_is_world C (fun ds n R Y h => by obtain ⟨_, _, _, _, _, _, _, rfl, _⟩ := h; rfl) fun m M H std n3 ms Y cdv A outer s E hr tk => ⟨_,
    (qs_cons (q_drop (q_callD D_need_log hr (qa_cons (q_var 0) (qa_cons (q_var 1) qa_nil)))) (qs_one (q_ret (q_and (q_callD D_is_some_world hr (qa_cons (q_var 0) (qa_cons (q_var 2) qa_nil))) (q_one (q_cmp (oq_eq hr.u65 hK) (q_callD D__words hr (qa_cons (q_var 0) (qa_cons (q_var 2) (qa_cons (q_lc [("row", 3)] rfl sc_is_world.nd (blkOk_by (own := [("row", 3)]) (N := ["yard", "log", "thing", "row"]) (sc := defScope s_is_world) (by decide +kernel)) (qi_seq (q_var 1)) (fun _ _ _ _ _ _ _ _ => (qg_name (i := 3) sc_is_world.nd rfl (by first | exact Or.inl rfl | exact Or.inr rfl))) (fun _ _ _ _ _ _ _ _ => (q_sl (q_var 3) qo_none (qo_some q_int)))) qa_nil)))) (q_tcall cq_list (by rfl) n_list (qa_cons (q_var 1) qa_nil)))))))), fun ds n R h => by
    obtain ⟨r, ks, wt, k2, ln, xs, t, rfl, ok, hd, ht, hx, hl, hR⟩ := h
    change (_ : GS) _ (⟨[some (_, false), some (_, false), some (_, false), none], n⟩ : L2.Q.Env)
    one_item
    refine ⟨r, xs.map rwD, t, rfl, ok, ht, fun d hd => ?_, ?_⟩
    · obtain ⟨x, h1, rfl⟩ := List.mem_map.mp hd
      exact ⟨x, rfl, hx x h1⟩
    refine ⟨r, ks, wt, k2, ln, rfl, ok, hd, fun _ => ?_, fun c => (nomatch c)⟩
    refine lc_go2 (xs.map rwD) ⟨[some (yD r, false), some (t, false), some (wdD ks wt k2 ln, false), none], n⟩ (fun Q h => ?_) ?_
    · rcases ht with rfl | rfl <;> exact h
    refine lc_each (fun d => match d with | .tup (a :: b :: c :: _) => .tup [a, b, c] | _ => .non) (noOwn_of rfl) (by rw [List.length_map]; omega) (fun d hd1 K K' hk => ?_) ?_
    · obtain ⟨x, hx1, rfl⟩ := List.mem_map.mp hd1
      exact ⟨fun _ => hk _ _ rfl, fun c => (nomatch c)⟩
    have e : (xs.map rwD).map (fun d => match d with | .tup (a :: b :: c :: _) => D.tup [a, b, c] | _ => .non) = (xs.map (·.1)).map wD := by rw [List.map_map, List.map_map]; rfl
    rw [e]
    refine ⟨r, ks, wt, k2, ln, xs.map (·.1), _, rfl, ok, hd, .inl rfl, fun x hx' => ?_, by rw [List.length_map]; exact hl, ?_⟩
    · obtain ⟨z, hz, rfl⟩ := List.mem_map.mp hx'
      exact (hx z hz).w
    one_item
    rcases ht with rfl | rfl
    · exact ⟨_, eqT_rws _ _, hR _ (by simp)⟩
    · exact ⟨_, eqT_rws _ _, hR _ (by simp)⟩⟩
end
end L2.Q.Lw
set_option Elab.async false
set_option linter.all false
set_option maxRecDepth 100000
set_option maxHeartbeats 4000000
namespace L2.Q.Lw
open PySem PySem.Spec PyProof.Rows L2 L2.Wb L2.Q L2.Q.Wbm
section
variable {P : Program} {w : World} {K : PySem.W.Frag} {mg : Str → Option Value} {base : Heap}
abbrev s_is_listX : Stmt := top 9
theorem sc_is_listX : FnScope ["thing"] ["thing"] (defScope s_is_listX) := ⟨rfl, rfl, rfl, by decide +kernel, rfl, by decide +kernel, by decide +kernel⟩
theorem ok_is_listX {f : Addr} {fd : FuncData} (C : Cn) (hK : C.K = K) (F : Fun K "is_list" "is_list" s_is_listX f fd)  (n_list : mg "list" = none) (n_tuple : mg "tuple" = none) (n_type : mg "type" = none) : FnOk P w K mg base (L2.CX P w) 1 f fd ["thing"] (spOf C p_is_listX) :=
  q_fun F sc_is_listX C (fun ds n R Y h => by obtain ⟨_, _, rfl, _⟩ := h; rfl) fun m M H std n3 ms Y cdv A outer s E hr tk => ⟨_,
    (qs_one (q_ret (q_cmp oq_tyIn (q_tcall cq_type (by rfl) n_type (qa_cons (q_var 0) qa_nil)) (q_tup (qa_cons (q_ty (n := "list") (by rfl) n_list) (qa_cons (q_ty (n := "tuple") (by rfl) n_tuple) qa_nil))) (by rfl)))), fun ds n R h => by
    obtain ⟨d, t, rfl, ht, hR⟩ := h
    change (_ : GS) _ (⟨[some (_, false)], n⟩ : L2.Q.Env)
    one_item
    have fin : PySem.WbT.Plain t → (["list", "tuple"].any fun m => decide (m = t)) = isSq d → (∃ n_1, tyName d = some n_1 ∧ [D.raw (V.ty "list"), D.raw (V.ty "tuple")].length ≤ 1000000 ∧ tyInF (D.raw (V.ty n_1)) (D.tup [D.raw (V.ty "list"), D.raw (V.ty "tuple")]) fun z fr => R z fr n) := fun hp e => ⟨t, ht, by decide, t, ["list", "tuple"], rfl, rfl, hp, by simp [PySem.WbT.plain_list, PySem.WbT.plain_tuple], by rw [e]; exact hR⟩
    cases d with
    | non => cases ht; exact fin PySem.WbT.plain_none rfl
    | bl b => cases ht; exact fin PySem.WbT.plain_bool rfl
    | int b => cases ht; exact fin PySem.WbT.plain_int rfl
    | str b => cases ht; exact fin PySem.WbT.plain_str rfl
    | lst b => cases ht; exact fin PySem.WbT.plain_list rfl
    | tup b => cases ht; exact fin PySem.WbT.plain_tuple rfl
    | dct b c => cases ht; exact fin PySem.WbT.plain_dict rfl
    | _ => cases ht⟩
abbrev s_is_tupleX : Stmt := top 10
theorem sc_is_tupleX : FnScope ["thing", "many"] ["thing", "many"] (defScope s_is_tupleX) := ⟨rfl, rfl, rfl, by decide +kernel, rfl, by decide +kernel, by decide +kernel⟩
theorem ok_is_tupleX {f : Addr} {fd : FuncData} (C : Cn) (hK : C.K = K) (F : Fun K "is_tuple" "is_tuple" s_is_tupleX f fd)  (n_len : mg "len" = none) (n_tuple : mg "tuple" = none) (n_type : mg "type" = none) : FnOk P w K mg base (L2.CX P w) 1 f fd ["thing", "many"] (spOf C p_is_tupleX) :=
  q_fun F sc_is_tupleX C (fun ds n R Y h => by obtain ⟨_, _, _, rfl, _⟩ := h; rfl) fun m M H std n3 ms Y cdv A outer s E hr tk => ⟨_,
    (qs_one (q_ret (q_and (q_cmp oq_isT (q_tcall cq_type (by rfl) n_type (qa_cons (q_var 0) qa_nil)) (q_ty (n := "tuple") (by rfl) n_tuple)) (q_one (q_cmp (oq_eq hr.u65 hK) (q_lenV 0 n_len) (q_var 1)))))), fun ds n R h => by
    obtain ⟨d, m, t, rfl, ht, hR⟩ := h
    change (_ : GS) _ (⟨[some (_, false), some (_, false)], n⟩ : L2.Q.Env)
    one_item
    refine ⟨t, ht, fun c => ?_, fun c => ?_⟩
    · cases d with
      | tup xs =>
        refine ⟨_, rfl, ?_⟩
        have e : ((xs.length : Int) == (m : Int)) = decide (xs.length = m) := by
          rw [Bool.eq_iff_iff, beq_iff_eq, decide_eq_true_eq]; omega
        rw [eqD_int, e]; exact hR
      | _ => cases ht <;> simp at c
    · cases d with
      | tup xs => cases ht; cases c
      | _ => exact hR⟩
abbrev s_is_weighingX : Stmt := top 16
theorem sc_is_weighingX : FnScope ["yard", "thing", "beam", "left", "right", "pans"] ["yard", "thing"] (defScope s_is_weighingX) := ⟨rfl, rfl, rfl, by decide +kernel, rfl, by decide +kernel, by decide +kernel⟩
theorem ok_is_weighingX {f : Addr} {fd : FuncData} (C : Cn) (hK : C.K = K) (F : Fun K "is_weighing" "is_weighing" s_is_weighingX f fd)   {f_is_tuple : Addr} {d_is_tuple : FuncData} (D_is_tuple : DefQ P w K mg base C "is_tuple" 1 f_is_tuple d_is_tuple l_is_tuple p_is_tupleX) {f_pans_of : Addr} {d_pans_of : FuncData} (D_pans_of : DefQ P w K mg base C "pans_of" 2 f_pans_of d_pans_of l_pans_of p_pans_of) {f_are_unlike : Addr} {d_are_unlike : FuncData} (D__are_unlike : DefQ P w K mg base C "_are_unlike" 1 f_are_unlike d_are_unlike l_are_unlike p_are_unlike) {f_names_of : Addr} {d_names_of : FuncData} (D_names_of : DefQ P w K mg base C "names_of" 2 f_names_of d_names_of l_names_of p_names_of) : FnOk P w K mg base (L2.CX P w) 3 f fd ["yard", "thing"] (spOf C p_is_weighingX) :=
  q_fun F sc_is_weighingX C (fun ds n R Y h => by obtain ⟨_, _, rfl, _⟩ := h; rfl) fun m M H std n3 ms Y cdv A outer s E hr tk => ⟨_,
    (qs_cons (q_ifS (qt_not (qt_val (q_callX tk D_is_tuple hr (qa_cons (q_var 1) (qa_cons q_int qa_nil))))) (qs_one (q_ret q_bl)) qs_nil) (qs_cons (q_asg (q_var 1) (qg_tup (n := 3) rfl (qgs_cons (qg_name (i := 2) sc_is_weighingX.nd rfl (by first | exact Or.inl rfl | exact Or.inr rfl)) (qgs_cons (qg_name (i := 3) sc_is_weighingX.nd rfl (by first | exact Or.inl rfl | exact Or.inr rfl)) (qgs_cons (qg_name (i := 4) sc_is_weighingX.nd rfl (by first | exact Or.inl rfl | exact Or.inr rfl)) qgs_nil))))) (qs_cons (q_set (i := 5) sc_is_weighingX.nd rfl (by first | exact Or.inl rfl | exact Or.inr rfl) (q_callX tk D_pans_of hr (qa_cons (q_var 0) qa_nil))) (qs_one (q_ret (q_and (q_cmp (oq_inA hr.u65 hK) (q_var 2) (q_callX tk D_names_of hr (qa_cons (q_var 0) qa_nil)) (by rfl)) (q_and (q_inV 5 hr.u65 (q_var 3) hK) (q_and (q_inV 5 hr.u65 (q_var 4) hK) (q_one (q_callX tk D__are_unlike hr (qa_cons (q_var 3) (qa_cons (q_var 4) qa_nil)))))))))))), fun ds n R h => by
    obtain ⟨r, d, rfl, ok, hd, hR⟩ := h
    change (_ : GS) _ (⟨[some (_, false), some (_, false), none, none, none, none], n⟩ : L2.Q.Env)
    one_item
    obtain ⟨t, ht⟩ := It.ty hd
    refine ⟨d, 3, t, rfl, ht, fun c => ?_, fun c => ?_⟩
    · rw [wgX_no (by simpa using c)] at hR; exact hR
    · obtain ⟨a, b, q, rfl⟩ := tupL3 (by simpa using c)
      have el := It.el hd
      refine ⟨rfl, rfl, r, rfl, ok, ?_⟩
      refine ⟨r, rfl, ok, ?_⟩
      have hW : isWgX r (.tup [a, b, q]) = (inS (r.beams.map (·.1)) a && (inP r.names b && (inP r.names q && unlX b q))) := rfl
      rw [hW] at hR
      refine ⟨_, mem_strsX (el a (by simp)), fun c1 => ?_, fun c1 => ?_⟩
      · have c1 : inS (r.beams.map (·.1)) a = true := by simpa using c1
        rw [c1, Bool.true_and] at hR
        refine ⟨_, mem_pansX (el b (by simp)), fun c2 => ?_, fun c2 => ?_⟩
        · have c2 : inP r.names b = true := by simpa using c2
          rw [c2, Bool.true_and] at hR
          refine ⟨_, mem_pansX (el q (by simp)), fun c3 => ?_, fun c3 => ?_⟩
          · have c3 : inP r.names q = true := by simpa using c3
            rw [c3, Bool.true_and] at hR
            obtain ⟨p1, rfl, _⟩ := inP_pan c2
            obtain ⟨p2, rfl, _⟩ := inP_pan c3
            refine ⟨p1, p2, rfl, ?_⟩
            rw [← unlX_pan]; exact hR
          · have c3 : inP r.names q = false := by simpa using c3
            rw [c3, Bool.false_and] at hR; exact hR
        · have c2 : inP r.names b = false := by simpa using c2
          rw [c2, Bool.false_and] at hR; exact hR
      · have c1 : inS (r.beams.map (·.1)) a = false := by simpa using c1
        rw [c1, Bool.false_and] at hR; exact hR⟩
abbrev s_is_rowX : Stmt := top 17
theorem sc_is_rowX : FnScope ["yard", "thing"] ["yard", "thing"] (defScope s_is_rowX) := ⟨rfl, rfl, rfl, by decide +kernel, rfl, by decide +kernel, by decide +kernel⟩
theorem ok_is_rowX {f : Addr} {fd : FuncData} (C : Cn) (hK : C.K = K) (F : Fun K "is_row" "is_row" s_is_rowX f fd) {aW : Addr} (m_WORDS : mg "WORDS" = some (.ref aW)) (g_WORDS : ∀ H, Dp K H (.ref aW) (.tuple (toPyA (words.map D.str))))  {f_is_weighing : Addr} {d_is_weighing : FuncData} (D_is_weighing : DefQ P w K mg base C "is_weighing" 3 f_is_weighing d_is_weighing l_is_weighing p_is_weighingX) {f_is_tuple : Addr} {d_is_tuple : FuncData} (D_is_tuple : DefQ P w K mg base C "is_tuple" 1 f_is_tuple d_is_tuple l_is_tuple p_is_tupleX) : FnOk P w K mg base (L2.CX P w) 4 f fd ["yard", "thing"] (spOf C p_is_rowX) :=
  q_fun F sc_is_rowX C (fun ds n R Y h => by obtain ⟨_, _, rfl, _⟩ := h; rfl) fun m M H std n3 ms Y cdv A outer s E hr tk => ⟨_,
    (qs_one (q_ret (q_and (q_callX tk D_is_tuple hr (qa_cons (q_var 1) (qa_cons q_int qa_nil))) (q_and (q_callX tk D_is_weighing hr (qa_cons (q_var 0) (qa_cons (q_sl (q_var 1) qo_none (qo_some q_int)) qa_nil))) (q_one (q_inG hr.u65 g_WORDS (by rfl) m_WORDS (q_ixV 1 hr.u1 q_int) hK)))))), fun ds n R h => by
    obtain ⟨r, d, rfl, ok, hd, hR⟩ := h
    change (_ : GS) _ (⟨[some (_, false), some (_, false)], n⟩ : L2.Q.Env)
    one_item
    obtain ⟨t, ht⟩ := It.ty hd
    refine ⟨d, 4, t, rfl, ht, fun c => ?_, fun c => ?_⟩
    · obtain ⟨a, b, q, z, rfl⟩ := tupL4 c
      have el := It.el hd
      have h3 : Wbm.It (.tup [a, b, q]) = true := List.all_eq_true.mpr fun x hx => el x (by simp only [List.mem_cons, List.not_mem_nil, or_false] at hx ⊢; rcases hx with h | h | h <;> simp [h])
      have hW : isRwX r (.tup [a, b, q, z]) = (isWgX r (.tup [a, b, q]) && inS words z) := rfl
      rw [hW] at hR
      refine ⟨r, .tup [a, b, q], rfl, ok, h3, fun c1 => ?_, fun c1 => ?_⟩
      · rw [c1, Bool.true_and] at hR
        exact ⟨rfl, _, rfl, _, mem_strsTX (el z (by simp)), hR⟩
      · rw [c1, Bool.false_and] at hR; exact hR
    · rw [rwX_no c] at hR; exact hR⟩
abbrev s_need_eachX : Stmt := top 18
theorem sc_need_eachX : FnScope ["yard", "things", "is_one", "at", "thing"] ["yard", "things", "is_one"] (defScope s_need_eachX) := ⟨rfl, rfl, rfl, by decide +kernel, rfl, by decide +kernel, by decide +kernel⟩
theorem ok_need_eachX {f : Addr} {fd : FuncData} (C : Cn) (hK : C.K = K) (F : Fun K "_need_each" "_need_each" s_need_eachX f fd) {fr fw : Addr} (hne : fr ≠ fw) (A_is_one : ∀ v p, sOneX fr fw v = some p → ∃ f fd prm, v = .ref f ∧ FnOk P w K mg base (L2.CX P w) 4 f fd prm (spOf C p) ∧ PySem.W.keepIn K (.ref f) = true ∧ Binds K fd prm []) (n_enumerate : mg "enumerate" = none) {f_is_list : Addr} {d_is_list : FuncData} (D_is_list : DefQ P w K mg base C "is_list" 1 f_is_list d_is_list l_is_list p_is_listX) (r_NoRow : RsF P w K mg C "NoRow" "at" okI) : FnOk P w K mg base (L2.CX P w) 5 f fd ["yard", "things", "is_one"] (spOf C (p_need_eachX fr fw)) :=
  q_fun F sc_need_eachX C (fun ds n R Y h => by obtain ⟨_, _, _, _, rfl, _⟩ := h; rfl) fun m M H std n3 ms Y cdv A outer s E hr tk => ⟨_,
    (qs_cons (q_ifS (qt_not (qt_val (q_callX tk D_is_list hr (qa_cons (q_var 1) qa_nil)))) (qs_one (q_raiseX tk r_NoRow hr (qa_cons q_int qa_nil))) qs_nil) (qs_one (q_for (passes_of rfl) rfl (qi_enumA (by rfl) n_enumerate (qa_cons (q_var 1) qa_nil)) (qg_tup (n := 2) rfl (qgs_cons (qg_name (i := 3) sc_need_eachX.nd rfl (by first | exact Or.inl rfl | exact Or.inr rfl)) (qgs_cons (qg_name (i := 4) sc_need_eachX.nd rfl (by first | exact Or.inl rfl | exact Or.inr rfl)) qgs_nil))) (qs_one (q_ifS (qt_not (qt_val (q_callL 2 tk A_is_one hr (qa_cons (q_var 0) (qa_cons (q_var 4) qa_nil))))) (qs_one (q_raiseX tk r_NoRow hr (qa_cons (q_var 3) qa_nil))) qs_nil))))), fun ds n R h => by
    obtain ⟨r, t, v, p, rfl, ok, ht, hv, hR⟩ := h
    change (_ : GS) _ (⟨[some (_, false), some (_, false), some (_, false), none, none], n⟩ : L2.Q.Env)
    one_item
    obtain ⟨tt, ht1⟩ := Option.isSome_iff_exists.mp ht.ty
    refine ⟨t, tt, rfl, ht1, fun c => ?_, fun c => ?_⟩
    · have c0 : isSq t = false := by simpa using c
      have e : seqD t = none := by cases t <;> first | rfl | cases c0
      unfold outX at hR
      rw [e] at hR
      exact ⟨.int 0, rfl, ⟨0, rfl, by decide⟩, hR⟩
    · have c0 : isSq t = true := by simpa using c
      have e : ∃ xs, seqD t = some xs ∧ (t = .lst xs ∨ t = .tup xs) := by
        cases t with
        | lst xs => exact ⟨xs, rfl, .inl rfl⟩
        | tup xs => exact ⟨xs, rfl, .inr rfl⟩
        | _ => cases c0
      obtain ⟨xs, e, et⟩ := e
      obtain ⟨hl, hit⟩ := ht.it xs e
      unfold outX at hR
      rw [e] at hR
      dsimp only at hR
      refine ⟨xs, by rcases et with rfl | rfl <;> simp, ?_⟩
      refine ⟨fun i e => (∃ s3 s4, e = (⟨[some (yD r, false), some (t, false), some (.raw v, false), s3, s4], n⟩ : L2.Q.Env)) ∧ ∀ j d, j < i → xs[j]? = some d → p d = true, ⟨⟨_, _, rfl⟩, fun j d z => absurd z (Nat.not_lt_zero _)⟩, fun i d e hd ⟨⟨s3, s4, he⟩, hp⟩ => ?_, fun e ⟨⟨s3, s4, he⟩, hp⟩ => ?_⟩
      · subst he
        obtain ⟨d', hd', rfl⟩ := enumD_get hd
        have hm := List.mem_of_getElem? hd'
        have hi := (List.getElem?_eq_some_iff.mp hd').1
        one_item
        refine ⟨rfl, rfl, ?_⟩
        have fin : ∃ pp, sOneX fr fw v = some pp ∧ ∀ RR YY, RR (.bl (p d')) false n → pp [yD r, d'] n RR YY := by
          rcases hv with ⟨rfl, rfl⟩ | ⟨rfl, rfl⟩
          · exact ⟨p_is_rowX, if_pos rfl, fun RR YY h => ⟨r, d', rfl, ok, hit d' hm, h⟩⟩
          · exact ⟨p_is_weighingX, by unfold sOneX; rw [if_neg (fun z => hne (V.ref.inj z).symm), if_pos rfl], fun RR YY h => ⟨r, d', rfl, ok, hit d' hm, h⟩⟩
        obtain ⟨pp, h1, h2⟩ := fin
        refine ⟨v, false, pp, rfl, h1, h2 _ _ ⟨fun c => ?_, fun c => ?_⟩⟩
        · have c1 : p d' = false := by simpa using c
          rw [badX_at hp hd' c1] at hR
          rw [Nat.zero_add]
          exact ⟨_, rfl, ofNat_okI (by omega), hR⟩
        · have c1 : p d' = true := by simpa using c
          refine ⟨⟨_, _, rfl⟩, fun j x hj hx => ?_⟩
          by_cases q : j = i
          · subst q; rw [hd'] at hx; cases hx; exact c1
          · exact hp j x (by omega) hx
      · subst he
        rw [badX_none fun i d hd => hp i d (by have := (List.getElem?_eq_some_iff.mp hd).1; rw [enumD_len]; exact this) hd] at hR
        exact hR⟩
abbrev s_need_logX : Stmt := top 19
theorem sc_need_logX : FnScope ["yard", "log"] ["yard", "log"] (defScope s_need_logX) := ⟨rfl, rfl, rfl, by decide +kernel, rfl, by decide +kernel, by decide +kernel⟩
theorem ok_need_logX {f : Addr} {fd : FuncData} (C : Cn) (hK : C.K = K) (F : Fun K "need_log" "need_log" s_need_logX f fd) {fr fw : Addr} (a_is_row : mg "is_row" = some (.ref fr))  {f_need_each : Addr} {d_need_each : FuncData} (D__need_each : DefQ P w K mg base C "_need_each" 5 f_need_each d_need_each l_need_each (p_need_eachX fr fw)) : FnOk P w K mg base (L2.CX P w) 6 f fd ["yard", "log"] (spOf C p_need_logX) :=
  q_fun F sc_need_logX C (fun ds n R Y h => by obtain ⟨_, _, rfl, _⟩ := h; rfl) fun m M H std n3 ms Y cdv A outer s E hr tk => ⟨_,
    (qs_one (q_drop (q_callX tk D__need_each hr (qa_cons (q_var 0) (qa_cons (q_var 1) (qa_cons (q_gcls (by rfl) a_is_row) qa_nil)))))), fun ds n R h => by
    obtain ⟨r, t, rfl, ok, ht, hR⟩ := h
    change (_ : GS) _ (⟨[some (_, false), some (_, false)], n⟩ : L2.Q.Env)
    one_item
    exact ⟨r, t, _, _, rfl, ok, ht, .inl ⟨rfl, rfl⟩, hR⟩⟩
abbrev s_need_weighingsX : Stmt := top 20
theorem sc_need_weighingsX : FnScope ["yard", "things"] ["yard", "things"] (defScope s_need_weighingsX) := ⟨rfl, rfl, rfl, by decide +kernel, rfl, by decide +kernel, by decide +kernel⟩
theorem ok_need_weighingsX {f : Addr} {fd : FuncData} (C : Cn) (hK : C.K = K) (F : Fun K "need_weighings" "need_weighings" s_need_weighingsX f fd) {fr fw : Addr} (a_is_weighing : mg "is_weighing" = some (.ref fw))  {f_need_each : Addr} {d_need_each : FuncData} (D__need_each : DefQ P w K mg base C "_need_each" 5 f_need_each d_need_each l_need_each (p_need_eachX fr fw)) : FnOk P w K mg base (L2.CX P w) 6 f fd ["yard", "things"] (spOf C p_need_weighingsX) :=
  q_fun F sc_need_weighingsX C (fun ds n R Y h => by obtain ⟨_, _, rfl, _⟩ := h; rfl) fun m M H std n3 ms Y cdv A outer s E hr tk => ⟨_,
    (qs_one (q_drop (q_callX tk D__need_each hr (qa_cons (q_var 0) (qa_cons (q_var 1) (qa_cons (q_gcls (by rfl) a_is_weighing) qa_nil)))))), fun ds n R h => by
    obtain ⟨r, t, rfl, ok, ht, hR⟩ := h
    change (_ : GS) _ (⟨[some (_, false), some (_, false)], n⟩ : L2.Q.Env)
    one_item
    exact ⟨r, t, _, _, rfl, ok, ht, .inr ⟨rfl, rfl⟩, hR⟩⟩
end
end L2.Q.Lw
set_option Elab.async false
set_option linter.all false
set_option maxRecDepth 100000
set_option maxHeartbeats 4000000
namespace L2.Q.Lw
open PySem PySem.Spec PyProof.Rows L2 L2.Wb L2.Q L2.Q.Wbm
section
variable {P : Program} {w : World} {K : PySem.W.Frag} {mg : Str → Option Value} {base : Heap}
abbrev s_is_numberX : Stmt := top 8
theorem sc_is_numberX : FnScope ["thing", "first", "last"] ["thing", "first", "last"] (defScope s_is_numberX) := ⟨rfl, rfl, rfl, by decide +kernel, rfl, by decide +kernel, by decide +kernel⟩
theorem ok_is_numberX {f : Addr} {fd : FuncData} (C : Cn) (hK : C.K = K) (F : Fun K "is_number" "is_number" s_is_numberX f fd)  (n_int : mg "int" = none) (n_type : mg "type" = none) : FnOk P w K mg base (L2.CX P w) 1 f fd ["thing", "first", "last"] (spOf C p_is_numberX) :=
  q_fun F sc_is_numberX C (fun ds n R Y h => by obtain ⟨_, _, _, _, rfl, _⟩ := h; rfl) fun m M H std n3 ms Y cdv A outer s E hr tk => ⟨_,
    (qs_one (q_ret (q_and (q_cmp oq_isT (q_tcall cq_type (by rfl) n_type (qa_cons (q_var 0) qa_nil)) (q_ty (n := "int") (by rfl) n_int)) (q_one (q_chain oq_le oq_le (q_var 1) (q_var 0) (q_var 2)))))), fun ds n R h => by
    obtain ⟨d, t, lo, hi, rfl, ht, hR⟩ := h
    change (_ : GS) _ (⟨[some (_, false), some (_, false), some (_, false)], n⟩ : L2.Q.Env)
    one_item
    refine ⟨t, ht, fun c => ?_, fun c => ?_⟩
    · cases d with
      | int i =>
        have hR : R (.bl (decide (lo ≤ i) && decide (i ≤ hi))) false n := hR
        refine ⟨fun c => ?_, fun c => ?_⟩
        · have c' : decide (lo ≤ i) = true := c
          rw [c', Bool.true_and] at hR; exact hR
        · have c' : decide (lo ≤ i) = false := c
          rw [c', Bool.false_and] at hR; exact hR
      | _ => cases ht <;> exact absurd c (by decide)
    · cases d with
      | int i => cases ht; exact absurd c (by decide)
      | _ => exact hR⟩
abbrev s_are_numbersX : Stmt := top 28
theorem sc_are_numbersX : FnScope ["thing", "names", "first", "last", "name"] ["thing", "names", "first", "last"] (defScope s_are_numbersX) := ⟨rfl, rfl, rfl, by decide +kernel, rfl, by decide +kernel, by decide +kernel⟩
theorem ok_are_numbersX {f : Addr} {fd : FuncData} (C : Cn) (hK : C.K = K) (F : Fun K "_are_numbers" "_are_numbers" s_are_numbersX f fd)  (n_all : mg "all" = none) (n_dict : mg "dict" = none) (n_len : mg "len" = none) (n_type : mg "type" = none) {f_is_number : Addr} {d_is_number : FuncData} (D_is_number : DefQ P w K mg base C "is_number" 1 f_is_number d_is_number l_is_number p_is_numberX) : FnOk P w K mg base (L2.CX P w) 2 f fd ["thing", "names", "first", "last"] (spOf C p_are_numbersX) :=
  q_fun F sc_are_numbersX C (fun ds n R Y h => by obtain ⟨_, _, _, _, rfl, _⟩ := h; rfl) fun m M H std n3 ms Y cdv A outer s E hr tk => ⟨_,
    (qs_cons (q_ifS (PW.pt (qw_or (qt_cmp oq_isntT (q_tcall cq_type (by rfl) n_type (qa_cons (q_var 0) qa_nil)) (q_ty (n := "dict") (by rfl) n_dict)) (qw_or1 (qt_cmp (oq_ne hr.u65 hK) (q_lenD 0 n_len) (q_lenV 1 n_len))))) (qs_one (q_ret q_bl)) qs_nil) (qs_one (q_ret (q_bcall (cq_all rfl) (by rfl) n_all (qa_cons (q_lc [("name", 4)] rfl sc_are_numbersX.nd (blkOk_by (own := [("name", 4)]) (N := ["thing", "names", "first", "last", "name"]) (sc := defScope s_are_numbersX) (by decide +kernel)) (qi_seq (q_var 1)) (fun _ _ _ _ _ _ _ _ => (qg_name (i := 4) sc_are_numbersX.nd rfl (by first | exact Or.inl rfl | exact Or.inr rfl))) (fun _ _ _ _ _ _ _ _ => (q_and (q_inV 0 hr.u65 (q_var 4) hK) (q_one (q_callD D_is_number hr (qa_cons (q_ixV 0 hr.u1 (q_var 4)) (qa_cons (q_var 2) (qa_cons (q_var 3) qa_nil)))))))) qa_nil))))), fun ds n R h => by
    obtain ⟨d, names, lo, hi, rfl, hd, h8, hR⟩ := h
    change (_ : GS) _ (⟨[some (_, false), some (_, false), some (_, false), some (_, false), none], n⟩ : L2.Q.Env)
    one_item
    obtain ⟨t, ht⟩ := Option.isSome_iff_exists.mp hd.ty
    refine ⟨t, ht, fun c => ⟨fun _ => ?_, fun z => (nomatch z)⟩, fun c => ?_⟩
    · have e : areX names lo hi d = false := by
        unfold areX
        cases d with
        | dct ks vs => cases ht; exact absurd c (by decide)
        | _ => rfl
      rw [e] at hR; exact hR
    · cases d with
      | dct ks vs =>
        have hl : eqD (.int ks.length) (.int (names.map D.str).length) = decide (ks.length = names.length) := by
          rw [eqD_int, List.length_map, Bool.eq_iff_iff, beq_iff_eq, decide_eq_true_eq]; omega
        have hA : areX names lo hi (.dct ks vs) = (decide (ks.length = names.length) && names.all (numXat lo hi (.dct ks vs))) := rfl
        refine ⟨ks, vs, _, rfl, rfl, rfl, fun c2 => ?_, fun c2 => ?_⟩
        · rw [hl] at c2
          have c3 : decide (ks.length = names.length) = false := by simpa using c2
          rw [hA, c3, Bool.false_and] at hR
          exact hR
        · rw [hl] at c2
          have c3 : decide (ks.length = names.length) = true := by simpa using c2
          rw [hA, c3, Bool.true_and] at hR
          refine lc_go2 (names.map D.str) ⟨[some (.dct ks vs, false), some (.lst (names.map D.str), false), some (.int lo, false), some (.int hi, false), none], n⟩ (fun Q h => h) ?_
          refine lc_eachL D.str (fun x => .bl (numXat lo hi (.dct ks vs) x)) (noOwn_of rfl) (by omega) (fun x hx K K' hk => ?_) ?_
          · have hv : dVal (.dct ks vs) x = getK ks vs (.inr x) := rfl
            one_item
            refine ⟨fun _ => ⟨_, rfl, ?_⟩, fun c => (nomatch c)⟩
            cases q : getK ks vs (.inr x) with
            | none =>
              have e : numXat lo hi (.dct ks vs) x = false := by unfold numXat; rw [hv, q]
              rw [e] at hk
              exact ⟨fun c => (nomatch c), fun _ => hk _ _ rfl⟩
            | some v =>
              have e : numXat lo hi (.dct ks vs) x = isNumX lo hi v := by unfold numXat; rw [hv, q]
              rw [e] at hk
              obtain ⟨t2, h2⟩ := Option.isSome_iff_exists.mp (hd.val x v (hv.trans q))
              exact ⟨fun _ => ⟨rfl, v, congrArg some q, v, t2, lo, hi, rfl, h2, hk _ _ rfl⟩, fun c => (nomatch c)⟩
          · refine ⟨names.map (numXat lo hi (.dct ks vs)), ?_, ?_⟩
            · generalize numXat lo hi (.dct ks vs) = f
              clear hR hd h8 hA hl c2 c3
              induction names with
              | nil => rfl
              | cons y ys ih =>
                show (blsOf _).map _ = _
                rw [ih]; rfl
            · have e2 : ∀ f : Str → Bool, (names.map f).all id = names.all f := fun f => by rw [List.all_map]; rfl
              rw [e2]; exact hR
      | dcT ks vs => exact absurd rfl (hd.nt ks vs)
      | _ => cases ht <;> exact absurd c (by decide)⟩
abbrev s_is_some_worldX : Stmt := top 29
theorem sc_is_some_worldX : FnScope ["yard", "thing", "weights", "leans", "lean"] ["yard", "thing"] (defScope s_is_some_worldX) := ⟨rfl, rfl, rfl, by decide +kernel, rfl, by decide +kernel, by decide +kernel⟩
theorem ok_is_some_worldX {f : Addr} {fd : FuncData} (C : Cn) (hK : C.K = K) (F : Fun K "is_some_world" "is_some_world" s_is_some_worldX f fd)   {f_is_tuple : Addr} {d_is_tuple : FuncData} (D_is_tuple : DefQ P w K mg base C "is_tuple" 1 f_is_tuple d_is_tuple l_is_tuple p_is_tupleX) {f_are_numbers : Addr} {d_are_numbers : FuncData} (D__are_numbers : DefQ P w K mg base C "_are_numbers" 2 f_are_numbers d_are_numbers l_are_numbers p_are_numbersX) {f_names_of : Addr} {d_names_of : FuncData} (D_names_of : DefQ P w K mg base C "names_of" 2 f_names_of d_names_of l_names_of p_names_of) {f_lean : Addr} {d_lean : FuncData} (M_lean : MethQ P w K mg base C "Yard" "lean" 1 f_lean d_lean l_Y_lean p_Y_lean) {f_most : Addr} {d_most : FuncData} (M_most : MethQ P w K mg base C "Yard" "most" 1 f_most d_most l_Y_most p_Y_most) {f_things : Addr} {d_things : FuncData} (M_things : MethQ P w K mg base C "Yard" "things" 1 f_things d_things l_Y_things p_Y_things) : FnOk P w K mg base (L2.CX P w) 3 f fd ["yard", "thing"] (spOf C p_is_some_worldX) :=
  q_fun F sc_is_some_worldX C (fun ds n R Y h => by obtain ⟨_, _, rfl, _⟩ := h; rfl) fun m M H std n3 ms Y cdv A outer s E hr tk => ⟨_,
    (qs_cons (q_ifS (qt_not (qt_val (q_callX tk D_is_tuple hr (qa_cons (q_var 1) (qa_cons q_int qa_nil))))) (qs_one (q_ret q_bl)) qs_nil) (qs_cons (q_asg (q_var 1) (qg_tup (n := 2) rfl (qgs_cons (qg_name (i := 2) sc_is_some_worldX.nd rfl (by first | exact Or.inl rfl | exact Or.inr rfl)) (qgs_cons (qg_name (i := 3) sc_is_some_worldX.nd rfl (by first | exact Or.inl rfl | exact Or.inr rfl)) qgs_nil)))) (qs_cons (q_set (i := 4) sc_is_some_worldX.nd rfl (by first | exact Or.inl rfl | exact Or.inr rfl) (q_meth0 M_lean hr (q_var 0))) (qs_one (q_ret (q_and (q_callX tk D__are_numbers hr (qa_cons (q_var 2) (qa_cons (q_meth0 M_things hr (q_var 0)) (qa_cons q_int (qa_cons (q_meth0 M_most hr (q_var 0)) qa_nil))))) (q_one (q_callX tk D__are_numbers hr (qa_cons (q_var 3) (qa_cons (q_callX tk D_names_of hr (qa_cons (q_var 0) qa_nil)) (qa_cons (q_neg (q_var 4)) (qa_cons (q_var 4) qa_nil)))))))))))), fun ds n R h => by
    obtain ⟨r, d, rfl, ok, hd, hR⟩ := h
    change (_ : GS) _ (⟨[some (_, false), some (_, false), none, none, none], n⟩ : L2.Q.Env)
    one_item
    obtain ⟨t, ht⟩ := Option.isSome_iff_exists.mp hd.ty
    refine ⟨d, 2, t, rfl, ht, fun c => ?_, fun c => ?_⟩
    · rw [wdX_no (by simpa using c)] at hR; exact hR
    · obtain ⟨a, b, rfl⟩ := tupL2 (by simpa using c)
      obtain ⟨ha, hb⟩ := hd.it a b rfl
      have hW : wdX r (.tup [a, b]) = (areX r.names 1 r.most a && areX (r.beams.map (·.1)) (-r.lean) r.lean b) := rfl
      rw [hW] at hR
      refine ⟨rfl, rfl, _, _, rfl, by decide, r, rfl, ?_⟩
      refine ⟨_, _, rfl, by decide, r, rfl, ?_⟩
      refine ⟨_, _, rfl, by decide, r, rfl, ?_⟩
      refine ⟨a, r.names, 1, r.most, rfl, ha, ok.n8, fun c => ?_, fun c => ?_⟩
      · rw [c, Bool.true_and] at hR
        exact ⟨r, rfl, ok, b, r.beams.map (·.1), _, _, rfl, hb, by rw [List.length_map]; have := ok.b3; omega, hR⟩
      · rw [c, Bool.false_and] at hR; exact hR⟩
abbrev s_need_some_worldX : Stmt := top 30
theorem sc_need_some_worldX : FnScope ["yard", "thing"] ["yard", "thing"] (defScope s_need_some_worldX) := ⟨rfl, rfl, rfl, by decide +kernel, rfl, by decide +kernel, by decide +kernel⟩
theorem ok_need_some_worldX {f : Addr} {fd : FuncData} (C : Cn) (hK : C.K = K) (F : Fun K "need_some_world" "need_some_world" s_need_some_worldX f fd)   {f_is_some_world : Addr} {d_is_some_world : FuncData} (D_is_some_world : DefQ P w K mg base C "is_some_world" 3 f_is_some_world d_is_some_world l_is_some_world p_is_some_worldX) (x_NoAsk : PySem.W.excIn K (C.cA "NoAsk") [.type "ValueError", .type "Exception", .type "BaseException", .type "object"] "ValueError.__new__" = true) (e_NoAsk : ExcQ K mg C "NoAsk") : FnOk P w K mg base (L2.CX P w) 4 f fd ["yard", "thing"] (spOf C p_need_some_worldX) :=
  q_fun F sc_need_some_worldX C (fun ds n R Y h => by obtain ⟨_, _, rfl, _⟩ := h; rfl) fun m M H std n3 ms Y cdv A outer s E hr tk => ⟨_,
    (qs_one (q_ifS (qt_not (qt_val (q_callX tk D_is_some_world hr (qa_cons (q_var 0) (qa_cons (q_var 1) qa_nil))))) (qs_one (q_raise0 tk rfl PySem.F.excBase_ValueError x_NoAsk e_NoAsk)) qs_nil)), fun ds n R h => by
    obtain ⟨r, d, rfl, ok, hd, hR, hY⟩ := h
    change (_ : GS) _ (⟨[some (_, false), some (_, false)], n⟩ : L2.Q.Env)
    one_item
    refine ⟨r, d, rfl, ok, hd, fun c => ?_, fun c => ?_⟩
    · exact hY (by simpa using c)
    · exact hR (by simpa using c)⟩
abbrev s_told_byX : Stmt := top 31
theorem sc_told_byX : FnScope ["yard", "world", "weighings"] ["yard", "world", "weighings"] (defScope s_told_byX) := ⟨rfl, rfl, rfl, by decide +kernel, rfl, by decide +kernel, by decide +kernel⟩
theorem ok_told_byX {f : Addr} {fd : FuncData} (C : Cn) (hK : C.K = K) (F : Fun K "told_by" "told_by" s_told_byX f fd)   {f_need_some_world : Addr} {d_need_some_world : FuncData} (D_need_some_world : DefQ P w K mg base C "need_some_world" 4 f_need_some_world d_need_some_world l_need_some_world p_need_some_worldX) {f_need_weighings : Addr} {d_need_weighings : FuncData} (D_need_weighings : DefQ P w K mg base C "need_weighings" 6 f_need_weighings d_need_weighings l_need_weighings p_need_weighingsX) {f_words : Addr} {d_words : FuncData} (D__words : DefQ P w K mg base C "_words" 4 f_words d_words l_words p_words) : FnOk P w K mg base (L2.CX P w) 7 f fd ["yard", "world", "weighings"] (spOf C p_told_byX) :=
  q_fun F sc_told_byX C (fun ds n R Y h => by obtain ⟨_, _, _, rfl, _⟩ := h; rfl) fun m M H std n3 ms Y cdv A outer s E hr tk => ⟨_,
    (qs_cons (q_drop (q_callX tk D_need_some_world hr (qa_cons (q_var 0) (qa_cons (q_var 1) qa_nil)))) (qs_cons (q_drop (q_callX tk D_need_weighings hr (qa_cons (q_var 0) (qa_cons (q_var 2) qa_nil)))) (qs_one (q_ret (q_callX tk D__words hr (qa_cons (q_var 0) (qa_cons (q_var 1) (qa_cons (q_var 2) qa_nil)))))))), fun ds n R h => by
    obtain ⟨r, d, t, rfl, ok, hd, ht, h1, h2⟩ := h
    change (_ : GS) _ (⟨[some (_, false), some (_, false), some (_, false)], n⟩ : L2.Q.Env)
    one_item
    refine ⟨r, d, rfl, ok, hd, fun c => ?_, h1⟩
    obtain ⟨i, e, hY⟩ := h2 c
    refine ⟨r, t, rfl, ok, ht, outX_by (fun e2 => ?_) fun j e2 => ?_⟩
    · rw [e] at e2; cases e2
    · rw [e] at e2; cases e2; exact hY⟩
abbrev s_shiftsX : Stmt := top 24
theorem sc_shiftsX : FnScope ["yard", "log", "told", "beam", "_", "word"] ["yard", "log"] (defScope s_shiftsX) := ⟨rfl, rfl, rfl, by decide +kernel, rfl, by decide +kernel, by decide +kernel⟩
theorem ok_shiftsX {f : Addr} {fd : FuncData} (C : Cn) (hK : C.K = K) (F : Fun K "shifts" "shifts" s_shiftsX f fd)   {f_need_log : Addr} {d_need_log : FuncData} (D_need_log : DefQ P w K mg base C "need_log" 6 f_need_log d_need_log l_need_log p_need_logX) {f_names_of : Addr} {d_names_of : FuncData} (D_names_of : DefQ P w K mg base C "names_of" 2 f_names_of d_names_of l_names_of p_names_of) {f_turn : Addr} {d_turn : FuncData} (D_turn : DefQ P w K mg base C "turn" 3 f_turn d_turn l_turn p_turn) : FnOk P w K mg base (L2.CX P w) 7 f fd ["yard", "log"] (spOf C p_shiftsX) :=
  q_fun F sc_shiftsX C (fun ds n R Y h => by obtain ⟨_, _, rfl, _⟩ := h; rfl) fun m M H std n3 ms Y cdv A outer s E hr tk => ⟨_,
    (qs_cons (q_drop (q_callX tk D_need_log hr (qa_cons (q_var 0) (qa_cons (q_var 1) qa_nil)))) (qs_cons (q_setDc (i := 2) [("beam", 3)] rfl sc_shiftsX.nd rfl (blkOk_by (own := [("beam", 3)]) (N := ["yard", "log", "told", "beam", "_", "word"]) (sc := defScope s_shiftsX) (by decide +kernel)) (qi_seq (q_callX tk D_names_of hr (qa_cons (q_var 0) qa_nil))) (fun _ _ _ _ _ _ _ _ => (qg_name (i := 3) sc_shiftsX.nd rfl (by first | exact Or.inl rfl | exact Or.inr rfl))) (fun _ _ _ _ _ _ _ _ => (q_var 3)) (fun _ _ _ _ _ _ _ _ => q_int)) (qs_cons (q_for (passes_of rfl) rfl (qi_seq (q_var 1)) (qg_tup (n := 4) rfl (qgs_cons (qg_name (i := 3) sc_shiftsX.nd rfl (by first | exact Or.inl rfl | exact Or.inr rfl)) (qgs_cons (qg_name (i := 4) sc_shiftsX.nd rfl (by first | exact Or.inl rfl | exact Or.inr rfl)) (qgs_cons (qg_name (i := 4) sc_shiftsX.nd rfl (by first | exact Or.inl rfl | exact Or.inr rfl)) (qgs_cons (qg_name (i := 5) sc_shiftsX.nd rfl (by first | exact Or.inl rfl | exact Or.inr rfl)) qgs_nil))))) (qs_one (q_augI 2 hr.u1 iq_add (q_var 3) (q_callX tk D_turn hr (qa_cons (q_var 0) (qa_cons (q_var 3) (qa_cons (q_var 5) qa_nil))))))) (qs_one (q_retV 2))))), fun ds n R h => by
    obtain ⟨r, t, rfl, ok, ht, i, e, hY⟩ := h
    change (_ : GS) _ (⟨[some (_, false), some (_, false), none, none, none, none], n⟩ : L2.Q.Env)
    one_item
    refine ⟨r, t, rfl, ok, ht, outX_by (fun e2 => ?_) fun j e2 => ?_⟩
    · rw [e] at e2; cases e2
    · rw [e] at e2; cases e2; exact hY⟩
abbrev s_is_worldX : Stmt := top 32
theorem sc_is_worldX : FnScope ["yard", "log", "thing", "row"] ["yard", "log", "thing"] (defScope s_is_worldX) := ⟨rfl, rfl, rfl, by decide +kernel, rfl, by decide +kernel, by decide +kernel⟩
theorem ok_is_worldX {f : Addr} {fd : FuncData} (C : Cn) (hK : C.K = K) (F : Fun K "is_world" "is_world" s_is_worldX f fd)  (n_list : mg "list" = none) {f_need_log : Addr} {d_need_log : FuncData} (D_need_log : DefQ P w K mg base C "need_log" 6 f_need_log d_need_log l_need_log p_need_logX) {f_words : Addr} {d_words : FuncData} (D__words : DefQ P w K mg base C "_words" 4 f_words d_words l_words p_words) {f_is_some_world : Addr} {d_is_some_world : FuncData} (D_is_some_world : DefQ P w K mg base C "is_some_world" 3 f_is_some_world d_is_some_world l_is_some_world p_is_some_worldX) : FnOk P w K mg base (L2.CX P w) 7 f fd ["yard", "log", "thing"] (spOf C p_is_worldX) :=
  q_fun F sc_is_worldX C (fun ds n R Y h => by obtain ⟨_, _, _, rfl, _⟩ := h; rfl) fun m M H std n3 ms Y cdv A outer s E hr tk => ⟨_,
    (qs_cons (q_drop (q_callX tk D_need_log hr (qa_cons (q_var 0) (qa_cons (q_var 1) qa_nil)))) (qs_one (q_ret (q_and (q_callX tk D_is_some_world hr (qa_cons (q_var 0) (qa_cons (q_var 2) qa_nil))) (q_one (q_cmp (oq_eq hr.u65 hK) (q_callX tk D__words hr (qa_cons (q_var 0) (qa_cons (q_var 2) (qa_cons (q_lc [("row", 3)] rfl sc_is_worldX.nd (blkOk_by (own := [("row", 3)]) (N := ["yard", "log", "thing", "row"]) (sc := defScope s_is_worldX) (by decide +kernel)) (qi_seq (q_var 1)) (fun _ _ _ _ _ _ _ _ => (qg_name (i := 3) sc_is_worldX.nd rfl (by first | exact Or.inl rfl | exact Or.inr rfl))) (fun _ _ _ _ _ _ _ _ => (q_sl (q_var 3) qo_none (qo_some q_int)))) qa_nil)))) (q_tcall cq_list (by rfl) n_list (qa_cons (q_var 1) qa_nil)))))))), fun ds n R h => by
    obtain ⟨r, t, d, rfl, ok, hd, ht, hh⟩ := h
    change (_ : GS) _ (⟨[some (_, false), some (_, false), some (_, false), none], n⟩ : L2.Q.Env)
    one_item
    refine ⟨r, t, rfl, ok, ht, outX_by (fun e2 => ?_) fun j e2 => ?_⟩
    · rcases hh with ⟨i, e, hY⟩ | ⟨e, hw, hR⟩
      · rw [e] at e2; cases e2
      · refine ⟨r, d, rfl, ok, hd, ?_⟩
        rw [hw]
        exact ⟨fun c => (nomatch c), fun _ => hR⟩
    · rcases hh with ⟨i, e, hY⟩ | ⟨e, hw, hR⟩
      · rw [e] at e2; cases e2; exact hY
      · rw [e] at e2; cases e2⟩
end
end L2.Q.Lw
set_option Elab.async false
set_option linter.all false
set_option maxRecDepth 100000
set_option maxHeartbeats 4000000
namespace L2.Q.Lw
open PySem PySem.Spec PyProof.Rows L2 L2.Wb L2.Q L2.Q.Wbm
section
variable {P : Program} {w : World} {K : PySem.W.Frag} {mg : Str → Option Value} {base : Heap}
abbrev s_law_pick : Stmt := top 46
theorem sc_law_pick : FnScope ["state", "some"] ["state", "some"] (defScope s_law_pick) := ⟨rfl, rfl, rfl, by decide +kernel, rfl, by decide +kernel, by decide +kernel⟩
abbrev l_law_pick : List Str := ["state", "some"]
theorem ok_law_pick {f : Addr} {fd : FuncData} (C : Cn) (hK : C.K = K) (F : Fun K "_law_pick" "_law_pick" s_law_pick f fd)  (n_len : mg "len" = none) {f_law_next : Addr} {d_law_next : FuncData} (D__law_next : DefQ P w K mg base C "_law_next" 1 f_law_next d_law_next l_law_next p_law_next) : FnOk P w K mg base (L2.CX P w) 2 f fd ["state", "some"] (spOf C p_law_pick) :=
  q_fun F sc_law_pick C (fun ds n R Y h => by obtain ⟨_, rfl, _⟩ := h; rfl) fun m M H std n3 ms Y cdv A outer s E hr tk => ⟨_,
    (qs_one (q_ret (q_ixV 1 hr.u1 (q_callD D__law_next hr (qa_cons (q_var 0) (qa_cons (q_lenA 1 n_len) qa_nil)))))), fun ds n R h => by
    obtain ⟨y, rfl, hn, h⟩ := h
    change (_ : GS) _ (⟨[some (_, false), some (_, false)], n⟩ : L2.Q.Env)
    one_sign
    refine ⟨rfl, y, false, rfl, ?_⟩
    rcases h with ⟨xs, hy, hne, hl, k⟩ | ⟨z, hy, h0, hl, k⟩
    · have hp := List.length_pos_iff.mpr hne
      refine .inr ⟨xs, hy, xs.length, rfl, hn, by omega, by omega, fun v v0 v1 => ?_⟩
      obtain ⟨d, e1, e2⟩ := atI_mem v0 v1
      rcases hy with rfl | rfl
      · exact ⟨d, e1, k d e2⟩
      · exact ⟨d, e1, k d e2⟩
    · subst hy
      refine .inl ⟨z, rfl, by omega, z.length, rfl, hn, by omega, by omega, fun v v0 v1 => ?_⟩
      have hz : z.length = z.cps.toList.length := by simp [Str.length]
      obtain ⟨c, e1, e2⟩ := atI_mem (xs := z.cps.toList) v0 (by omega)
      exact ⟨by omega, c, e1, k c e2⟩⟩
abbrev s_law_names : Stmt := top 47
theorem sc_law_names : FnScope ["state", "many", "letters", "base", "at", "shift", "step", "names", "k"] ["state", "many"] (defScope s_law_names) := ⟨rfl, rfl, rfl, by decide +kernel, rfl, by decide +kernel, by decide +kernel⟩
abbrev l_law_names : List Str := ["state", "many"]
theorem ok_law_names {f : Addr} {fd : FuncData} (C : Cn) (hK : C.K = K) (F : Fun K "_law_names" "_law_names" s_law_names f fd)  (n_len : mg "len" = none) (n_range : mg "range" = none) {f_law_pick : Addr} {d_law_pick : FuncData} (D__law_pick : DefQ P w K mg base C "_law_pick" 2 f_law_pick d_law_pick l_law_pick p_law_pick) {f_law_next : Addr} {d_law_next : FuncData} (D__law_next : DefQ P w K mg base C "_law_next" 1 f_law_next d_law_next l_law_next p_law_next) : FnOk P w K mg base (L2.CX P w) 3 f fd ["state", "many"] (spOf C p_law_names) :=
  q_fun F sc_law_names C (fun ds n R Y h => by obtain ⟨_, rfl, _⟩ := h; rfl) fun m M H std n3 ms Y cdv A outer s E hr tk => ⟨_,
    (qs_cons (q_set (i := 2) sc_law_names.nd rfl (by first | exact Or.inl rfl | exact Or.inr rfl) q_str) (qs_cons (q_setLc (i := 3) [("k", 8)] rfl sc_law_names.nd rfl (blkOk_by (own := [("k", 8)]) (N := ["state", "many", "letters", "base", "at", "shift", "step", "names", "k"]) (sc := defScope s_law_names) (by decide +kernel)) (qi_range1 (by rfl) n_range (qa_cons (q_op oq_add q_int (q_callD D__law_next hr (qa_cons (q_var 0) (qa_cons q_int qa_nil)))) qa_nil)) (fun _ _ _ _ _ _ _ _ => (qg_name (i := 8) sc_law_names.nd rfl (by first | exact Or.inl rfl | exact Or.inr rfl))) (fun _ _ _ _ _ _ _ _ => (q_callD D__law_pick hr (qa_cons (q_var 0) (qa_cons (q_var 2) qa_nil))))) (qs_cons (q_set (i := 4) sc_law_names.nd rfl (by first | exact Or.inl rfl | exact Or.inr rfl) (q_callD D__law_next hr (qa_cons (q_var 0) (qa_cons (q_lenA 3 n_len) qa_nil)))) (qs_cons (q_par (i := 5) (j := 6) rfl sc_law_names.nd rfl rfl rfl rfl (q_callD D__law_next hr (qa_cons (q_var 0) (qa_cons q_int qa_nil))) (fun _ _ => (q_callD D__law_pick hr (qa_cons (q_var 0) (qa_cons (q_lst (qa_cons q_int (qa_cons q_int (qa_cons q_int (qa_cons q_int (qa_cons q_int (qa_cons q_int qa_nil))))))) qa_nil))))) (qs_cons (q_set (i := 7) sc_law_names.nd rfl (by first | exact Or.inl rfl | exact Or.inr rfl) (q_lst qa_nil)) (qs_cons (q_for (passes_of rfl) rfl (qi_range1 (by rfl) n_range (qa_cons (q_var 1) qa_nil)) (qg_name (i := 8) sc_law_names.nd rfl (by first | exact Or.inl rfl | exact Or.inr rfl)) (qs_cons (q_asg (q_ixV 2 hr.u1 (q_op oq_mod (q_op oq_add (q_var 5) (q_op oq_mul (q_var 6) (q_var 8))) q_int)) (qg_item 3 hr.u1 (q_var 4))) (qs_one (q_drop (q_lm 7 lq_append PySem.F.slot_list_append PySem.F.type_list_append (qa_cons (q_joinV 3) qa_nil) hK))))) (qs_one (q_retV 7)))))))), fun ds n R h => by
    obtain ⟨many, rfl, hn, hm0, hm1, hR⟩ := h
    change (_ : GS) _ (⟨[some (_, false), some (_, false), none, none, none, none, none, none, none], n⟩ : L2.Q.Env)
    one_sign
    unfold gLc
    one_sign
    refine ⟨8, rfl, by omega, by decide, by decide, fun r r0 r1 => ?_⟩
    one_sign
    refine ⟨by omega, by omega, ?_⟩
    refine lc_all (fun d z => ∃ c, z = chD c ∧ isLow c = true) 1 (noOwn_of rfl) (by rw [rangeD_len]; omega) (fun d hd m hm K K' hk => ?_) (fun us m hu hm => ?_)
    · rw [rangeD_len] at hm
      one_sign
      refine ⟨fun _ => ⟨_, rfl, by omega, .inr ⟨_, rfl, by decide, by decide, fun c hc => ?_⟩⟩, fun c => (nomatch c)⟩
      exact hk _ _ _ _ ⟨c, rfl, abc_lowQ c hc⟩ (Nat.le_refl _) rfl
    rw [rangeD_len] at hm
    have hul : us.length = (1 + r).toNat := by rw [hu.len, rangeD_len]
    obtain ⟨B, rfl, hB, hBl⟩ := lift_ch (hu.right (S := fun y => ∃ c, y = chD c ∧ isLow c = true) fun x y h => h)
    rw [hul] at hBl
    one_sign
    refine ⟨_, _, rfl, .inr ⟨_, .inl rfl, ?_⟩⟩
    one_sign
    rw [List.length_map]
    refine ⟨B.length, rfl, by omega, by omega, by omega, fun at_ at0 at1 => ?_⟩
    refine ⟨26, rfl, by omega, by decide, by decide, fun sh sh0 sh1 => ?_⟩
    refine ⟨Nat.le_of_ble_eq_true rfl, _, rfl, by omega, .inl ⟨_, .inl rfl, by simp, Nat.le_of_ble_eq_true rfl, fun d hd => ?_⟩⟩
    obtain ⟨st, rfl, hst⟩ : ∃ st : Int, d = .int st ∧ stepsOk st := by
      simp at hd
      rcases hd with h | h | h | h | h | h <;> exact ⟨_, h, by unfold stepsOk; decide⟩
    have hal : at_.toNat < B.length := by omega
    refine ⟨Nat.le_of_ble_eq_true rfl, ?_⟩
    refine for_go (rangeD 0 many.toNat) ⟨[some (.st, false), some (.int many, false), some (.str abc, false), some (.lst (B.map chD), true), some (.int at_, false), some (.int sh, false), some (.int st, false), some (.lst [], true), none], m + 1 + 1 + 1⟩ (fun Q h => ?_)
      (fun i e => ∃ cs s8, (∀ y, cs.set at_.toNat y = B.set at_.toNat y) ∧ e = ⟨[some (.st, false), some (.int many, false), some (.str abc, false), some (.lst (cs.map chD), true), some (.int at_, false), some (.int sh, false), some (.int st, false), some (.lst (((List.range i).map (nmQ B at_.toNat sh st)).map D.str), true), s8], m + 1 + 1 + 1⟩) ⟨B, _, fun y => rfl, rfl⟩ (fun i d e hd2 ⟨cs, s8, hcs, he⟩ => ?_) (fun e ⟨cs, s8, hcs, he⟩ => ?_)
    · one_sign
      exact ⟨by omega, by omega, h⟩
    · subst he
      obtain ⟨hi, rfl⟩ := rangeD_get hd2
      have hcl : cs.length = B.length := by
        have := congrArg List.length (hcs 0)
        rw [List.length_set, List.length_set] at this; exact this
      one_sign
      have hx0 : 0 ≤ (sh + st * (0 + (i : Int))) % 26 := by omega
      have hx1 : (sh + st * (0 + (i : Int))) % 26 < 26 := by omega
      have hat : at_ = (at_.toNat : Int) := by omega
      have hput : putI (D.lst (cs.map chD)) (D.int at_) (D.str ⟨#[97 + ((sh + st * (0 + (i : Int))) % 26).toNat]⟩) = some (.lst ((B.set at_.toNat (97 + ((sh + st * (0 + (i : Int))) % 26).toNat)).map chD)) := by
        show (ixN (cs.map chD).length at_).map _ = _
        unfold ixN
        rw [if_pos at0, if_pos (by rw [List.length_map, hcl]; exact at1)]
        show some (D.lst ((cs.map chD).set at_.toNat (chD (97 + ((sh + st * (0 + (i : Int))) % 26).toNat)))) = _
        rw [← List.map_set, hcs]
      refine ⟨rfl, .inr (by omega), by decide, by decide, _, abc_at hx0 hx1, _, hput, _, _, _, rfl, strsOf_ch _, ?_, ?_, B.set at_.toNat (97 + ((sh + st * (0 + (i : Int))) % 26).toNat), some (.int (0 + (i : Int)), false), fun y => List.set_set _, ?_⟩
      · rw [ch_sumQ, List.length_set, List.length_map, List.length_set]
        show B.length + B.length * 0 ≤ _
        omega
      · rw [List.length_map, List.length_map, List.length_range]; omega
      · rw [join_chQ, map_range_snoc, List.map_append, Int.zero_add]
        rfl
    · subst he
      rw [rangeD_len]
      one_sign
      refine hR _ _ (by omega) (by rw [List.length_map, List.length_range]) (fun x hx => ?_) (nm_nodup hal hst (by omega))
      obtain ⟨k, _, rfl⟩ := List.mem_map.mp hx
      exact nm_name (by omega) (by omega) hB⟩
abbrev s_law_row : Stmt := top 48
theorem sc_law_row : FnScope ["state", "beams", "things", "heavy", "slant", "names", "many", "steps", "called", "told", "k"] ["state", "beams", "things", "heavy", "slant"] (defScope s_law_row) := ⟨rfl, rfl, rfl, by decide +kernel, rfl, by decide +kernel, by decide +kernel⟩
abbrev l_law_row : List Str := ["state", "beams", "things", "heavy", "slant"]
theorem ok_law_row {f : Addr} {fd : FuncData} (C : Cn) (hK : C.K = K) (F : Fun K "_law_row" "_law_row" s_law_row f fd)  (n_len : mg "len" = none) (n_list : mg "list" = none) (n_min : mg "min" = none) (n_range : mg "range" = none) (n_zip : mg "zip" = none) {f_law_names : Addr} {d_law_names : FuncData} (D__law_names : DefQ P w K mg base C "_law_names" 3 f_law_names d_law_names l_law_names p_law_names) {f_law_next : Addr} {d_law_next : FuncData} (D__law_next : DefQ P w K mg base C "_law_next" 1 f_law_next d_law_next l_law_next p_law_next) {f_law_pick : Addr} {d_law_pick : FuncData} (D__law_pick : DefQ P w K mg base C "_law_pick" 2 f_law_pick d_law_pick l_law_pick p_law_pick) : FnOk P w K mg base (L2.CX P w) 4 f fd ["state", "beams", "things", "heavy", "slant"] (spOf C p_law_row) :=
  q_fun F sc_law_row C (fun ds n R Y h => by obtain ⟨rfl, _⟩ := h; rfl) fun m M H std n3 ms Y cdv A outer s E hr tk => ⟨_,
    (qs_cons (q_set (i := 5) sc_law_row.nd rfl (by first | exact Or.inl rfl | exact Or.inr rfl) (q_callD D__law_names hr (qa_cons (q_var 0) (qa_cons (q_op oq_add q_int (q_callD D__law_next hr (qa_cons (q_var 0) (qa_cons (q_var 2) qa_nil)))) qa_nil)))) (qs_cons (q_set (i := 6) sc_law_row.nd rfl (by first | exact Or.inl rfl | exact Or.inr rfl) (q_op oq_add q_int (q_callD D__law_next hr (qa_cons (q_var 0) (qa_cons (q_var 1) qa_nil))))) (qs_cons (q_setLc (i := 7) [("k", 10)] rfl sc_law_row.nd rfl (blkOk_by (own := [("k", 10)]) (N := ["state", "beams", "things", "heavy", "slant", "names", "many", "steps", "called", "told", "k"]) (sc := defScope s_law_row) (by decide +kernel)) (qi_range1 (by rfl) n_range (qa_cons (q_var 6) qa_nil)) (fun _ _ _ _ _ _ _ _ => (qg_name (i := 10) sc_law_row.nd rfl (by first | exact Or.inl rfl | exact Or.inr rfl))) (fun _ _ _ _ _ _ _ _ => (q_callD D__law_pick hr (qa_cons (q_var 0) (qa_cons (q_lst (qa_cons q_int (qa_cons q_int (qa_cons q_int (qa_cons (q_neg q_int) (qa_cons q_int (qa_cons (q_neg q_int) (qa_cons q_int (qa_cons (q_neg q_int) (qa_cons (q_neg q_int) (qa_cons (q_neg q_int) qa_nil))))))))))) qa_nil))))) (qs_cons (q_set (i := 8) sc_law_row.nd rfl (by first | exact Or.inl rfl | exact Or.inr rfl) (q_callD D__law_names hr (qa_cons (q_var 0) (qa_cons (q_var 6) qa_nil)))) (qs_cons (q_ifS (PW.pt (qw_and (qt_cmp (oq_eq hr.u65 hK) (q_callD D__law_next hr (qa_cons (q_var 0) (qa_cons q_int qa_nil))) q_int) (qw_and1 (qt_cmp oq_ge (q_lenA 5 n_len) (q_var 6))))) (qs_one (q_set (i := 8) sc_law_row.nd rfl (by first | exact Or.inl rfl | exact Or.inr rfl) (q_sl (q_revL (q_var 5)) qo_none (qo_some (q_var 6))))) qs_nil) (qs_cons (q_set (i := 9) sc_law_row.nd rfl (by first | exact Or.inl rfl | exact Or.inr rfl) (q_listZip rfl (by rfl) n_list (by rfl) n_zip (qa_cons (q_var 8) (qa_cons (q_var 7) qa_nil)))) (qs_one (q_ret (q_tup (qa_cons (q_var 5) (qa_cons (q_var 9) (qa_cons (q_op oq_add q_int (q_callD D__law_next hr (qa_cons (q_var 0) (qa_cons (q_var 3) qa_nil)))) (qa_cons (q_callD D__law_next hr (qa_cons (q_var 0) (qa_cons (q_op oq_add q_int (q_bcall (cq_min2 rfl) (by rfl) n_min (qa_cons (q_var 4) (qa_cons (q_ix hr.u1 (q_lst (qa_cons q_int (qa_cons q_int (qa_cons q_int qa_nil)))) (q_op oq_sub (q_var 6) q_int)) qa_nil)))) qa_nil))) qa_nil))))))))))))), fun ds n R h => by
    obtain ⟨rfl, hn, hR⟩ := h
    change (_ : GS) _ (⟨[some (_, false), some (_, false), some (_, false), some (_, false), some (_, false), none, none, none, none, none, none], n⟩ : L2.Q.Env)
    one_sign
    refine ⟨8, rfl, by omega, by decide, by decide, fun v v0 v1 => ?_⟩
    one_sign
    refine ⟨_, rfl, by omega, by omega, by omega, fun ns n1 hn1 hnl hnm hnd => ?_⟩
    refine ⟨3, rfl, by omega, by decide, by decide, fun u u0 u1 => ?_⟩
    one_sign
    unfold gLc
    one_sign
    refine ⟨by omega, by omega, ?_⟩
    refine lc_all (fun d z => ∃ s : Int, z = .int s ∧ -5 ≤ s ∧ s ≤ 5 ∧ s ≠ 0) 1 (noOwn_of rfl) (by rw [rangeD_len]; omega) (fun d hd m hm K K' hkk => ?_) (fun us m hu hm => ?_)
    · rw [rangeD_len] at hm
      one_sign
      refine ⟨fun _ => ⟨Nat.le_of_ble_eq_true rfl, _, rfl, by omega, .inl ⟨_, .inl rfl, by simp, Nat.le_of_ble_eq_true rfl, fun d hd2 => ?_⟩⟩, fun c => (nomatch c)⟩
      simp at hd2
      refine hkk _ _ _ _ ?_ (Nat.le_refl _) rfl
      rcases hd2 with h | h | h | h | h | h | h | h | h | h <;> exact ⟨_, h, by decide, by decide, by decide⟩
    rw [rangeD_len] at hm
    have hul : us.length = (1 + u).toNat := by rw [hu.len, rangeD_len]
    obtain ⟨ss, rfl, hss, hsl⟩ := lift_int (hu.right (S := fun y => ∃ s : Int, y = .int s ∧ -5 ≤ s ∧ s ≤ 5 ∧ s ≠ 0) fun x y h => h)
    rw [hul] at hsl
    one_sign
    refine ⟨_, rfl, by omega, by omega, by omega, fun cs n2 hn2 hcl hcm hcd => ?_⟩
    have fin : ∀ (X : List D) (qs : List Str) (n3 : Nat), X = qs.map D.str → n3 ≤ n + 60 → qs.length = (1 + u).toNat → (∀ x ∈ qs, isNameS x = true) → qs.Nodup →
        p_law_next [D.st, D.int 100] n3 (fun d fr n' => addF (D.int 1) d fun z fr => [D.int 9, D.int 9, D.int 3].length ≤ 1000000 ∧ ∃ d, atI [D.int 9, D.int 9, D.int 3] (1 + u - 1) = some d ∧ min2F [D.int 9, d] fun z_1 fr => addF (D.int 1) z_1 fun z_2 fr =>
          p_law_next [D.st, z_2] n' (fun d fr n' => [D.lst (ns.map D.str), D.lst (pairsD X (ss.map D.int)), z, d].length ≤ 1000000 ∧ R (D.tup [D.lst (ns.map D.str), D.lst (pairsD X (ss.map D.int)), z, d]) false n') fun c ks es n' => False) (fun c ks es n' => False) := fun X qs n3 hX h1 h2 h4 h5 => by
      subst hX
      rw [pairs_bm]
      refine ⟨100, rfl, by omega, by decide, by decide, fun a a0 a1 => ?_⟩
      refine ⟨Nat.le_of_ble_eq_true rfl, ?_⟩
      have hM : ∃ c : Int, 0 ≤ c ∧ atI [D.int 9, D.int 9, D.int 3] (1 + u - 1) = some (.int c) ∧ (((1 + u).toNat = 1 ∧ c ≤ 9) ∨ ((1 + u).toNat = 2 ∧ c ≤ 9) ∨ ((1 + u).toNat = 3 ∧ c ≤ 3)) := by
        obtain rfl | rfl | rfl : u = 0 ∨ u = 1 ∨ u = 2 := by omega
        · exact ⟨9, by decide, rfl, .inl ⟨rfl, by decide⟩⟩
        · exact ⟨9, by decide, rfl, .inr (.inl ⟨rfl, by decide⟩)⟩
        · exact ⟨3, by decide, rfl, .inr (.inr ⟨rfl, by decide⟩)⟩
      obtain ⟨c, c0, hc, hcM⟩ := hM
      refine ⟨_, hc, ?_⟩
      rw [f_min2]
      have hcl : (if c < 9 then c else 9) = c := by
        split
        · rfl
        · omega
      rw [hcl]
      refine ⟨_, rfl, by omega, by omega, by omega, fun l l0 l1 => ?_⟩
      refine ⟨Nat.le_of_ble_eq_true rfl, hR ⟨ns, qs.zip ss, 1 + a, l⟩ _ (by omega) ?_⟩
      have hz : (qs.zip ss).map (·.1) = qs := zip_fst (by omega)
      have hzl : (qs.zip ss).length = (1 + u).toNat := by rw [List.length_zip]; omega
      refine ⟨⟨by show ns.length ≤ 8; omega, by show (qs.zip ss).length ≤ 3; omega, by show ((qs.zip ss).map (·.1)).Nodup; rw [hz]; exact h5, hnd⟩, by show 1 ≤ ns.length; omega, by show 1 ≤ (qs.zip ss).length; omega, hnm, fun p hp => ?_, by show 1 ≤ 1 + a; omega, by show 1 + a ≤ 100; omega, l0, by show l ≤ 9; omega, ?_⟩
      · have hp' : (p.1, p.2) ∈ qs.zip ss := hp
        have e1 : p.1 ∈ qs := (List.of_mem_zip hp').1
        have e2 : p.2 ∈ ss := (List.of_mem_zip hp').2
        obtain ⟨x1, x2, x3⟩ := hss _ e2
        exact ⟨h4 _ e1, x1, x2, x3⟩
      · show (2 * l + 1) ^ (qs.zip ss).length ≤ 400
        rw [hzl]
        refine few_ok l0 ?_
        omega
    one_sign
    refine ⟨3, rfl, by omega, by decide, by decide, fun w w0 w1 => ⟨_, rfl, fun c => ?_, fun c => ?_⟩⟩
    · refine ⟨_, true, rfl, .inr ⟨_, .inl rfl, ?_⟩⟩
      one_sign
      refine ⟨fun c2 => ?_, fun c2 => fin _ cs _ rfl (by omega) hcl hcm hcd⟩
      rw [List.length_map] at c2
      have c3 : 1 + u ≤ ns.length := by simpa using c2
      refine fin _ (ns.reverse.take (1 + u).toNat) _ ?_ (by omega) (by rw [List.length_take, List.length_reverse]; omega) (fun x hx => hnm x (List.mem_reverse.mp (List.mem_of_mem_take hx))) ?_
      · rw [cutD_take (by omega), ← List.map_reverse, List.map_take]
      · exact ((List.reverse_perm ns).nodup_iff.mpr hnd).sublist (List.take_sublist _ _)
    · exact ⟨fun z => (nomatch z), fun _ => fin _ cs _ rfl (by omega) hcl hcm hcd⟩⟩
abbrev s_law_weighing : Stmt := top 49
theorem sc_law_weighing : FnScope ["state", "row", "left", "some", "pan"] ["state", "row"] (defScope s_law_weighing) := ⟨rfl, rfl, rfl, by decide +kernel, rfl, by decide +kernel, by decide +kernel⟩
abbrev l_law_weighing : List Str := ["state", "row"]
theorem ok_law_weighing {f : Addr} {fd : FuncData} (C : Cn) (hK : C.K = K) (F : Fun K "_law_weighing" "_law_weighing" s_law_weighing f fd)   {f_law_pick : Addr} {d_law_pick : FuncData} (D__law_pick : DefQ P w K mg base C "_law_pick" 2 f_law_pick d_law_pick l_law_pick p_law_pick) : FnOk P w K mg base (L2.CX P w) 3 f fd ["state", "row"] (spOf C p_law_weighing) :=
  q_fun F sc_law_weighing C (fun ds n R Y h => by obtain ⟨_, rfl, _⟩ := h; rfl) fun m M H std n3 ms Y cdv A outer s E hr tk => ⟨_,
    (qs_cons (q_set (i := 2) sc_law_weighing.nd rfl (by first | exact Or.inl rfl | exact Or.inr rfl) (q_callD D__law_pick hr (qa_cons (q_var 0) (qa_cons (q_op oq_add (q_lst (qa_cons q_non qa_nil)) (q_ixV 1 hr.u1 q_int)) qa_nil)))) (qs_cons (q_setLcIf (i := 3) [("pan", 4)] rfl sc_law_weighing.nd rfl (blkOk_by (own := [("pan", 4)]) (N := ["state", "row", "left", "some", "pan"]) (sc := defScope s_law_weighing) (by decide +kernel)) (qi_seq (q_op oq_add (q_lst (qa_cons q_non qa_nil)) (q_ixV 1 hr.u1 q_int))) (fun _ _ _ _ _ _ _ _ => (qg_name (i := 4) sc_law_weighing.nd rfl (by first | exact Or.inl rfl | exact Or.inr rfl))) (fun _ _ _ _ _ _ _ _ => (PW.pt (qw_or (qt_cmp oq_is (q_var 4) q_non) (qw_or1 (qt_cmp (oq_ne hr.u65 hK) (q_var 4) (q_var 2)))))) (fun _ _ _ _ _ _ _ _ => (q_var 4))) (qs_one (q_ret (q_tup (qa_cons (q_ix hr.u1 (q_callD D__law_pick hr (qa_cons (q_var 0) (qa_cons (q_ixV 1 hr.u1 q_int) qa_nil))) q_int) (qa_cons (q_var 2) (qa_cons (q_callD D__law_pick hr (qa_cons (q_var 0) (qa_cons (q_var 3) qa_nil))) qa_nil)))))))), fun ds n R h => by
    obtain ⟨r, rfl, ok, hn, hR⟩ := h
    have h8 := ok.ok.n8
    have h3 := ok.ok.b3
    have lP : ([D.non] ++ r.names.map D.str).length ≤ 9 := by simp; omega
    change (_ : GS) _ (⟨[some (_, false), some (_, false), none, none, none], n⟩ : L2.Q.Env)
    one_sign
    refine ⟨Nat.le_of_ble_eq_true rfl, rfl, _, rfl, by simp; omega, ?_⟩
    refine ⟨_, rfl, by omega, .inl ⟨_, .inl rfl, by simp, by omega, fun d hd => ?_⟩⟩
    obtain ⟨p, rfl, hp⟩ := pan_mem hd
    refine lc_go2 ([D.non] ++ r.names.map D.str) ⟨[some (.st, false), some (rowD r, false), some (panD p, false), none, none], n + 1⟩ (fun Q h => ?_) ?_
    · one_sign
      exact ⟨Nat.le_of_ble_eq_true rfl, rfl, _, rfl, by simp; omega, h⟩
    refine lc_map (keepU p) id (noOwn_of rfl) (by omega) (fun d hd K K' hk hk' => ?_) ?_
    · obtain ⟨q, rfl, hq⟩ := pan_mem hd
      cases q with
      | none =>
        dsimp only [panD]
        one_sign
        exact ⟨true, rfl, fun _ => ⟨fun _ => hk rfl _ _ rfl, fun c => (nomatch c)⟩, fun c => (nomatch c)⟩
      | some y =>
        simp only [show panD (some y) = D.str y from rfl] at hk hk' ⊢
        one_sign
        refine ⟨false, rfl, fun c => (nomatch c), fun _ => ⟨rfl, pan_nd p, fun c => ?_, fun c => ?_⟩⟩
        · rw [eqD_ps] at c
          exact hk c _ _ rfl
        · rw [eqD_ps] at c
          exact hk' c _ rfl
    rw [List.map_id]
    have hb : ∃ z zs, r.beams = z :: zs := by
      have := ok.b1
      cases q : r.beams with
      | nil => rw [q] at this; simp at this
      | cons z zs => exact ⟨z, zs, rfl⟩
    one_sign
    refine ⟨rfl, _, rfl, _, rfl, by omega, .inl ⟨_, .inl rfl, ?_, by rw [List.length_map]; omega, fun d hd => ?_⟩⟩
    · obtain ⟨z, zs, e⟩ := hb
      rw [e]; simp
    obtain ⟨pr, hpr, rfl⟩ := List.mem_map.mp hd
    refine ⟨_, rfl, ?_⟩
    one_sign
    refine ⟨_, rfl, by omega, .inl ⟨_, .inl rfl, ?_, ?_, fun d hd => ?_⟩⟩
    · have : D.non ∈ ([D.non] ++ r.names.map D.str).filter (keepU p) := List.mem_filter.mpr ⟨by simp, rfl⟩
      exact List.ne_nil_of_mem this
    · exact Nat.le_trans (List.length_filter_le _ _) (by omega)
    obtain ⟨h1, h2⟩ := List.mem_filter.mp hd
    obtain ⟨q, rfl, hq⟩ := pan_mem h1
    refine ⟨Nat.le_of_ble_eq_true rfl, hR ⟨pr.1, p, q⟩ _ (by omega) ⟨List.mem_map_of_mem hpr, hp, hq, ?_⟩⟩
    cases q with
    | none => cases p <;> rfl
    | some y => exact h2⟩
abbrev s_law_world : Stmt := top 50
theorem sc_law_world : FnScope ["state", "row", "weights", "name", "step"] ["state", "row"] (defScope s_law_world) := ⟨rfl, rfl, rfl, by decide +kernel, rfl, by decide +kernel, by decide +kernel⟩
abbrev l_law_world : List Str := ["state", "row"]
theorem ok_law_world {f : Addr} {fd : FuncData} (C : Cn) (hK : C.K = K) (F : Fun K "_law_world" "_law_world" s_law_world f fd)  (n_dict : mg "dict" = none) {f_law_next : Addr} {d_law_next : FuncData} (D__law_next : DefQ P w K mg base C "_law_next" 1 f_law_next d_law_next l_law_next p_law_next) : FnOk P w K mg base (L2.CX P w) 2 f fd ["state", "row"] (spOf C p_law_world) :=
  q_fun F sc_law_world C (fun ds n R Y h => by obtain ⟨_, rfl, _⟩ := h; rfl) fun m M H std n3 ms Y cdv A outer s E hr tk => ⟨_,
    (qs_cons (q_set (i := 2) sc_law_world.nd rfl (by first | exact Or.inl rfl | exact Or.inr rfl) (q_tcall (cq_dict rfl) (by rfl) n_dict (qa_cons (q_lc [("name", 3)] rfl sc_law_world.nd (blkOk_by (own := [("name", 3)]) (N := ["state", "row", "weights", "name", "step"]) (sc := defScope s_law_world) (by decide +kernel)) (qi_seq (q_ixV 1 hr.u1 q_int)) (fun _ _ _ _ _ _ _ _ => (qg_name (i := 3) sc_law_world.nd rfl (by first | exact Or.inl rfl | exact Or.inr rfl))) (fun _ _ _ _ _ _ _ _ => (q_tup (qa_cons (q_var 3) (qa_cons (q_op oq_add q_int (q_callD D__law_next hr (qa_cons (q_var 0) (qa_cons (q_ixV 1 hr.u1 q_int) qa_nil)))) qa_nil))))) qa_nil))) (qs_one (q_ret (q_tup (qa_cons (q_var 2) (qa_cons (q_tcall (cq_dict rfl) (by rfl) n_dict (qa_cons (q_lc [("name", 3), ("step", 4)] rfl sc_law_world.nd (blkOk_by (own := [("name", 3), ("step", 4)]) (N := ["state", "row", "weights", "name", "step"]) (sc := defScope s_law_world) (by decide +kernel)) (qi_seq (q_ixV 1 hr.u1 q_int)) (fun _ _ _ _ _ _ _ _ => (qg_tup (n := 2) rfl (qgs_cons (qg_name (i := 3) sc_law_world.nd rfl (by first | exact Or.inl rfl | exact Or.inr rfl)) (qgs_cons (qg_name (i := 4) sc_law_world.nd rfl (by first | exact Or.inl rfl | exact Or.inr rfl)) qgs_nil)))) (fun _ _ _ _ _ _ _ _ => (q_tup (qa_cons (q_var 3) (qa_cons (q_op oq_sub (q_callD D__law_next hr (qa_cons (q_var 0) (qa_cons (q_op oq_add (q_op oq_mul q_int (q_ixV 1 hr.u1 q_int)) q_int) qa_nil))) (q_ixV 1 hr.u1 q_int)) qa_nil))))) qa_nil)) qa_nil)))))), fun ds n R h => by
    obtain ⟨r, rfl, ok, hn, hR⟩ := h
    have h8 := ok.ok.n8
    have h3 := ok.ok.b3
    have hm1 := ok.m1
    have hm2 := ok.m2
    have hl1 := ok.l1
    have hl2 := ok.l2
    change (_ : GS) _ (⟨[some (_, false), some (_, false), none, none, none], n⟩ : L2.Q.Env)
    one_sign
    refine lc_go2 (r.names.map D.str) ⟨[some (.st, false), some (rowD r, false), none, none, none], n⟩ (fun Q h => ?_) ?_
    · one_sign
      exact ⟨rfl, _, rfl, h⟩
    refine lc_all (fun d z => ∃ x v, d = .str x ∧ z = bmD (x, v) ∧ 1 ≤ v ∧ v ≤ r.most) 1 (noOwn_of rfl) (by simp; omega) (fun d hd m hm K K' hk => ?_) (fun us m hu hm => ?_)
    · obtain ⟨x, hx, rfl⟩ := List.mem_map.mp hd
      rw [List.length_map] at hm
      one_sign
      refine ⟨fun _ => ⟨rfl, _, rfl, r.most, rfl, by omega, by omega, by omega, fun v v0 v1 => ?_⟩, fun c => (nomatch c)⟩
      exact ⟨Nat.le_of_ble_eq_true rfl, hk _ _ _ _ ⟨x, 1 + v, rfl, rfl, by omega, by omega⟩ (Nat.le_refl _) rfl⟩
    obtain ⟨ps, rfl, hps, hB⟩ := all2_ps hu
    rw [List.length_map] at hm
    one_sign
    refine dict_ps (by rw [hps]; exact ok.ok.nn) ?_
    rw [hps]
    one_sign
    refine lc_go2 (r.beams.map bmD) ⟨[some (.st, false), some (rowD r, false), some (dfD r.names (psF ps), false), none, none], m⟩ (fun Q h => ⟨rfl, _, rfl, h⟩) ?_
    refine lc_all (fun d z => ∃ p v, d = bmD p ∧ z = bmD (p.1, v) ∧ -r.lean ≤ v ∧ v ≤ r.lean) 1 (noOwn_of rfl) (by simp; omega) (fun d hd m2 hm2 K K' hk => ?_) (fun us m2 hu2 hm2 => ?_)
    · obtain ⟨p, hp, rfl⟩ := List.mem_map.mp hd
      rw [List.length_map] at hm2
      dsimp only [bmD]
      one_sign
      refine ⟨rfl, rfl, fun _ => ⟨rfl, _, rfl, ?_⟩, fun c => (nomatch c)⟩
      one_sign
      refine ⟨.inl (by decide), 2 * r.lean + 1, rfl, by omega, by omega, by omega, fun v v0 v1 => ⟨rfl, _, rfl, ?_⟩⟩
      one_sign
      exact ⟨Nat.le_of_ble_eq_true rfl, hk _ _ _ _ ⟨p, v - r.lean, rfl, rfl, by omega, by omega⟩ (Nat.le_refl _) rfl⟩
    obtain ⟨qs, rfl, hqs, hC⟩ := all2_bm hu2
    rw [List.length_map] at hm2
    one_sign
    refine dict_ps (by rw [hqs]; exact ok.ok.bn) ?_
    rw [hqs]
    one_sign
    refine ⟨Nat.le_of_ble_eq_true rfl, hR (psF ps) (psF qs) _ (by omega) ⟨⟨rfl, h8, fun x hx => ⟨hx, ?_⟩⟩, ⟨rfl, by rw [List.length_map]; omega, fun x hx => ⟨hx, ?_⟩⟩⟩⟩
    · obtain ⟨p, hp, _, e⟩ := psF_in (by rw [hps]; exact hx)
      rw [e]; exact hB p hp
    · obtain ⟨p, hp, _, e⟩ := psF_in (by rw [hqs]; exact hx)
      rw [e]; exact hC p hp⟩
abbrev s_law_sign : Stmt := top 51
theorem sc_law_sign : FnScope ["total"] ["total"] (defScope s_law_sign) := ⟨rfl, rfl, rfl, by decide +kernel, rfl, by decide +kernel, by decide +kernel⟩
abbrev l_law_sign : List Str := ["total"]
theorem ok_law_sign {f : Addr} {fd : FuncData} (C : Cn) (hK : C.K = K) (F : Fun K "_law_sign" "_law_sign" s_law_sign f fd)  (n_int : mg "int" = none) : FnOk P w K mg base (L2.CX P w) 1 f fd ["total"] (spOf C p_law_sign) :=
  q_fun F sc_law_sign C (fun ds n R Y h => by obtain ⟨_, rfl, _⟩ := h; rfl) fun m M H std n3 ms Y cdv A outer s E hr tk => ⟨_,
    (qs_one (q_ret (q_op oq_sub (q_tcall cq_int (by rfl) n_int (qa_cons (q_cmp oq_gt (q_var 0) q_int) qa_nil)) (q_tcall cq_int (by rfl) n_int (qa_cons (q_cmp oq_lt (q_var 0) q_int) qa_nil))))), fun ds n R h => by
    obtain ⟨t, rfl, hR⟩ := h
    change (_ : GS) _ (⟨[some (_, false)], n⟩ : L2.Q.Env)
    one_sign
    rw [sgn_eq]
    exact hR⟩
abbrev s_law_told : Stmt := top 52
theorem sc_law_told : FnScope ["row", "world", "some_tries", "leans", "steps", "found", "beam", "left", "right", "sign"] ["row", "world", "some_tries"] (defScope s_law_told) := ⟨rfl, rfl, rfl, by decide +kernel, rfl, by decide +kernel, by decide +kernel⟩
abbrev l_law_told : List Str := ["row", "world", "some_tries"]
theorem ok_law_told {f : Addr} {fd : FuncData} (C : Cn) (hK : C.K = K) (F : Fun K "_law_told" "_law_told" s_law_told f fd)  (n_dict : mg "dict" = none) {f_law_sign : Addr} {d_law_sign : FuncData} (D__law_sign : DefQ P w K mg base C "_law_sign" 1 f_law_sign d_law_sign l_law_sign p_law_sign) : FnOk P w K mg base (L2.CX P w) 2 f fd ["row", "world", "some_tries"] (spOf C p_law_told) :=
  q_fun F sc_law_told C (fun ds n R Y h => by obtain ⟨_, _, _, _, _, _, rfl, _⟩ := h; rfl) fun m M H std n3 ms Y cdv A outer s E hr tk => ⟨_,
    (qs_cons (q_par (i := 3) (j := 4) rfl sc_law_told.nd rfl rfl rfl rfl (q_tcall (cq_dict rfl) (by rfl) n_dict (qa_cons (q_ixV 1 hr.u1 q_int) qa_nil)) (fun _ _ => (q_tcall (cq_dict rfl) (by rfl) n_dict (qa_cons (q_ixV 0 hr.u1 q_int) qa_nil)))) (qs_cons (q_set (i := 5) sc_law_told.nd rfl (by first | exact Or.inl rfl | exact Or.inr rfl) (q_lst qa_nil)) (qs_cons (q_for (passes_of rfl) rfl (qi_seq (q_var 2)) (qg_tup (n := 3) rfl (qgs_cons (qg_name (i := 6) sc_law_told.nd rfl (by first | exact Or.inl rfl | exact Or.inr rfl)) (qgs_cons (qg_name (i := 7) sc_law_told.nd rfl (by first | exact Or.inl rfl | exact Or.inr rfl)) (qgs_cons (qg_name (i := 8) sc_law_told.nd rfl (by first | exact Or.inl rfl | exact Or.inr rfl)) qgs_nil)))) (qs_cons (q_set (i := 9) sc_law_told.nd rfl (by first | exact Or.inl rfl | exact Or.inr rfl) (q_callD D__law_sign hr (qa_cons (q_op oq_add (q_op oq_sub (q_getN hr.u1 (q_ixV 1 hr.u1 q_int) (q_var 7) q_int ⟨rfl, rfl, rfl, rfl⟩) (q_getN hr.u1 (q_ixV 1 hr.u1 q_int) (q_var 8) q_int ⟨rfl, rfl, rfl, rfl⟩)) (q_ixV 3 hr.u1 (q_var 6))) qa_nil))) (qs_cons (q_asg (q_op oq_sub (q_ixV 3 hr.u1 (q_var 6)) (q_op oq_mul (q_ixV 4 hr.u1 (q_var 6)) (q_var 9))) (qg_item 3 hr.u1 (q_var 6))) (qs_one (q_drop (q_lm 5 lq_append PySem.F.slot_list_append PySem.F.type_list_append (qa_cons (q_tup (qa_cons (q_var 6) (qa_cons (q_var 7) (qa_cons (q_var 8) (qa_cons (q_ix hr.u1 (q_lst (qa_cons q_str (qa_cons q_str (qa_cons q_str qa_nil)))) (q_op oq_add q_int (q_var 9))) qa_nil))))) qa_nil) hK)))))) (qs_one (q_retV 5))))), fun ds n R h => by
    obtain ⟨r, ks, wt, k2, ln, xs, rfl, ok, hd, hx, hl, hR⟩ := h
    have hb := ok.ok.b3
    have hk2 : k2.length < 1000000 := by have := hd.l.len; rw [List.length_map] at this; omega
    change (_ : GS) _ (⟨[some (_, false), some (_, false), some (_, false), none, none, none, none, none, none, none], n⟩ : L2.Q.Env)
    one_sign
    refine ⟨rfl, _, rfl, ?_⟩
    dsimp only [dfD]
    one_sign
    refine ⟨rfl, _, rfl, ?_⟩
    refine dict_ps ok.ok.bn ⟨Nat.le_of_ble_eq_true rfl, ?_⟩
    refine for_go (xs.map wD) ⟨[some (rowD r, false), some (wdD ks wt k2 ln, false), some (.lst (xs.map wD), false), some (dfD k2 ln, true), some (dfD (List.map (fun p : Str × Int => p.1) r.beams) (stF r), true), some (.lst [], true), none, none, none, none], n⟩ (fun Q h => h)
      (fun i e => ∃ l2 done s6 s7 s8 s9, tellR (stF r) wt ln xs = done ++ tellR (stF r) wt l2 (xs.drop i) ∧ done.length = i ∧ e = ⟨[some (rowD r, false), some (wdD ks wt k2 ln, false), some (.lst (xs.map wD), false), some (dfD k2 l2, true), some (dfD (List.map (fun p : Str × Int => p.1) r.beams) (stF r), true), some (.lst (done.map rwD), true), s6, s7, s8, s9], n⟩) ⟨ln, [], _, _, _, _, rfl, rfl, rfl⟩ (fun i d e hd' ⟨l2, done, s6, s7, s8, s9, h1, h2, he⟩ => ?_) (fun e ⟨l2, done, s6, s7, s8, s9, h1, h2, he⟩ => ?_)
    · subst he
      rw [List.getElem?_map] at hd'
      obtain ⟨x, hx1, rfl⟩ := Option.map_eq_some_iff.mp hd'
      obtain ⟨hi, hxi⟩ := List.getElem?_eq_some_iff.mp hx1
      have hok := hx x (List.mem_of_getElem? hx1)
      rw [List.drop_eq_getElem_cons hi, hxi] at h1
      have hwt : ∀ z ∈ r.names, z ∈ ks := fun z hz => (hd.w.at_ z hz).1
      have hbk : x.b ∈ k2 := (hd.l.at_ x.b hok.b).1
      dsimp only [wD]
      one_sign
      refine ⟨rfl, rfl, rfl, _, rfl, rfl, ?_⟩
      refine get_df hok.l hwt ?_
      refine ⟨rfl, _, rfl, rfl, ?_⟩
      refine get_df hok.q hwt ?_
      one_sign
      refine ⟨rfl, ixAF_df hbk ?_⟩
      refine ⟨_, rfl, ?_⟩
      one_sign
      refine ⟨rfl, ixAF_df hbk ⟨rfl, ixAF_df hok.b ?_⟩⟩
      generalize hT : wtP wt x.l - wtP wt x.q + l2 x.b = T at *
      refine ⟨.inr (sgn_le T), ?_⟩
      one_sign
      have eT : l2 x.b - stF r x.b * sgn T = l2 x.b + turnN (wordOf T) * stF r x.b := by rw [turn_sgn, Int.neg_mul, Int.mul_comm (sgn T), ← Int.sub_eq_add_neg]
      rw [eT]
      refine ⟨_, putI_df hbk hk2, Nat.le_of_ble_eq_true rfl, _, at_sgn T, Nat.le_of_ble_eq_true rfl, by rw [List.length_map]; omega, ?_⟩
      refine ⟨updF l2 x.b (l2 x.b + turnN (wordOf T) * stF r x.b), done ++ [(x, wordOf T)], some (.str x.b, false), some (panD x.l, false), some (panD x.q, false), some (.int (sgn T), false), ?_, by rw [List.length_append, h2]; rfl, ?_⟩
      · rw [h1, List.append_assoc, ← hT]; rfl
      · rw [List.map_append]; rfl
    · subst he
      rw [List.length_map, List.drop_length] at h1
      have h1' : tellR (stF r) wt ln xs = done := by rw [h1]; exact List.append_nil _
      rw [h1'] at hR
      exact hR⟩
end
end L2.Q.Lw
set_option Elab.async false
set_option linter.all false
set_option maxRecDepth 100000
set_option maxHeartbeats 4000000
namespace L2.Q.Lw
open PySem PySem.Spec PyProof.Rows L2 L2.Wb L2.Q L2.Q.Wbm
abbrev sBegun : Stmt := (top 44)
abbrev sNext : Stmt := (top 45)
section
variable {P : Program} {w : World} {K : PySem.W.Frag} {mg : Str → Option Value} {base : Heap}
theorem scBegun : FnScope ["script", "great", "cell"] ["script"] (defScope sBegun) := ⟨rfl, rfl, rfl, by decide +kernel, rfl, by decide +kernel, by decide +kernel⟩
theorem ok_begun {f : Addr} {fd : FuncData} (F : Fun K "_law_begun" "_law_begun" sBegun f fd) (T : TxtL K mg) : FnOk P w K mg base CX0 1 f fd ["script"] (spBegun K) := by
  refine F.ok scBegun (fun vs H Q E h => ?_) (fun cdv A outer s H vs Q E hr h => ?_)
  · obtain ⟨_, _, rfl, _⟩ := h; rfl
  · obtain ⟨a, ns, rfl, hs, hl, k⟩ := h
    refine ⟨_, pss_cons (ps_setLc (i := 1) (own := [("cell", 2)]) (g := gName 2) rfl scBegun.nd rfl rfl (by rfl) (pi_list (pv 0)) (blkOk_by (own := [("cell", 2)]) (N := ["script", "great", "cell"]) (sc := defScope sBegun) (by decide +kernel))
        (fun _ _ _ _ _ => pg_name (i := 2) scBegun.nd rfl (Or.inl rfl)) (fun _ _ _ _ _ => pts_one (pt_cmpR op_ge (pe_callB call_abs (by rfl) T.nabs (by decide +kernel) (pa_cons (pv 2) pa_nil)) (pe_op op_pow pe_int pe_int) (nomark _)))
        (fun _ _ _ _ _ => pe_op op_fdivW (pe_callB call_abs (by rfl) T.nabs (by decide +kernel) (pa_cons (pv 2) pa_nil)) (pe_op op_pow pe_int pe_int)))
      (pss_one (ps_ret (pe_disp (pps_cons pe_str pe_int (pps_cons pe_str (pv 1) (pps_cons pe_str
        (pe_lc (own := [("cell", 2)]) (g := gName 2) (tt := tYes) rfl scBegun.nd (pi_list (pv 0)) (blkOk_by (own := [("cell", 2)]) (N := ["script", "great", "cell"]) (sc := defScope sBegun) (by decide +kernel))
        (fun _ _ _ _ _ => pg_name (i := 2) scBegun.nd rfl (Or.inl rfl)) (fun _ _ _ _ _ => pts_nil)
        (fun _ _ _ _ _ => pe_op op_mod (pe_callB call_abs (by rfl) T.nabs (by decide +kernel) (pa_cons (pv 2) pa_nil)) (pe_op op_pow pe_int pe_int)))
        (pps_cons pe_str pe_int pps_nil)))) (by rfl) (by rfl) (by decide) (by decide)))), ?_⟩
    have key : ∀ z ∈ ns.map V.int, ∃ i, z = V.int i := fun z hz => by obtain ⟨i, _, rfl⟩ := List.mem_map.mp hz; exact ⟨i, rfl⟩
    refine ⟨_, rfl, a, rfl, ⟨_, hs⟩, fun D hD => lc_list (K := K) (a := a) (xs := ns.map V.int) (fun i H' => Same H H' ∧ ∃ gs : List Int, H' D = some (.lst (gs.map V.int)) ∧ gs.length ≤ i ∧ ∀ g ∈ gs, 0 ≤ g) ⟨Same.new hD, [], upd_same, Nat.le_refl _, by simp⟩ (fun i H' _ h => h.1.seq hs) ?_ ?_⟩
    · rintro i y H' hi ⟨sm, gs, hgs, hgl, hg0⟩
      have hil : i < 63 := by have := (List.getElem?_eq_some_iff.mp hi).1; rw [List.length_map] at this; omega
      obtain ⟨c, rfl⟩ := key y (List.mem_of_getElem? hi)
      refine ⟨rfl, ?_⟩
      refine ⟨_, rfl, c, rfl, _, _, rfl, rfl, ⟨by decide, by decide, by decide⟩, _, _, rfl, rfl, _, rfl, ?_⟩
      have a0 : 0 ≤ (if c < 0 then -c else c) := by split <;> omega
      cases cc : decide (10 ^ Int.toNat 18 ≤ if c < 0 then -c else c)
      · refine iteF ?_
        exact ⟨sm, gs, hgs, by omega, hg0⟩
      · refine iteT ?_
        refine ⟨_, rfl, c, rfl, _, _, rfl, rfl, ⟨by decide, by decide, by decide⟩, _, _, rfl, rfl, ⟨by decide, by decide +kernel⟩, _, hgs, by rw [List.length_map]; exact Nat.lt_of_le_of_lt (show gs.length ≤ 63 by omega) (by decide), fun b o z => ?_, gs ++ [(if c < 0 then -c else c) / 10 ^ Int.toNat 18], ?_, ?_, ?_⟩
        · rw [upd_ne (ne_of_none z hD)]; exact sm _ _ z
        · rw [upd_same, List.map_append]; rfl
        · rw [List.length_append]; exact Nat.succ_le_succ hgl
        · intro g hg
          rcases List.mem_append.mp hg with q | q
          · exact hg0 g q
          · rw [List.mem_singleton.mp q]
            exact Int.ediv_nonneg a0 (by decide)
    · rintro H1 ⟨s1, gs, hgs, hgl, hg0⟩
      rw [List.length_map] at hgl
      intro st hst
      have s2 : Same H (upd H1 st (.dK [])) := s1.trans (Same.new hst)
      refine ⟨_, rfl, _, rfl, a, rfl, ⟨_, s2.seq hs⟩, fun cl hcl => lc_list (K := K) (a := a) (xs := ns.map V.int) (fun i H' => Same (upd H1 st (.dK [])) H' ∧ ∃ gs : List Int, H' cl = some (.lst (gs.map V.int)) ∧ gs.length ≤ i) ⟨Same.new hcl, [], upd_same, Nat.le_refl _⟩ (fun i H' _ h => (s2.trans h.1).seq hs) ?_ ?_⟩
      · rintro i y H' hi ⟨sm, cs, hcs, hcn⟩
        have hil : i < 63 := by have := (List.getElem?_eq_some_iff.mp hi).1; rw [List.length_map] at this; omega
        obtain ⟨c, rfl⟩ := key y (List.mem_of_getElem? hi)
        refine ⟨rfl, ?_⟩
        refine yes ?_
        refine ⟨_, rfl, c, rfl, _, _, rfl, rfl, ⟨by decide, by decide, by decide⟩, _, _, rfl, rfl, show (0 : Int) < 10 ^ Int.toNat 18 by decide, _, hcs, by rw [List.length_map]; exact Nat.lt_of_le_of_lt (show cs.length ≤ 63 by omega) (by decide), fun b o z => ?_, cs ++ [(if c < 0 then -c else c) % 10 ^ Int.toNat 18], ?_, ?_⟩
        · rw [upd_ne (ne_of_none z hcl)]; exact sm _ _ z
        · rw [upd_same, List.map_append]; rfl
        · rw [List.length_append]; exact Nat.succ_le_succ hcn
      · rintro H3 ⟨s3, cs, hcs, hcn⟩
        rw [List.length_map] at hcn
        have hst3 : H3 st = some (.dK []) := s3 _ _ upd_same
        have hD1 : D ≠ st := ne_of_none hgs hst
        have hD3 : H3 D = some (.lst (gs.map V.int)) := s3 _ _ (by rw [upd_ne hD1]; exact hgs)
        have hcD : D ≠ cl := ne_of_none (by rw [upd_ne hD1]; exact hgs) hcl
        have hcst : cl ≠ st := fun e => by rw [e, upd_same] at hcl; cases hcl
        refine ⟨hst3, [(.inr "digits", .int 0), (.inr "great", .ref D), (.inr "cells", .ref cl), (.inr "turn", .int 0)], rfl, show 4 ≤ 15 by decide, ?_⟩
        have hcl0 : H cl = none := s2.free hcl
        refine k st D cl _ (fun b o z => ?_) (s1.free hst) hD hcl0 ⟨⟨0, gs, cs, 0, ?_, ?_, ?_, Int.le_refl _, hg0, by omega, by omega, Int.le_refl _, Int.le_refl _⟩, hcD⟩
        · rw [upd_ne (ne_of_none z (s1.free hst))]
          exact (s2.trans s3) _ _ z
        · rw [upd_same]
          rfl
        · rw [upd_ne hD1]; exact hD3
        · rw [upd_ne hcst]; exact hcs
theorem scNext : FnScope ["state", "size", "found", "turn_v", "cell", "mixed"] ["state", "size"] (defScope sNext) := ⟨rfl, rfl, rfl, by decide +kernel, rfl, by decide +kernel, by decide +kernel⟩
theorem ok_next {f : Addr} {fd : FuncData} (F : Fun K "_law_next" "_law_next" sNext f fd) (T : TxtL K mg) : FnOk P w K mg base CX0 1 f fd ["state", "size"] spNext := by
  refine F.ok scNext (fun vs H Q E h => ?_) (fun cdv A outer s H vs Q E hr h => ?_)
  · obtain ⟨_, _, _, _, _, rfl, _⟩ := h; rfl
  · obtain ⟨st, gl, cl, n, size, rfl, hL, hn, hz, hz2, k⟩ := h
    have hu := hu_of hr
    have ns : ∀ {x : Str} {j pos}, NoSl (.Constant (.str x) j pos) := fun _ _ => rfl
    refine ⟨_, pss_cons (ps_while PassesOwn.never (PW.pt (pw_and (pt_cmpR op_eq (pe_dget hu (pv 0) pe_str ns) pe_int (nomark _)) (pw_and1 (pt_cmpR (op_neD hr.units) (pe_dget hu (pv 0) pe_str ns) (pe_lst pa_nil) (nomark _)))))
        (pss_one (ps_dput hu (pv 0) pe_str (pe_bm PySem.F.plainAttrs_list PySem.F.slot_list_pop PySem.F.type_list_pop mt_popAt (pe_dget hu (pv 0) pe_str ns) (pa_cons pe_int pa_nil)) rfl)))
      (pss_cons (ps_if (pt_cmpR op_gt (pe_dget hu (pv 0) pe_str ns) pe_int (nomark _))
        (pss_cons (ps_set (i := 2) scNext.nd rfl (Or.inl rfl) (pe_op op_mod (pe_dget hu (pv 0) pe_str ns) (pv 1)))
        (pss_cons (ps_dput hu (pv 0) pe_str (pe_op op_fdiv (pe_dget hu (pv 0) pe_str ns) (pv 1)) rfl)
        (pss_one (ps_ret (pv 2))))) pss_nil)
      (pss_cons (ps_daug hu (pv 0) pe_str pe_int in_add (fun _ _ _ => rfl))
      (pss_cons (ps_set (i := 3) scNext.nd rfl (Or.inl rfl) (pe_dget hu (pv 0) pe_str ns))
      (pss_cons (ps_set (i := 4) scNext.nd rfl (Or.inl rfl) pe_int)
      (pss_cons (ps_if (pt_cmpR (op_neD hr.units) (pe_dget hu (pv 0) pe_str ns) (pe_lst pa_nil) (nomark _))
        (pss_one (ps_set (i := 4) scNext.nd rfl (Or.inl rfl) (pe_ix ix_list (pe_dget hu (pv 0) pe_str ns) (pe_op op_mod (pv 3) (pe_callB call_len_seq (by rfl) T.nlen PySem.boot_len (pa_cons (pe_dget hu (pv 0) pe_str ns) pa_nil))) (fun _ _ => rfl)))) pss_nil)
      (pss_cons (ps_set (i := 5) scNext.nd rfl (Or.inl rfl) (pe_op op_mod (pe_op op_pow (pe_op op_add (pe_op op_mod (pv 4) pe_int) (pe_op op_mul pe_int (pv 3))) pe_int) pe_int))
      (pss_one (ps_ret (pe_op op_mod (pe_op op_fdiv (pe_op op_mod (pe_op op_pow (pe_op op_add (pv 5) (pe_op op_mul pe_int (pv 3))) pe_int) pe_int) pe_int) (pv 1)))))))))), ?_⟩
    obtain ⟨⟨d0, gs0, cs0, t0, h1, h2, h3, hd0, hg0, hgl, hcl, ht0, htn⟩, hne⟩ := hL
    have hsg : st ≠ gl := ne_of h1 h2 (by intro e; cases e)
    have hsc : st ≠ cl := ne_of h1 h3 (by intro e; cases e)
    refine ⟨fun m σ H' => σ = start ["state", "size", "found", "turn_v", "cell", "mixed"] [.ref st, .int size] ∧ Kept (N3 st gl cl) H H' ∧ ∃ (d : Int) (gs : List Int), gs.length = m ∧ H' st = some (.dK (sk d gl cl t0)) ∧ H' gl = some (.lst (gs.map V.int)) ∧ H' cl = some (.lst (cs0.map V.int)) ∧ 0 ≤ d ∧ (∀ g ∈ gs, 0 ≤ g) ∧ gs.length ≤ 63,
      ⟨gs0.length, rfl, Kept.refl _ _, d0, gs0, rfl, h1, h2, h3, hd0, hg0, hgl⟩, ?_⟩
    rintro m σ H1 ⟨rfl, kp, d, gs, rfl, a1, a2, a3, hd, hg, hl⟩
    refine loop_test rfl a1 a2 fun H2 s2 => ?_
    have b1 := s2 _ _ a1
    have b2 := s2 _ _ a2
    have b3 := s2 _ _ a3
    have kp2 : Kept (N3 st gl cl) H H2 := kp.trans (Same.kept s2)
    cases cg : d == 0 && !gs.isEmpty
    · refine iteF ?_
      refine ⟨_, rfl, st, _, rfl, dg b1 v1, _, _, rfl, rfl, _, rfl, ?_⟩
      by_cases cd : 0 < d
      · rw [decide_eq_true cd]
        refine iteT ?_
        have hq : 0 ≤ d / size := Int.ediv_nonneg hd (by omega)
        refine ⟨_, rfl, st, _, rfl, dg b1 v1, _, rfl, _, _, rfl, rfl, hz, ?_⟩
        refine ⟨_, rfl, st, _, rfl, dg b1 v1, _, rfl, _, _, rfl, rfl, ⟨hz, by omega⟩, _, rfl, st, _, rfl, dp1 b1, ?_⟩
        refine ⟨_, rfl, k _ _ (Int.emod_nonneg _ (by omega)) (Int.emod_lt_of_pos _ hz) ⟨⟨d / size, gs, cs0, t0, upd_same, ?_, ?_, hq, hg, hl, hcl, ht0, by omega⟩, hne⟩ (kp2.trans (Kept.upd (.inl rfl)))⟩
        · rw [upd_ne hsg.symm]; exact b2
        · rw [upd_ne hsc.symm]; exact b3
      · rw [decide_eq_false cd]
        refine iteF ?_
        refine ⟨_, rfl, st, _, rfl, dg b1 v4, _, _, rfl, rfl, _, dp4 b1, ?_⟩
        have u1 : upd H2 st (.dK (sk d gl cl (t0 + 1))) st = some (.dK (sk d gl cl (t0 + 1))) := upd_same
        have u3 : upd H2 st (.dK (sk d gl cl (t0 + 1))) cl = some (.lst (cs0.map V.int)) := by rw [upd_ne hsc.symm]; exact b3
        have u2 : upd H2 st (.dK (sk d gl cl (t0 + 1))) gl = some (.lst (gs.map V.int)) := by rw [upd_ne hsg.symm]; exact b2
        refine ⟨_, rfl, st, _, rfl, dg u1 v4, ?_⟩
        refine ne_test rfl u1 v3 u3 fun H3 s3 => ?_
        have done : ∀ r, 0 ≤ r → r < size → Q (.int r) H3 := fun r r0 r1 => k r H3 r0 r1 ⟨⟨d, gs, cs0, t0 + 1, s3 _ _ u1, s3 _ _ u2, s3 _ _ u3, hd, hg, hl, hcl, by omega, by omega⟩, hne⟩ ((kp2.trans (Kept.upd (.inl rfl))).trans (Same.kept s3))
        cases ce : !cs0.isEmpty
        · refine iteF ?_
          exact tail_run hz (by omega) (by omega) done
        · refine iteT ?_
          have cp : 0 < cs0.length := by cases cs0 with
            | nil => cases ce
            | cons => simp
          have hcp : (0 : Int) < (cs0.map V.int).length := by rw [List.length_map]; omega
          have r0 : 0 ≤ (t0 + 1) % ((cs0.map V.int).length : Int) := Int.emod_nonneg _ (by omega)
          have r1 : (t0 + 1) % ((cs0.map V.int).length : Int) < ((cs0.map V.int).length : Int) := Int.emod_lt_of_pos _ hcp
          obtain ⟨v, e1, e2⟩ := atI_at r0 r1
          obtain ⟨c, _, rfl⟩ := List.mem_map.mp (List.mem_of_getElem? e2)
          refine ⟨_, rfl, st, _, rfl, dg (s3 _ _ u1) v3, _, rfl, _, rfl, st, _, rfl, dg (s3 _ _ u1) v3, cl, _, rfl, .inl (SqL.of (s3 _ _ u3)), _, _, rfl, rfl, hcp, cl, _, _, .int c, rfl, rfl, SqL.of (s3 _ _ u3), e1, ?_⟩
          exact tail_run hz (by omega) (by omega) done
    · refine iteT ?_
      rw [Bool.and_eq_true] at cg
      match gs, cg, hg, hl, b2 with
      | [], cg, _, _, _ => exact absurd cg.2 (by decide)
      | g :: r, cg, hg, hl, b2 =>
        refine ⟨fun σ H' => σ = start ["state", "size", "found", "turn_v", "cell", "mixed"] [.ref st, .int size] ∧ Kept (N3 st gl cl) H H' ∧ ∃ (d : Int) (gs : List Int), gs.length = r.length ∧ H' st = some (.dK (sk d gl cl t0)) ∧ H' gl = some (.lst (gs.map V.int)) ∧ H' cl = some (.lst (cs0.map V.int)) ∧ 0 ≤ d ∧ (∀ g ∈ gs, 0 ≤ g) ∧ gs.length ≤ 63, fun σ' H' z => ⟨r.length, by simp, z⟩, ?_⟩
        refine ⟨_, rfl, st, _, rfl, dg b1 v2, .inl ⟨rfl, _, SqL.of b2⟩, gl, _, 0, 0, .int g, rfl, rfl, b2, by decide, by decide, ?_, rfl, ?_⟩
        · show (if (decide ((0 : Int) ≤ 0) && decide ((0 : Int) < (((g :: r).map V.int).length : Nat))) = true then some (Int.toNat 0) else none) = some 0
          rw [decide_eq_true (Int.le_refl 0), decide_eq_true (by simp)]
          rfl
        refine ⟨_, rfl, st, _, rfl, dp1 (by rw [upd_ne hsg]; exact b1), rfl, (kp2.trans (Kept.upd (.inr (.inl rfl)))).trans (Kept.upd (.inl rfl)), g, r, rfl, upd_same, ?_, ?_, hg g List.mem_cons_self, fun z hz => hg z (List.mem_cons_of_mem _ hz), by simp at hl; omega⟩
        · rw [upd_ne hsg.symm, upd_same]; rfl
        · rw [upd_ne hsc.symm, upd_ne hne.symm]; exact b3
abbrev l_law_next : List Str := ["state", "size"]
theorem ok_law_next {f : Addr} {fd : FuncData} (C : Cn) (hK : C.K = K) (F : Fun K "_law_next" "_law_next" sNext f fd) (T : TxtL K mg) : FnOk P w K mg base (L2.CX P w) 1 f fd l_law_next (spOf C p_law_next) :=
  next_of C (lift0 (ok_next F T))
end
end L2.Q.Lw
set_option Elab.async false
set_option linter.all false
set_option maxRecDepth 100000
set_option maxHeartbeats 4000000
namespace L2.K01
open L2.Q.Lw (top meth)
open PySem PySem.Spec PyProof.Rows L2.Wb
abbrev sNum : Stmt := (top 8)
abbrev sLst : Stmt := (top 9)
abbrev sName : Stmt := (top 36)
abbrev sNames : Stmt := (top 37)
abbrev sThings : Stmt := (top 38)
abbrev sBeam : Stmt := (top 39)
abbrev sBeams : Stmt := (top 40)
abbrev sFew : Stmt := (top 41)
def isLow (c : Nat) : Bool := decide (97 ≤ c) && decide (c ≤ 122)
def isNameS (x : Str) : Bool := decide (1 ≤ x.length) && decide (x.length ≤ 8) && x.cps.toList.all isLow
def isUp (c : Nat) : Bool := decide (65 ≤ c) && decide (c ≤ 90)
theorem tabU : ∀ c, c < 128 → (Unicode.isAlpha c = (isUp c || isLow c) ∧ Unicode.isLower c = isLow c ∧ (Unicode.isUpper c || Unicode.isTitle c) = isUp c) := by decide +kernel
theorem low_up {c : Nat} (h : isLow c = true) : isUp c = false ∧ c < 128 := by
  unfold isLow at h; unfold isUp
  simp at h ⊢; omega
theorem name_ok (x : Str) : (decide ((x.length : Int) ≤ 8) && (Txt.isascii x && (Txt.isalpha x && Txt.islower x))) = isNameS x := by
  have hl : x.length = x.cps.toList.length := by simp [Str.length]
  have e8 : decide ((x.length : Int) ≤ 8) = decide (x.length ≤ 8) := by
    by_cases c : x.length ≤ 8
    · rw [decide_eq_true c, decide_eq_true (by omega)]
    · rw [decide_eq_false c, decide_eq_false (by omega)]
  rw [e8]
  unfold isNameS Txt.isascii Txt.isalpha Txt.islower
  rw [← Array.all_toList, ← Array.all_toList, ← Array.any_toList, ← Array.any_toList]
  generalize x.cps.toList = l at *
  rw [Bool.eq_iff_iff]
  simp only [Bool.and_eq_true, decide_eq_true_eq, List.all_eq_true, Bool.not_eq_true', List.any_eq_true, List.any_eq_false]
  constructor
  · rintro ⟨h1, h2, ⟨h3, h4⟩, ⟨c, hc, h5⟩, h6⟩
    refine ⟨⟨by omega, h1⟩, fun z hz => ?_⟩
    obtain ⟨a1, a2, a3⟩ := tabU z (by simpa using h2 z hz)
    have b1 := h4 z hz
    rw [a1] at b1
    have b2 := h6 z hz
    rw [a3] at b2
    simpa [Bool.eq_false_iff.mpr b2] using b1
  · rintro ⟨⟨h1, h2⟩, h3⟩
    refine ⟨h2, fun z hz => by simpa using (low_up (h3 z hz)).2, ⟨by omega, fun z hz => ?_⟩, ?_, fun z hz => ?_⟩
    · rw [(tabU z (low_up (h3 z hz)).2).1, h3 z hz, Bool.or_true]
    · cases l with
      | nil => simp at hl; omega
      | cons c r => exact ⟨c, List.mem_cons_self, by rw [(tabU c (low_up (h3 c List.mem_cons_self)).2).2.1]; exact h3 c List.mem_cons_self⟩
    · rw [(tabU z (low_up (h3 z hz)).2).2.2, (low_up (h3 z hz)).1]; exact Bool.false_ne_true
def isNameD : PyData → Bool
  | .str x => isNameS x
  | _ => false
def isNumD (lo hi : Int) : PyData → Bool
  | .int i => decide (lo ≤ i) && decide (i ≤ hi)
  | _ => false
def seqOf : PyData → Option (List PyData)
  | .list ds => some ds
  | .tuple ds => some ds
  | _ => none
def strOf : PyData → Str
  | .str x => x
  | _ => Str.empty
def namesD (ds : List PyData) : Bool := ds.all isNameD && decide (ds.map strOf).Nodup
def thingsD (d : PyData) : Bool := match seqOf d with
  | some ds => decide (1 ≤ ds.length) && decide (ds.length ≤ 8) && namesD ds
  | none => false
def beamD : PyData → Bool
  | .tuple [_, st] => isNumD (-5) 5 st && !isNumD 0 0 st
  | _ => false
def fstD : PyData → PyData
  | .tuple (a :: _) => a
  | _ => .none
def beamsD (d : PyData) : Bool := match seqOf d with
  | some ds => decide (1 ≤ ds.length) && decide (ds.length ≤ 3) && (ds.all beamD && namesD (ds.map fstD))
  | none => false
def tyName : PyData → String
  | .none => "NoneType" | .bool _ => "bool" | .int _ => "int" | .str _ => "str" | .list _ => "list" | .tuple _ => "tuple" | .dict _ => "dict"
theorem plain_ty (d : PyData) : PySem.WbT.Plain (tyName d) := by
  cases d
  · exact PySem.WbT.plain_none
  · exact PySem.WbT.plain_bool
  · exact PySem.WbT.plain_int
  · exact PySem.WbT.plain_str
  · exact PySem.WbT.plain_list
  · exact PySem.WbT.plain_tuple
  · exact PySem.WbT.plain_dict
theorem _root_.L2.Wb.Dx.tyB {K : PySem.W.Frag} {H : Hp} {x : V} {d : PyData} (h : Dx H x d) : TyB K H x (tyName d) := by
  cases h with
  | non => exact .non
  | bl b => exact .bl b
  | int i => exact .int i
  | str y => exact .str y
  | lst a _ => exact .lst (SqL.of a)
  | tup a _ => exact .tup (SqT.of a)
  | dct a _ => exact .dK a
/-- texts are short enough to be measured -/
def ShortD : PyData → Prop
  | .str x => x.length ≤ 1000
  | _ => True
def spNum : Sp := fun vs H Q _ => ∃ (x : V) (d : PyData) (lo hi : Int), vs = [x, .int lo, .int hi] ∧ Dx H x d ∧ Q (.bl (isNumD lo hi d)) H
def spLst : Sp := fun vs H Q _ => ∃ (x : V) (d : PyData), vs = [x] ∧ Dx H x d ∧ ∀ H', Same H H' → Q (.bl (seqOf d).isSome) H'
def spName : Sp := fun vs H Q _ => ∃ (x : V) (d : PyData), vs = [x] ∧ Dx H x d ∧ ShortD d ∧ Q (.bl (isNameD d)) H
structure Txt (K : PySem.W.Frag) (mg : Str → Option Value) : Prop where
  nty : mg "type" = none
  nint : mg "int" = none
  nlst : mg "list" = none
  ntup : mg "tuple" = none
  nstr : mg "str" = none
  nlen : mg "len" = none
  nall : mg "all" = none
  nset : mg "set" = none
section
variable {P : Program} {w : World} {K : PySem.W.Frag} {mg : Str → Option Value} {base : Heap}
theorem scNum : FnScope ["thing", "first", "last"] ["thing", "first", "last"] (defScope sNum) := ⟨rfl, rfl, rfl, by decide +kernel, rfl, by decide +kernel, by decide +kernel⟩
theorem ok_num {f : Addr} {fd : FuncData} (F : Fun K "is_number" "is_number" sNum f fd) (T : Txt K mg) : FnOk P w K mg base CX0 1 f fd ["thing", "first", "last"] spNum := by
  refine F.ok scNum (fun vs H Q E h => ?_) (fun cdv A outer s H vs Q E hr h => ?_)
  · obtain ⟨_, _, _, _, rfl, _⟩ := h; rfl
  · obtain ⟨x, d, lo, hi, rfl, hd, k⟩ := h
    refine ⟨_, pss_one (ps_ret (pe_and (pe_cmpR op_isTyB (pe_callTy call_type1 (by rfl) T.nty (by decide +kernel) (pa_cons (pv 0) pa_nil)) (pe_bltn (v := .ty "int") (by rfl) T.nint (by decide +kernel) rfl) (nomark _))
      (pe_one (pe_chain op_le op_le (pv 1) (pv 0) (pv 2))))), ?_⟩
    refine ⟨_, rfl, _, _, rfl, hd.tyB, _, _, rfl, rfl, _, rfl, ?_⟩
    cases hd with
    | int i =>
      refine iteT ?_
      refine ⟨_, rfl, _, rfl, _, _, rfl, rfl, _, rfl, ?_⟩
      by_cases c : lo ≤ i
      · rw [decide_eq_true c]
        refine iteT ⟨_, rfl, _, _, rfl, rfl, ?_⟩
        simpa [isNumD, c] using k
      · rw [decide_eq_false c]
        refine iteF ?_
        simpa [isNumD, c] using k
    | non => exact iteF k
    | bl b => exact iteF k
    | str y => exact iteF k
    | lst a b => exact iteF k
    | tup a b => exact iteF k
    | dct a b => exact iteF k
theorem scLst : FnScope ["thing"] ["thing"] (defScope sLst) := ⟨rfl, rfl, rfl, by decide +kernel, rfl, by decide +kernel, by decide +kernel⟩
theorem ok_lst {f : Addr} {fd : FuncData} (F : Fun K "is_list" "is_list" sLst f fd) (T : Txt K mg) : FnOk P w K mg base CX0 1 f fd ["thing"] spLst := by
  refine F.ok scLst (fun vs H Q E h => ?_) (fun cdv A outer s H vs Q E hr h => ?_)
  · obtain ⟨_, _, rfl, _⟩ := h; rfl
  · obtain ⟨x, d, rfl, hd, k⟩ := h
    refine ⟨_, pss_one (ps_ret (pe_cmpR op_tyIn (pe_callTy call_type1 (by rfl) T.nty (by decide +kernel) (pa_cons (pv 0) pa_nil))
      (pe_tup (pa_cons (pe_bltn (v := .ty "list") (by rfl) T.nlst (by decide +kernel) rfl) (pa_cons (pe_bltn (v := .ty "tuple") (by rfl) T.ntup (by decide +kernel) rfl) pa_nil))) (by rfl))), ?_⟩
    refine ⟨_, rfl, _, _, rfl, hd.tyB, (by show 2 ≤ sizeLine; decide), fun p hp => ?_⟩
    refine ⟨_, p, ["list", "tuple"], rfl, rfl, plain_ty d, ?_, SqT.of upd_same, ?_⟩
    · intro m hm
      simp at hm
      rcases hm with rfl | rfl
      · exact PySem.WbT.plain_list
      · exact PySem.WbT.plain_tuple
    · have e : (["list", "tuple"].any fun m => decide (m = tyName d)) = (seqOf d).isSome := by cases d <;> simp [tyName, seqOf] <;> decide
      rw [e]
      exact k _ fun b o z => by rw [upd_ne (ne_of_none z hp)]; exact z
theorem scName : FnScope ["thing"] ["thing"] (defScope sName) := ⟨rfl, rfl, rfl, by decide +kernel, rfl, by decide +kernel, by decide +kernel⟩
theorem ok_name {f : Addr} {fd : FuncData} (F : Fun K "is_name" "is_name" sName f fd) (T : Txt K mg) : FnOk P w K mg base CX0 1 f fd ["thing"] spName := by
  refine F.ok scName (fun vs H Q E h => ?_) (fun cdv A outer s H vs Q E hr h => ?_)
  · obtain ⟨_, _, rfl, _⟩ := h; rfl
  · obtain ⟨x, d, rfl, hd, hz, k⟩ := h
    refine ⟨_, pss_one (ps_ret (pe_and (pe_cmpR op_isTyB (pe_callTy call_type1 (by rfl) T.nty (by decide +kernel) (pa_cons (pv 0) pa_nil)) (pe_bltn (v := .ty "str") (by rfl) T.nstr (by decide +kernel) rfl) (nomark _))
      (pe_and (pe_cmpR op_le (pe_callB call_len_str (by rfl) T.nlen PySem.boot_len (pa_cons (pv 0) pa_nil)) pe_int (nomark _))
      (pe_and (pe_bm0 PySem.F.plainAttrs_str PySem.F.slot_str_isascii PySem.F.type_str_isascii mt_isascii (pv 0))
      (pe_and (pe_bm0 PySem.F.plainAttrs_str PySem.F.slot_str_isalpha PySem.F.type_str_isalpha mt_isalpha (pv 0))
      (pe_one (pe_bm0 PySem.F.plainAttrs_str PySem.F.slot_str_islower PySem.F.type_str_islower mt_islower (pv 0)))))))), ?_⟩
    refine ⟨_, rfl, _, _, rfl, hd.tyB, _, _, rfl, rfl, _, rfl, ?_⟩
    cases hd with
    | str y =>
      have hz' : y.length ≤ 1000 := hz
      rw [show isNameD (.str y) = isNameS y from rfl, ← name_ok y] at k
      refine iteT ⟨_, rfl, _, rfl, Nat.le_trans hz' (by decide), _, _, rfl, rfl, _, rfl, ?_⟩
      by_cases c : (y.length : Int) ≤ 8
      · rw [decide_eq_true c] at k ⊢
        refine iteT ⟨_, rfl, rfl, _, rfl, rfl, trivial, _, rfl, ?_⟩
        cases ca : Txt.isascii y
        · rw [ca] at k; exact iteF k
        · rw [ca] at k
          refine iteT ⟨_, rfl, rfl, _, rfl, rfl, trivial, _, rfl, ?_⟩
          cases cb : Txt.isalpha y
          · rw [cb] at k; exact iteF k
          · rw [cb] at k
            exact iteT ⟨_, rfl, rfl, _, rfl, rfl, trivial, k⟩
      · rw [decide_eq_false c] at k ⊢
        exact iteF k
    | non => exact iteF k
    | bl b => exact iteF k
    | int y => exact iteF k
    | lst a b => exact iteF k
    | tup a b => exact iteF k
    | dct a b => exact iteF k
end
end L2.K01
namespace L2.K01
open L2.Q.Lw (top meth)
open PySem PySem.Spec PyProof.Rows L2.Wb
theorem Dx.sq {H : Hp} {x : V} {d : PyData} {ds : List PyData} (h : Dx H x d) (e : seqOf d = some ds) : ∃ a xs, x = .ref a ∧ DxAll H xs ds ∧ ((H a = some (.lst xs)) ∨ (H a = some (.tup xs))) := by
  cases h with
  | lst h1 h2 => cases e; exact ⟨_, _, rfl, h2, .inl h1⟩
  | tup h1 h2 => cases e; exact ⟨_, _, rfl, h2, .inr h1⟩
  | _ => cases e
theorem sq_walk {K : PySem.W.Frag} {H : Hp} {a : Addr} {xs : List V} (h : (H a = some (.lst xs)) ∨ (H a = some (.tup xs))) : ∃ J S, Wk K a xs J S ∧ S H := by
  rcases h with h | h
  · exact ⟨_, _, .l, SqL.of h⟩
  · exact ⟨_, _, .t, SqT.of h⟩
theorem sq_any {K : PySem.W.Frag} {H : Hp} {a : Addr} {xs : List V} (h : (H a = some (.lst xs)) ∨ (H a = some (.tup xs))) : SqL K H a xs ∨ SqT K H a xs := h.imp SqL.of SqT.of
theorem names_are {H : Hp} : ∀ {xs : List V} {ds : List PyData}, DxAll H xs ds → ds.all isNameD = true → xs = (ds.map strOf).map V.str
  | _, _, .nil, _ => rfl
  | _, _, .cons h t, e => by
    rw [List.all_cons, Bool.and_eq_true] at e
    cases h with
    | str x => simp [names_are t e.2, strOf]
    | _ => exact absurd e.1 Bool.false_ne_true
theorem all_take {ds : List PyData} {f : PyData → Bool} : (ds.map f).all id = ds.all f := by rw [List.all_map]; rfl
def spNames : Sp := fun vs H Q _ => ∃ (x : V) (d : PyData) (ds : List PyData), vs = [x] ∧ Dx H x d ∧ seqOf d = some ds ∧ ds.length ≤ 100 ∧ (∀ e ∈ ds, ShortD e) ∧ ∀ H', Same H H' → Q (.bl (namesD ds)) H'
def spThings : Sp := fun vs H Q _ => ∃ (x : V) (d : PyData), vs = [x] ∧ Dx H x d ∧ (∀ ds, seqOf d = some ds → ∀ e ∈ ds, ShortD e) ∧ ∀ H', Same H H' → Q (.bl (thingsD d)) H'
def spBeam : Sp := fun vs H Q _ => ∃ (x : V) (d : PyData), vs = [x] ∧ Dx H x d ∧ ∀ H', Same H H' → Q (.bl (beamD d)) H'
structure TxtB (K : PySem.W.Frag) (mg : Str → Option Value) (fNum fLst fName fNames fBeam : Addr) : Prop where
  t : Txt K mg
  gNum : mg "is_number" = some (.ref fNum)
  kNum : PySem.W.keepIn K (.ref fNum) = true
  gLst : mg "is_list" = some (.ref fLst)
  kLst : PySem.W.keepIn K (.ref fLst) = true
  gName : mg "is_name" = some (.ref fName)
  kName : PySem.W.keepIn K (.ref fName) = true
  gNames : mg "_are_names" = some (.ref fNames)
  kNames : PySem.W.keepIn K (.ref fNames) = true
  gBeam : mg "_is_beam" = some (.ref fBeam)
  kBeam : PySem.W.keepIn K (.ref fBeam) = true
section
variable {P : Program} {w : World} {K : PySem.W.Frag} {mg : Str → Option Value} {base : Heap} {fNum fLst fName fNames fBeam : Addr} {dNum dLst dName dNames dBeam : FuncData}
theorem scNames : FnScope ["things", "thing"] ["things"] (defScope sNames) := ⟨rfl, rfl, rfl, by decide +kernel, rfl, by decide +kernel, by decide +kernel⟩
theorem ok_names {f : Addr} {fd : FuncData} (F : Fun K "_are_names" "_are_names" sNames f fd) (T : TxtB K mg fNum fLst fName fNames fBeam) (GN : FnOk P w K mg base CX0 1 fName dName ["thing"] spName) (bN : Binds K dName ["thing"] []) : FnOk P w K mg base CX0 2 f fd ["things"] spNames := by
  refine F.ok scNames (fun vs H Q E h => ?_) (fun cdv A outer s H vs Q E hr h => ?_)
  · obtain ⟨_, _, _, rfl, _⟩ := h; rfl
  · obtain ⟨x, d, ds, rfl, hd, hsq, hlen, hsh, k⟩ := h
    refine ⟨_, pss_one (ps_ret (pe_and (pe_callB (cr_all rfl) (by rfl) T.t.nall (by decide +kernel) (pa_cons
        (pe_lc (own := [("thing", 1)]) (g := gName 1) (tt := tYes) rfl scNames.nd (pi_seqV 0) (blkOk_by (own := [("thing", 1)]) (N := ["things", "thing"]) (sc := defScope sNames) (by decide +kernel))
          (fun _ _ _ _ _ => pg_name (i := 1) scNames.nd rfl (Or.inl rfl)) (fun _ _ _ _ _ => pts_nil) (fun _ _ _ _ _ => pe_call GN hr rfl T.gName T.kName bN .nil pass0 (pa_cons (pv 1) pa_nil))) pa_nil))
      (pe_one (pe_cmpR op_eq (pe_lenOnce rfl (by rfl) T.t.nlen (by rfl) T.t.nset (pv 0)) (pe_callB call_len_seq (by rfl) T.t.nlen PySem.boot_len (pa_cons (pv 0) pa_nil)) (nomark _))))), ?_⟩
    obtain ⟨a, xs, rfl, hx, ha⟩ := Dx.sq hd hsq
    obtain ⟨J, S, wk, hS⟩ := sq_walk (K := K) ha
    have hl := hx.len
    refine ⟨a, xs, J, S, rfl, wk, hS, fun D hD => lc_wk wk (fun i H' => Same H H' ∧ H' D = some (.lst (((ds.take i).map isNameD).map V.bl))) ⟨fun b o e => by rw [upd_ne (ne_of_none e hD)]; exact e, upd_same⟩ (fun i H' _ h' => wk.stay h'.1 hS) ?_ ?_⟩
    · rintro i y H' hi ⟨sm, hDl⟩
      obtain ⟨e, he, hy⟩ := hx.get hi
      have hi' : i < ds.length := (List.getElem?_eq_some_iff.mp he).1
      refine ⟨rfl, ?_⟩
      refine yes ?_
      refine ⟨_, rfl, y, e, rfl, hy.same sm, hsh e (List.mem_of_getElem? he), _, hDl, by rw [List.length_map, List.length_map, List.length_take]; exact Nat.lt_of_lt_of_le (show min i ds.length < 101 by omega) (by decide), fun b o z => ?_, ?_⟩
      · have hne : b ≠ D := ne_of_none z hD
        rw [upd_ne hne]; exact sm _ _ z
      · rw [upd_same, List.take_succ, he]
        simp
    · rintro H' ⟨sm, hDl⟩
      rw [hl, List.take_length] at hDl
      refine ⟨D, _, rfl, SqL.of hDl, _, rfl, ?_⟩
      rw [all_take]
      cases c : ds.all isNameD
      · refine iteF ?_
        have := k H' sm
        unfold namesD at this
        rw [c] at this
        exact this
      · have hxs := names_are hx c
        refine iteT ⟨_, rfl, a, ds.map strOf, rfl, ?_, by rw [List.length_map]; omega, _, rfl, a, xs, rfl, ?_, rfl, ?_⟩
        · rw [← hxs]; exact (sq_any ha).imp (fun q => sm.seq q) (fun q => sameT sm q)
        · exact (sq_any ha).imp (fun q => sm.seq q) (fun q => sameT sm q)
        · have e1 : decide (V.int ((PySem.WbS.once (ds.map strOf)).length : Nat) = V.int xs.length) = decide (ds.map strOf).Nodup := by
            rw [← PySem.WbS.once_nodup, dec_int, hl, List.length_map]
            by_cases q : (PySem.WbS.once (ds.map strOf)).length = ds.length
            · rw [q, decide_eq_true rfl, beq_self_eq_true]
            · rw [decide_eq_false q]; exact beq_eq_false_iff_ne.mpr (by omega)
          show Q (V.bl (decide (V.int ((PySem.WbS.once (ds.map strOf)).length : Nat) = V.int xs.length))) H'
          rw [e1]
          have := k H' sm
          unfold namesD at this
          rw [c, Bool.true_and] at this
          exact this
theorem scThings : FnScope ["things"] ["things"] (defScope sThings) := ⟨rfl, rfl, rfl, by decide +kernel, rfl, by decide +kernel, by decide +kernel⟩
theorem ok_things {f : Addr} {fd : FuncData} (F : Fun K "_are_things" "_are_things" sThings f fd) (T : TxtB K mg fNum fLst fName fNames fBeam) (GL : FnOk P w K mg base CX0 1 fLst dLst ["thing"] spLst) (bL : Binds K dLst ["thing"] []) (GN : FnOk P w K mg base CX0 2 fNames dNames ["things"] spNames) (bN : Binds K dNames ["things"] []) :
    FnOk P w K mg base CX0 3 f fd ["things"] spThings := by
  refine F.ok scThings (fun vs H Q E h => ?_) (fun cdv A outer s H vs Q E hr h => ?_)
  · obtain ⟨_, _, rfl, _⟩ := h; rfl
  · obtain ⟨x, d, rfl, hd, hsh, k⟩ := h
    refine ⟨_, pss_one (ps_ret (pe_and (pe_call GL (hr.mono (by decide)) rfl T.gLst T.kLst bL .nil pass0 (pa_cons (pv 0) pa_nil)) (pe_and (pe_chain op_le op_le pe_int (pe_callB call_len_seq (by rfl) T.t.nlen PySem.boot_len (pa_cons (pv 0) pa_nil)) pe_int)
      (pe_one (pe_call GN hr rfl T.gNames T.kNames bN .nil pass0 (pa_cons (pv 0) pa_nil)))))), ?_⟩
    refine ⟨_, rfl, x, d, rfl, hd, fun H1 s1 => ?_⟩
    cases e : seqOf d with
    | none =>
      refine ⟨_, rfl, iteF ?_⟩
      have := k H1 s1
      unfold thingsD at this
      rw [e] at this
      exact this
    | some ds =>
      obtain ⟨a, xs, rfl, hx, ha⟩ := Dx.sq hd e
      have hl := hx.len
      refine ⟨_, rfl, iteT ?_⟩
      refine ⟨_, rfl, a, xs, rfl, (sq_any ha).imp (fun q => s1.seq q) (fun q => sameT s1 q), _, _, rfl, rfl, _, rfl, ?_⟩
      have kk : ∀ H', Same H H' → Q (.bl (decide (1 ≤ ds.length) && decide (ds.length ≤ 8) && namesD ds)) H' := fun H' z => by
        have := k H' z
        unfold thingsD at this
        rw [e] at this
        exact this
      by_cases c1 : 1 ≤ ds.length
      · rw [decide_eq_true (show (1 : Int) ≤ (xs.length : Int) by omega)]
        refine iteT ⟨_, _, rfl, rfl, _, rfl, ?_⟩
        by_cases c2 : ds.length ≤ 8
        · rw [decide_eq_true (show (xs.length : Int) ≤ 8 by omega)]
          refine iteT ⟨_, rfl, _, d, ds, rfl, hd.same s1, e, by omega, hsh ds e, fun H2 s2 => ?_⟩
          have := kk H2 (s1.trans s2)
          rw [decide_eq_true c1, decide_eq_true c2] at this
          exact this
        · rw [decide_eq_false (show ¬ (xs.length : Int) ≤ 8 by omega)]
          refine iteF ?_
          have := kk H1 s1
          rw [decide_eq_false c2, Bool.and_false] at this
          exact this
      · rw [decide_eq_false (show ¬ (1 : Int) ≤ (xs.length : Int) by omega)]
        refine iteF ⟨_, rfl, iteF ?_⟩
        have := kk H1 s1
        rw [decide_eq_false c1] at this
        exact this
theorem scBeam : FnScope ["pair"] ["pair"] (defScope sBeam) := ⟨rfl, rfl, rfl, by decide +kernel, rfl, by decide +kernel, by decide +kernel⟩
theorem ok_beam {f : Addr} {fd : FuncData} (F : Fun K "_is_beam" "_is_beam" sBeam f fd) (T : TxtB K mg fNum fLst fName fNames fBeam) (GN : FnOk P w K mg base CX0 1 fNum dNum ["thing", "first", "last"] spNum) (bN : Binds K dNum ["thing", "first", "last"] []) : FnOk P w K mg base CX0 2 f fd ["pair"] spBeam := by
  refine F.ok scBeam (fun vs H Q E h => ?_) (fun cdv A outer s H vs Q E hr h => ?_)
  · obtain ⟨_, _, rfl, _⟩ := h; rfl
  · obtain ⟨x, d, rfl, hd, k⟩ := h
    refine ⟨_, pss_one (ps_ret (pe_and (pe_cmpR op_isTyB (pe_callTy call_type1 (by rfl) T.t.nty (by decide +kernel) (pa_cons (pv 0) pa_nil)) (pe_bltn (v := .ty "tuple") (by rfl) T.t.ntup (by decide +kernel) rfl) (nomark _))
      (pe_and (pe_cmpR op_eq (pe_callB call_len_seq (by rfl) T.t.nlen PySem.boot_len (pa_cons (pv 0) pa_nil)) pe_int (nomark _))
      (pe_and (pe_call GN hr rfl T.gNum T.kNum bN .nil pass0 (pa_cons (pe_ix ix_tup (pv 0) pe_int (fun _ _ => rfl)) (pa_cons (pe_un un_neg pe_int) (pa_cons pe_int pa_nil))))
      (pe_one (pe_cmpR op_ne (pe_ix ix_tup (pv 0) pe_int (fun _ _ => rfl)) pe_int (nomark _))))))), ?_⟩
    refine ⟨_, rfl, _, _, rfl, hd.tyB, _, _, rfl, rfl, _, rfl, ?_⟩
    have k0 := k H (Same.refl H)
    cases hd with
    | tup a b =>
      rename_i p xs ds
      have hl := b.len
      refine iteT ⟨_, rfl, p, xs, rfl, .inr (SqT.of a), rfl, _, rfl, ?_⟩
      match ds, xs, b with
      | [], _, .nil => exact iteF k0
      | [_], _, .cons _ .nil => exact iteF k0
      | _ :: _ :: _ :: r, _, .cons _ (.cons _ (.cons _ t)) =>
        rw [show decide (V.int _ = V.int 2) = false from by
          rw [dec_int]
          refine beq_eq_false_iff_ne.mpr ?_
          simp only [List.length_cons]
          omega]
        exact iteF k0
      | [d1, d2], _, .cons (v := v1) h1 (.cons (v := v2) h2 .nil) =>
        refine iteT ⟨_, rfl, p, _, _, _, rfl, rfl, SqT.of a, rfl, _, rfl, v2, d2, _, _, rfl, h2, _, rfl, ?_⟩
        have kk : Q (.bl (isNumD (-5) 5 d2 && !isNumD 0 0 d2)) H := k0
        cases c : isNumD (-5) 5 d2
        · rw [c] at kk; exact iteF kk
        · rw [c] at kk
          refine iteT ⟨_, rfl, p, _, _, _, rfl, rfl, SqT.of a, rfl, ?_⟩
          cases h2 with
          | int i =>
            refine ⟨rfl, ?_⟩
            rw [dec_int]
            have e : (i == 0) = isNumD 0 0 (.int i) := by
              unfold isNumD
              rw [Bool.eq_iff_iff]
              simp
              omega
            rw [e]
            exact kk
          | _ => exact absurd c Bool.false_ne_true
    | non => exact iteF k0
    | bl b => exact iteF k0
    | int y => exact iteF k0
    | str y => exact iteF k0
    | lst a b => exact iteF k0
    | dct a b => exact iteF k0
end
end L2.K01
namespace L2.K01
open L2.Q.Lw (top meth)
open PySem PySem.Spec PyProof.Rows L2.Wb
def spBeams : Sp := fun vs H Q _ => ∃ (x : V) (d : PyData), vs = [x] ∧ Dx H x d ∧ (∀ ds, seqOf d = some ds → ∀ e ∈ ds, ShortD (fstD e)) ∧ ∀ H', Same H H' → Q (.bl (beamsD d)) H'
def fewN (n : Nat) (lean : Int) : Bool := decide ((2 * lean + 1) ^ n ≤ 400)
def spFew : Sp := fun vs H Q _ => ∃ (x : V) (d : PyData) (ds : List PyData) (lean : Int), vs = [x, .int lean] ∧ Dx H x d ∧ seqOf d = some ds ∧ ds.length ≤ 3 ∧ 0 ≤ lean ∧ lean ≤ 9 ∧ ∀ H', Same H H' → Q (.bl (fewN ds.length lean)) H'
theorem Dx.pair {H : Hp} {x : V} {d : PyData} (h : Dx H x d) (hb : beamD d = true) : ∃ a v1 v2 d1 i, x = .ref a ∧ H a = some (.tup [v1, v2]) ∧ d = .tuple [d1, .int i] ∧ Dx H v1 d1 ∧ v2 = .int i ∧ -5 ≤ i ∧ i ≤ 5 ∧ i ≠ 0 := by
  cases h with
  | tup a b =>
    rename_i p xs ds
    match ds, xs, b, hb with
    | [], _, .nil, hb => exact absurd hb Bool.false_ne_true
    | [_], _, .cons _ .nil, hb => exact absurd hb Bool.false_ne_true
    | _ :: _ :: _ :: r, _, .cons _ (.cons _ (.cons _ t)), hb => exact absurd hb Bool.false_ne_true
    | [d1, d2], _, .cons (v := v1) h1 (.cons (v := v2) h2 .nil), hb =>
      have hb' : (isNumD (-5) 5 d2 && !isNumD 0 0 d2) = true := hb
      rw [Bool.and_eq_true] at hb'
      cases h2 with
      | int i =>
        refine ⟨_, _, _, d1, i, rfl, a, rfl, h1, rfl, ?_⟩
        simp [isNumD] at hb'
        omega
      | _ => exact absurd hb'.1 Bool.false_ne_true
  | _ => exact absurd hb Bool.false_ne_true
section
variable {P : Program} {w : World} {K : PySem.W.Frag} {mg : Str → Option Value} {base : Heap} {fNum fLst fName fNames fBeam : Addr} {dNum dLst dName dNames dBeam : FuncData}
theorem scBeams : FnScope ["beams", "pair"] ["beams"] (defScope sBeams) := ⟨rfl, rfl, rfl, by decide +kernel, rfl, by decide +kernel, by decide +kernel⟩
theorem ok_beams {f : Addr} {fd : FuncData} (F : Fun K "_are_beams" "_are_beams" sBeams f fd) (T : TxtB K mg fNum fLst fName fNames fBeam) (GL : FnOk P w K mg base CX0 1 fLst dLst ["thing"] spLst) (bL : Binds K dLst ["thing"] []) (GN : FnOk P w K mg base CX0 2 fNames dNames ["things"] spNames) (bN : Binds K dNames ["things"] [])
    (GB : FnOk P w K mg base CX0 2 fBeam dBeam ["pair"] spBeam) (bB : Binds K dBeam ["pair"] []) : FnOk P w K mg base CX0 3 f fd ["beams"] spBeams := by
  refine F.ok scBeams (fun vs H Q E h => ?_) (fun cdv A outer s H vs Q E hr h => ?_)
  · obtain ⟨_, _, rfl, _⟩ := h; rfl
  · obtain ⟨x, d, rfl, hd, hsh, k⟩ := h
    refine ⟨_, pss_cons (ps_if (PW.pt (pw_or (pt_not (pt_val (pe_call GL (hr.mono (by decide)) rfl T.gLst T.kLst bL .nil pass0 (pa_cons (pv 0) pa_nil)))) (pw_or1 (pt_not (pt_chain op_le op_le pe_int (pe_callB call_len_seq (by rfl) T.t.nlen PySem.boot_len (pa_cons (pv 0) pa_nil)) pe_int)))))
        (pss_one (ps_ret pe_bl)) pss_nil)
      (pss_one (ps_ret (pe_and (pe_callB (cr_all rfl) (by rfl) T.t.nall (by decide +kernel) (pa_cons
        (pe_lc (own := [("pair", 1)]) (g := gName 1) (tt := tYes) rfl scBeams.nd (pi_seqV 0) (blkOk_by (own := [("pair", 1)]) (N := ["beams", "pair"]) (sc := defScope sBeams) (by decide +kernel))
          (fun _ _ _ _ _ => pg_name (i := 1) scBeams.nd rfl (Or.inl rfl)) (fun _ _ _ _ _ => pts_nil) (fun _ _ _ _ _ => pe_call GB hr rfl T.gBeam T.kBeam bB .nil pass0 (pa_cons (pv 1) pa_nil))) pa_nil))
        (pe_one (pe_call GN hr rfl T.gNames T.kNames bN .nil pass0 (pa_cons
          (pe_lc (own := [("pair", 1)]) (g := gName 1) (tt := tYes) rfl scBeams.nd (pi_seqV 0) (blkOk_by (own := [("pair", 1)]) (N := ["beams", "pair"]) (sc := defScope sBeams) (by decide +kernel))
            (fun _ _ _ _ _ => pg_name (i := 1) scBeams.nd rfl (Or.inl rfl)) (fun _ _ _ _ _ => pts_nil) (fun _ _ _ _ _ => pe_ix (r := rIxT K) ix_tup (pv 1) pe_int (fun _ _ => rfl))) pa_nil)))))), ?_⟩
    refine ⟨_, rfl, x, d, rfl, hd, fun H1 s1 => ⟨_, rfl, ?_⟩⟩
    cases e_ : seqOf d with
    | none =>
      refine iteT ?_
      have := k H1 s1
      unfold beamsD at this
      rw [e_] at this
      exact this
    | some ds =>
      obtain ⟨a, xs, rfl, hx, ha⟩ := Dx.sq hd e_
      have hl := hx.len
      have kk : ∀ H', Same H H' → Q (.bl (decide (1 ≤ ds.length) && decide (ds.length ≤ 3) && (ds.all beamD && namesD (ds.map fstD)))) H' := fun H' z => by
        have := k H' z
        unfold beamsD at this
        rw [e_] at this
        exact this
      refine iteF ?_
      refine ⟨_, rfl, a, xs, rfl, (sq_any ha).imp (fun q => s1.seq q) (fun q => sameT s1 q), _, _, rfl, rfl, _, rfl, ?_⟩
      by_cases c1 : 1 ≤ ds.length
      · rw [decide_eq_true (show (1 : Int) ≤ (xs.length : Int) by omega)]
        refine iteT ⟨_, _, rfl, rfl, _, rfl, ?_⟩
        by_cases c2 : ds.length ≤ 3
        · rw [decide_eq_true (show (xs.length : Int) ≤ 3 by omega)]
          refine iteF ?_
          rw [decide_eq_true c1, decide_eq_true c2] at kk
          obtain ⟨J, S, wk, hS⟩ := sq_walk (K := K) ha
          have hS1 := wk.stay s1 hS
          refine ⟨a, xs, J, S, rfl, wk, hS1, fun D hD => lc_wk wk (fun i H' => Same H1 H' ∧ H' D = some (.lst (((ds.take i).map beamD).map V.bl))) ⟨fun b o e => by rw [upd_ne (ne_of_none e hD)]; exact e, upd_same⟩ (fun i H' _ h' => wk.stay h'.1 hS1) ?_ ?_⟩
          · rintro i y H' hi ⟨sm, hDl⟩
            obtain ⟨e, he, hy⟩ := hx.get hi
            refine ⟨rfl, ?_⟩
            refine yes ?_
            refine ⟨_, rfl, y, e, rfl, (hy.same s1).same sm, fun H2 s2 => ⟨_, s2 _ _ hDl, by rw [List.length_map, List.length_map, List.length_take]; exact Nat.lt_of_lt_of_le (show min i ds.length < 101 by omega) (by decide), fun b o z => ?_, ?_⟩⟩
            · rw [upd_ne (ne_of_none z hD)]; exact s2 _ _ (sm _ _ z)
            · rw [upd_same, List.take_succ, he]
              simp
          · rintro H2 ⟨s2, hDl⟩
            rw [hl, List.take_length] at hDl
            refine ⟨D, _, rfl, SqL.of hDl, _, rfl, ?_⟩
            rw [all_take]
            cases c : ds.all beamD
            · refine iteF ?_
              have := kk H2 (s1.trans s2)
              rw [c] at this
              exact this
            · refine iteT ?_
              have s12 := s1.trans s2
              have hS2 := wk.stay s12 hS
              have pr : ∀ e ∈ ds, beamD e = true := List.all_eq_true.mp c
              refine ⟨a, xs, J, S, rfl, wk, hS2, fun D2 hD2 => lc_wk wk (fun i H' => Same H2 H' ∧ ∃ vs, H' D2 = some (.lst vs) ∧ DxAll H2 vs ((ds.take i).map fstD)) ⟨fun b o e => by rw [upd_ne (ne_of_none e hD2)]; exact e, [], upd_same, .nil⟩ (fun i H' _ h' => wk.stay h'.1 hS2) ?_ ?_⟩
              · rintro i y H' hi ⟨sm, vs, hv, hvd⟩
                obtain ⟨e, he, hy⟩ := hx.get hi
                obtain ⟨p, v1, v2, d1, st, rfl, hp, rfl, h1, rfl, _⟩ := Dx.pair (hy.same s12) (pr e (List.mem_of_getElem? he))
                refine ⟨rfl, ?_⟩
                refine yes ?_
                have hvl := hvd.len
                refine ⟨_, rfl, p, _, _, _, rfl, rfl, SqT.of (sm _ _ hp), rfl, _, hv, ?_, fun b o z => ?_, _, upd_same, ?_⟩
                · rw [hvl, List.length_map, List.length_take]; exact Nat.lt_of_lt_of_le (show min i ds.length < 101 by omega) (by decide)
                · rw [upd_ne (ne_of_none z hD2)]; exact sm _ _ z
                · rw [List.take_succ, he]
                  simp only [Option.toList_some, List.map_append, List.map_cons, List.map_nil]
                  exact hvd.snoc h1
              · rintro H3 ⟨s3, vs, hv, hvd⟩
                rw [hl, List.take_length] at hvd
                refine ⟨_, .list (ds.map fstD), _, rfl, .lst hv (hvd.same s3), rfl, by rw [List.length_map]; omega, fun e he => ?_, fun H4 s4 => ?_⟩
                · obtain ⟨z, hz, rfl⟩ := List.mem_map.mp he
                  exact hsh ds e_ z hz
                · have := kk H4 ((s12.trans s3).trans s4)
                  rw [c] at this
                  exact this
        · rw [decide_eq_false (show ¬ (xs.length : Int) ≤ 3 by omega)]
          refine iteT ?_
          have := kk H1 s1
          rw [decide_eq_false c2, Bool.and_false] at this
          exact this
      · rw [decide_eq_false (show ¬ (1 : Int) ≤ (xs.length : Int) by omega)]
        refine iteF ⟨_, rfl, ?_⟩
        refine iteT ?_
        have := kk H1 s1
        rw [decide_eq_false c1] at this
        exact this
end
end L2.K01
namespace L2.K01
open L2.Q.Lw (top meth)
open PySem PySem.Spec PyProof.Rows L2.Wb
/-- a *= b on ints -/
def ipM : TIp := fun x y H Q => ∃ i j, x = .int i ∧ y = .int j ∧ CMul i j ∧ Q (.int (i * j)) H
theorem ip_mul {X : Cx} : PIp X .Mult ipM := by
  intro pins s σ H x y v u Q I r1 r2 ⟨i, j, e1, e2, c, q⟩
  subst e1; subst e2
  obtain ⟨t, rfl⟩ := r1
  obtain ⟨t', rfl⟩ := r2
  exact imul_int ⟨.int _, H, I.tok _, ⟨_, rfl⟩, q⟩ c.ok
section
variable {P : Program} {w : World} {K : PySem.W.Frag} {mg : Str → Option Value} {base : Heap}
theorem scFew : FnScope ["beams", "lean", "many", "_"] ["beams", "lean"] (defScope sFew) := ⟨rfl, rfl, rfl, by decide +kernel, rfl, by decide +kernel, by decide +kernel⟩
theorem ok_few {f : Addr} {fd : FuncData} (F : Fun K "_few_leans" "_few_leans" sFew f fd) : FnOk P w K mg base CX0 1 f fd ["beams", "lean"] spFew := by
  refine F.ok scFew (fun vs H Q E h => ?_) (fun cdv A outer s H vs Q E hr h => ?_)
  · obtain ⟨_, _, _, _, rfl, _⟩ := h; rfl
  · obtain ⟨x, d, ds, lean, rfl, hd, e_, hlen, h0, h9, k⟩ := h
    refine ⟨_, pss_cons (ps_set (i := 2) scFew.nd rfl (Or.inl rfl) pe_int) (pss_cons (ps_for PassesOwn.never rfl (pi_seqV 0) (pg_name (i := 3) scFew.nd rfl (Or.inl rfl)) (pss_one (ps_aug (i := 2) scFew.nd rfl (Or.inl rfl) (pe_op op_add (pe_op op_mul pe_int (pv 1)) pe_int) ip_mul)))
      (pss_one (ps_ret (pe_cmpR op_le (pv 2) pe_int (nomark _))))), ?_⟩
    obtain ⟨a, xs, rfl, hx, ha⟩ := Dx.sq hd e_
    have hl := hx.len
    obtain ⟨J, S, wk, hS⟩ := sq_walk (K := K) ha
    refine ⟨a, xs, J, S, rfl, wk, hS, for_wk wk (fun i σ H' => H' = H ∧ ∃ z, σ = [some (.ref a), some (.int lean), some (.int ((2 * lean + 1) ^ i)), z]) ⟨rfl, none, by rw [Int.pow_zero]; rfl⟩ (fun i σ H' _ h => by rw [h.1]; exact hS) ?_ ?_⟩
    · rintro i y σ H' hi ⟨rfl, z, rfl⟩
      refine ⟨_, rfl, _, rfl, _, _, rfl, rfl, .inl ⟨by decide, by decide⟩, _, _, rfl, rfl, _, _, rfl, rfl, .inr ⟨by omega, by omega⟩, rfl, some y, ?_⟩
      rw [Int.pow_succ]
      rfl
    · rintro σ H' ⟨rfl, z, rfl⟩
      refine ⟨_, rfl, _, _, rfl, rfl, ?_⟩
      have := k _ (Same.refl _)
      rw [← hl] at this
      exact this
end
end L2.K01
namespace L2.K01
open L2.Q.Lw (top meth)
open PySem PySem.Spec PyProof.Rows L2.Wb
abbrev sInit : Stmt := (meth 42 0)
def fewD (dB dL : PyData) : Bool := match seqOf dB, dL with
  | some ds, .int l => fewN ds.length l
  | _, _ => false
def yardD (dT dB dM dL : PyData) : Bool := thingsD dT && (beamsD dB && (isNumD 1 100 dM && (isNumD 0 9 dL && fewD dB dL)))
def yf (ta tb : Addr) (m l : Int) : List (Str × V) := putF "_lean" (.int l) (putF "_most" (.int m) (putF "_beams" (.ref tb) (putF "_things" (.ref ta) [])))
def ShortS (d : PyData) : Prop := ∀ ds, seqOf d = some ds → ∀ e ∈ ds, ShortD e
def ShortB (d : PyData) : Prop := ∀ ds, seqOf d = some ds → ∀ e ∈ ds, ShortD (fstD e)
structure TxtY (K : PySem.W.Frag) (mg : Str → Option Value) (fTh fBs fNum fFew CY CN : Addr) : Prop where
  t : Txt K mg
  gTh : mg "_are_things" = some (.ref fTh)
  kTh : PySem.W.keepIn K (.ref fTh) = true
  gBs : mg "_are_beams" = some (.ref fBs)
  kBs : PySem.W.keepIn K (.ref fBs) = true
  gNum : mg "is_number" = some (.ref fNum)
  kNum : PySem.W.keepIn K (.ref fNum) = true
  gFew : mg "_few_leans" = some (.ref fFew)
  kFew : PySem.W.keepIn K (.ref fFew) = true
  gNY : mg "NoYard" = some (.ref CN)
  kNY : PySem.W.keepIn K (.ref CN) = true
  qNY : PySem.W.excIn K CN [.type "ValueError", .type "Exception", .type "BaseException", .type "object"] "ValueError.__new__" = true
  eNY : PySem.W.subIn K (.ref CN) (.type "BaseException") = some true
  tNY : PySem.W.typeIn K (.ref CN) = some (.type "type")
  clY : Cls K CY
  nT : NoAttr K CY "_things"
  nB : NoAttr K CY "_beams"
  nM : NoAttr K CY "_most"
  nL : NoAttr K CY "_lean"
section
variable {P : Program} {w : World} {K : PySem.W.Frag} {mg : Str → Option Value} {base : Heap} {fTh fBs fNum fFew CY CN : Addr} {dTh dBs dNum dFew : FuncData}
/-- tuple(x), list(x) of data -/
theorem putF_len (f : Str) (v : V) : ∀ fs : List (Str × V), (putF f v fs).length ≤ fs.length + 1
  | [] => Nat.le_refl _
  | (g, u) :: r => by
    show (if g = f then (g, v) :: r else (g, u) :: putF f v r).length ≤ _
    split
    · exact Nat.le_succ _
    · exact Nat.succ_le_succ (putF_len f v r)
theorem putF_lt {f : Str} {v : V} {fs : List (Str × V)} {n m : Nat} (h : fs.length ≤ n) (e : n + 1 ≤ m) : (putF f v fs).length ≤ m := Nat.le_trans (putF_len f v fs) (Nat.le_trans (Nat.succ_le_succ h) e)
theorem beamsD_seq {d : PyData} (h : beamsD d = true) : ∃ ds, seqOf d = some ds ∧ 1 ≤ ds.length ∧ ds.length ≤ 3 ∧ ds.all beamD = true ∧ namesD (ds.map fstD) = true := by
  unfold beamsD at h
  cases e : seqOf d with
  | none => rw [e] at h; cases h
  | some ds =>
    rw [e] at h
    simp only [Bool.and_eq_true, decide_eq_true_eq] at h
    exact ⟨ds, rfl, h.1.1, h.1.2, h.2.1, h.2.2⟩
theorem isNumD_int {d : PyData} {lo hi : Int} (h : isNumD lo hi d = true) : ∃ i, d = .int i ∧ lo ≤ i ∧ i ≤ hi := by
  cases d with
  | int i =>
    unfold isNumD at h
    simp only [Bool.and_eq_true, decide_eq_true_eq] at h
    exact ⟨i, rfl, h.1, h.2⟩
  | _ => cases h
theorem scInit : FnScope ["self", "things", "beams", "most", "lean"] ["self", "things", "beams", "most", "lean"] (defScope sInit) := ⟨rfl, rfl, rfl, by decide +kernel, rfl, by decide +kernel, by decide +kernel⟩
def rTupL : List V → Hp → VK → Prop := fun xs H Q => ∃ (a : Addr) (vs : List V), xs = [.ref a] ∧ H a = some (.lst vs) ∧ ∀ t, H t = none → Q (.ref t) (upd H t (.tup vs))
theorem call_tupL {X : Cx} : CallR X (.type "tuple") rTupL := by
  intro pins s σ H xs us Q I r ⟨a, vs, ex, h, k⟩
  subst ex
  exact call_tuple_of pins s σ H _ us Q I r ⟨_, _, rfl, .inl ⟨SqL.of h, fun l hl => k l hl⟩⟩
def spInitL (CY : Addr) : Sp := fun vs H Q E => ∃ (p dx la lb : Addr) (xT xB : List V) (dT dB : List PyData) (m l : Int), vs = [.ref p, .ref la, .ref lb, .int m, .int l] ∧ H p = some (.ins CY dx []) ∧ H la = some (.lst xT) ∧ H lb = some (.lst xB) ∧ DxAll H xT dT ∧ DxAll H xB dB ∧ ShortS (.list dT) ∧ ShortB (.list dB) ∧
  yardD (.list dT) (.list dB) (.int m) (.int l) = true ∧ ∀ H' ta tb, (∀ b o, b ≠ p → H b = some o → H' b = some o) → H' p = some (.ins CY dx (yf ta tb m l)) → H' ta = some (.tup xT) → H' tb = some (.tup xB) → H ta = none → H tb = none → Q .non H'
theorem ok_initL {f : Addr} {fd : FuncData} (F : Fun K "__init__" "Yard.__init__" sInit f fd) (T : TxtY K mg fTh fBs fNum fFew CY CN) (GT : FnOk P w K mg base CX0 3 fTh dTh ["things"] spThings) (bT : Binds K dTh ["things"] []) (GB : FnOk P w K mg base CX0 3 fBs dBs ["beams"] spBeams) (bB : Binds K dBs ["beams"] [])
    (GN : FnOk P w K mg base CX0 1 fNum dNum ["thing", "first", "last"] spNum) (bN : Binds K dNum ["thing", "first", "last"] []) (GF : FnOk P w K mg base CX0 1 fFew dFew ["beams", "lean"] spFew) (bF : Binds K dFew ["beams", "lean"] []) :
    FnOk P w K mg base (L2.CX P w) 4 f fd ["self", "things", "beams", "most", "lean"] (spInitL CY) := by
  refine F.okX scInit (fun vs H Q E h => ?_) (fun cdv A outer s H vs Q E hr h => ?_)
  · obtain ⟨_, _, _, _, _, _, _, _, _, _, rfl, _⟩ := h; rfl
  · obtain ⟨p, dx, la, lb, xT, xB, dT', dB', m, l, rfl, hp, hla, hlb, hxT, hxB, sT, sB, hyes, kY⟩ := h
    have hT : Dx H (.ref la) (.list dT') := .lst hla hxT
    have hB : Dx H (.ref lb) (.list dB') := .lst hlb hxB
    have hM : Dx H (.int m) (.int m) := .int m
    have hL : Dx H (.int l) (.int l) := .int l
    have kN : yardD (.list dT') (.list dB') (.int m) (.int l) = false → ∀ H', Same H H' → E (.ref CN) none H' := fun z => by rw [hyes] at z; cases z
    generalize hdT : PyData.list dT' = dT at *
    generalize hdB : PyData.list dB' = dB at *
    generalize hdM : PyData.int m = dM at *
    generalize hdL : PyData.int l = dL at *
    have hvT : V.ref la = V.ref la := rfl
    refine ⟨_, pss_cons (ps_if (pt_not (pt_val (pe_call GT hr rfl T.gTh T.kTh bT .nil pass0 (pa_cons (pv 1) pa_nil)))) (pss_one (ps_raise rfl (takes_of rfl rfl rfl rfl) (pmk_own PySem.F.excBase_ValueError T.qNY T.gNY T.kNY (raises_own T.eNY T.tNY) rfl))) pss_nil)
      (pss_cons (ps_if (pt_not (pt_val (pe_call GB hr rfl T.gBs T.kBs bB .nil pass0 (pa_cons (pv 2) pa_nil)))) (pss_one (ps_raise rfl (takes_of rfl rfl rfl rfl) (pmk_own PySem.F.excBase_ValueError T.qNY T.gNY T.kNY (raises_own T.eNY T.tNY) rfl))) pss_nil)
      (pss_cons (ps_if (pt_not (pt_val (pe_call GN (hr.mono (by decide)) rfl T.gNum T.kNum bN .nil pass0 (pa_cons (pv 3) (pa_cons pe_int (pa_cons pe_int pa_nil)))))) (pss_one (ps_raise rfl (takes_of rfl rfl rfl rfl) (pmk_own PySem.F.excBase_ValueError T.qNY T.gNY T.kNY (raises_own T.eNY T.tNY) rfl))) pss_nil)
      (pss_cons (ps_if (pt_not (pt_val (pe_call GN (hr.mono (by decide)) rfl T.gNum T.kNum bN .nil pass0 (pa_cons (pv 4) (pa_cons pe_int (pa_cons pe_int pa_nil)))))) (pss_one (ps_raise rfl (takes_of rfl rfl rfl rfl) (pmk_own PySem.F.excBase_ValueError T.qNY T.gNY T.kNY (raises_own T.eNY T.tNY) rfl))) pss_nil)
      (pss_cons (ps_if (pt_not (pt_val (pe_call GF (hr.mono (by decide)) rfl T.gFew T.kFew bF .nil pass0 (pa_cons (pv 2) (pa_cons (pv 4) pa_nil))))) (pss_one (ps_raise rfl (takes_of rfl rfl rfl rfl) (pmk_own PySem.F.excBase_ValueError T.qNY T.gNY T.kNY (raises_own T.eNY T.tNY) rfl))) pss_nil)
      (pss_cons (ps_fld (pv 0) (pe_callTy call_tupL (by rfl) T.t.ntup (by decide +kernel) (pa_cons (pv 1) pa_nil)) rfl)
      (pss_cons (ps_fld (pv 0) (pe_callTy call_tupL (by rfl) T.t.ntup (by decide +kernel) (pa_cons (pv 2) pa_nil)) rfl)
      (pss_cons (ps_fld (pv 0) (pv 3) rfl)
      (pss_one (ps_fld (pv 0) (pv 4) rfl))))))))), ?_⟩
    refine ⟨_, rfl, _, dT, rfl, hT, sT, fun H1 s1 => ⟨_, rfl, ?_⟩⟩
    cases cT : thingsD dT
    · refine iteT ?_
      exact kN (by unfold yardD; rw [cT]; rfl) _ s1
    · refine iteF ?_
      refine ⟨_, rfl, _, dB, rfl, hB.same s1, sB, fun H2 s2 => ⟨_, rfl, ?_⟩⟩
      have s12 := s1.trans s2
      cases cB : beamsD dB
      · refine iteT ?_
        exact kN (by unfold yardD; rw [cT, cB]; rfl) _ s12
      · refine iteF ?_
        refine ⟨_, rfl, _, dM, _, _, rfl, hM.same s12, _, rfl, ?_⟩
        cases cM : isNumD 1 100 dM
        · refine iteT ?_
          exact kN (by unfold yardD; rw [cT, cB, cM]; rfl) _ s12
        · refine iteF ?_
          refine ⟨_, rfl, _, dL, _, _, rfl, hL.same s12, _, rfl, ?_⟩
          cases cL : isNumD 0 9 dL
          · refine iteT ?_
            exact kN (by unfold yardD; rw [cT, cB, cM, cL]; rfl) _ s12
          · refine iteF ?_
            obtain ⟨bs, eB, b1, b3, _⟩ := beamsD_seq cB
            subst hdL
            subst hdM
            obtain ⟨l', hl', l0, l9⟩ := isNumD_int cL
            cases hl'
            refine ⟨_, rfl, _, rfl, _, dB, bs, l, rfl, hB.same s12, eB, b3, l0, l9, fun H3 s3 => ⟨_, rfl, ?_⟩⟩
            have s13 := s12.trans s3
            have ef : fewD dB (.int l) = fewN bs.length l := by unfold fewD; rw [eB]
            cases cF : fewN bs.length l
            · refine iteT ?_
              exact kN (by unfold yardD; rw [cT, cB, cM, cL, ef, cF]; rfl) _ s13
            · refine iteF ?_
              refine ⟨_, rfl, la, xT, rfl, s13 _ _ hla, fun ta hta => ?_⟩
              have s14 := s13.trans (Same.new (o := .tup xT) hta)
              have hp4 := s14 _ _ hp
              have nta : ta ≠ p := fun z => by rw [z, s13 _ _ hp] at hta; cases hta
              refine ⟨_, rfl, p, CY, dx, [], rfl, hp4, T.clY, T.nT, (by show 0 < 1000; decide), ?_⟩
              have nlb : lb ≠ p := fun z => by rw [z, hp] at hlb; cases hlb
              refine ⟨_, rfl, lb, xB, rfl, by rw [upd_ne nlb]; exact s14 _ _ hlb, fun tb htb => ?_⟩
              have ntb : tb ≠ p := fun z => by rw [z, upd_same] at htb; cases htb
              have htb' : upd H3 ta (.tup xT) tb = none := by rw [upd_ne ntb] at htb; exact htb
              have ntt : tb ≠ ta := fun z => by rw [z, upd_same] at htb'; cases htb'
              refine ⟨_, rfl, p, CY, dx, _, rfl, by rw [upd_ne ntb.symm]; exact upd_same, T.clY, T.nB, (by show 1 < 1000; decide), ?_⟩
              have l0 : ([] : List (Str × V)).length ≤ 0 := Nat.le_refl _
              have l1 : (putF "_things" (V.ref ta) []).length ≤ 1 := putF_lt l0 (by decide)
              have l2 : (putF "_beams" (V.ref tb) (putF "_things" (V.ref ta) [])).length ≤ 2 := putF_lt l1 (by decide)
              refine ⟨_, rfl, _, rfl, p, CY, dx, _, rfl, upd_same, T.clY, T.nM, Nat.lt_of_le_of_lt l2 (by decide), ?_⟩
              refine ⟨_, rfl, _, rfl, p, CY, dx, _, rfl, upd_same, T.clY, T.nL, Nat.lt_of_le_of_lt (putF_lt l2 (Nat.le_refl _)) (by decide), ?_⟩
              refine kY _ ta tb (fun b o hb z => ?_) upd_same ?_ ?_ (s13.free hta) (s14.free htb')
              · rw [upd_ne hb, upd_ne hb, upd_ne hb, upd_ne (ne_of_none (by rw [upd_ne hb]; exact s14 _ _ z) htb), upd_ne hb]
                exact s14 _ _ z
              · rw [upd_ne nta, upd_ne nta, upd_ne nta, upd_ne ntt.symm, upd_ne nta, upd_same]
              · rw [upd_ne ntb, upd_ne ntb, upd_ne ntb, upd_same]
end
end L2.K01
set_option Elab.async false
set_option linter.all false
set_option maxRecDepth 100000
set_option maxHeartbeats 4000000
namespace L2.Q.Lw
open PySem PySem.Spec PyProof.Rows L2 L2.Wb L2.Q L2.Q.Wbm
theorem rpa_strs {C : Cn} {N : Addr → Prop} {H : Hp} {vs : List V} {ns : List Str} (r : RpA C (cut N H) vs (ns.map D.str)) : vs = ns.map V.str := strs_rp r (strsOf_map ns)
theorem dxs_strs {H : Hp} : ∀ ns : List Str, DxAll H (ns.map V.str) (ns.map PyData.str)
  | [] => .nil
  | x :: ns => .cons (.str x) (dxs_strs ns)
theorem dxs_bms {C : Cn} {N : Addr → Prop} {H H' : Hp} (hH : ∀ a xs, H a = some (.tup xs) → H' a = some (.tup xs)) : ∀ {vs : List V} {bs : List (Str × Int)}, RpA C (cut N H) vs (bs.map bmD) → DxAll H' vs (bs.map fun p => PyData.tuple [.str p.1, .int p.2])
  | _, [], .nil => .nil
  | _, p :: bs, .cons a b => by
    refine .cons ?_ (dxs_bms hH b)
    obtain ⟨c, xs, rfl, h1, r⟩ := Rp.tupE (show Rp C (cut N H) _ (.tup [.str p.1, .int p.2]) from a)
    obtain ⟨v, v', rfl, r1, r2⟩ := r.two
    cases r1
    cases r2
    exact .tup (hH _ _ h1) (.cons (.str _) (.cons (.int _) .nil))
theorem yard_ok {r : Wbm.Row} (ok : rowOk r) : L2.K01.yardD (.list (r.names.map PyData.str)) (.list (r.beams.map fun p => PyData.tuple [.str p.1, .int p.2])) (.int r.most) (.int r.lean) = true := by
  have h8 := ok.ok.n8
  have h3 := ok.ok.b3
  have n1 := ok.n1
  have b1 := ok.b1
  have names : ∀ ns : List Str, (∀ x ∈ ns, isNameS x = true) → ns.Nodup → L2.K01.namesD (ns.map PyData.str) = true := fun ns h1 h2 => by
    unfold L2.K01.namesD
    rw [Bool.and_eq_true]
    refine ⟨List.all_eq_true.mpr fun d hd => ?_, decide_eq_true ?_⟩
    · obtain ⟨x, hx, rfl⟩ := List.mem_map.mp hd
      exact h1 x hx
    · have e : (ns.map PyData.str).map L2.K01.strOf = ns := by rw [List.map_map]; exact List.map_id _
      rw [e]; exact h2
  unfold L2.K01.yardD
  simp only [Bool.and_eq_true]
  refine ⟨?_, ?_, ?_, ?_, ?_⟩
  · unfold L2.K01.thingsD
    show (decide (1 ≤ (r.names.map PyData.str).length) && _ && _) = true
    simp only [Bool.and_eq_true, decide_eq_true_eq]
    exact ⟨⟨by rw [List.length_map]; omega, by rw [List.length_map]; omega⟩, names _ ok.nm ok.ok.nn⟩
  · unfold L2.K01.beamsD
    show (decide (1 ≤ (r.beams.map fun p => PyData.tuple [.str p.1, .int p.2]).length) && _ && (_ && _)) = true
    simp only [Bool.and_eq_true, decide_eq_true_eq]
    refine ⟨⟨by rw [List.length_map]; omega, by rw [List.length_map]; omega⟩, List.all_eq_true.mpr fun d hd => ?_, ?_⟩
    · obtain ⟨p, hp, rfl⟩ := List.mem_map.mp hd
      obtain ⟨_, x1, x2, x3⟩ := ok.bm p hp
      show L2.K01.beamD (.tuple [.str p.1, .int p.2]) = true
      simp [L2.K01.beamD, L2.K01.isNumD, PyData.eqv, x1, x2, x3]
      omega
    · have e : (r.beams.map fun p => PyData.tuple [.str p.1, .int p.2]).map L2.K01.fstD = (r.beams.map (·.1)).map PyData.str := by rw [List.map_map, List.map_map]; rfl
      rw [e]
      refine names _ (fun x hx => ?_) ok.ok.bn
      obtain ⟨p, hp, rfl⟩ := List.mem_map.mp hx
      exact (ok.bm p hp).1
  · have := ok.m1; have := ok.m2
    simp [L2.K01.isNumD]; omega
  · have := ok.l1; have := ok.l2
    simp [L2.K01.isNumD]; omega
  · have := ok.few
    unfold L2.K01.fewD
    show L2.K01.fewN (r.beams.map fun p => PyData.tuple [.str p.1, .int p.2]).length r.lean = true
    rw [List.length_map]
    exact decide_eq_true ok.few
abbrev kws2 : List (Str × V) := [("most", .int 20), ("lean", .int 3)]
abbrev p5 : List Str := ["self", "things", "beams", "most", "lean"]
theorem yard_bA {K : PySem.W.Frag} {f : Addr} {fd : FuncData} (F : FunD K "__init__" "Yard.__init__" (defArgs L2.K01.sInit) (defBody L2.K01.sInit) (defScope L2.K01.sInit) [] kws2 f fd) : ∃ g : List Value → List Value → List Value, KBn K fd p5 3 ["most", "lean"] g (fun vs zs => vs ++ zs) := by
  obtain ⟨mv, h⟩ := F.kbinds0 (ps := p5) 3 ["most", "lean"] [] (fun us mv ws => us ++ ws) (by simp) (by simp) (fun r1 _ r3 => r1.append r3) fun D doc pm an cdv ct us mv ws h1 h2 h3 => by
    match us, mv, ws, h1, h2, h3 with
    | [_, _, _], [], [_, _], _, _, _ => rfl
  exact ⟨_, h⟩
def gMakeY (ga gk : GA) : GE := fun e Q => ga e fun ds e1 => gk e1 fun es e2 => ∃ r : Wbm.Row, ds = [.lst (r.names.map D.str), .lst (r.beams.map bmD)] ∧ es = [.int r.most, .int r.lean] ∧ rowOk r ∧ Q (yD r) false e2
theorem yfk (ta tb : Addr) (m l : Int) : (L2.K01.yf ta tb m l).map (·.1) = (["_things", "_beams", "_most", "_lean"] : List Str) := rfl
section
variable {Θ : Th} {X : Cx} {pos : Pos} {k : Nat} {f : Addr} {fd : FuncData} {g : List Value → List Value → List Value} {a b c d : Expr} {p p1 p2 : Pos} {ga gk : GA}
theorem q_makeY (mk : Mk X.K (Θ.C.cA "Yard") f) (ok : FnOk X.prog X.w X.K X.mg X.base (L2.CX X.prog X.w) k f fd ["self", "things", "beams", "most", "lean"] (L2.K01.spInitL (Θ.C.cA "Yard"))) (room : Room (k + 1) X.A) (gl : Gl X "Yard") (at_ : X.mg "Yard" = some (.ref (Θ.C.cA "Yard")))
    (bn : KBn X.K fd ["self", "things", "beams", "most", "lean"] 3 ["most", "lean"] g (fun vs zs => vs ++ zs)) (pa : PA X [a, b] (tOfA Θ ga)) (pk : PK X [⟨some "most", c, p1⟩, ⟨some "lean", d, p2⟩] (tOfA Θ gk))
    (h1 : (backToKw pos (keywordEach [⟨some "most", c, p1⟩, ⟨some "lean", d, p2⟩] X.env)).all (·.1.isSome) = true := by rfl) (h2 : (backToKw pos (keywordEach [⟨some "most", c, p1⟩, ⟨some "lean", d, p2⟩] X.env)).filterMap (·.1) = (["most", "lean"] : List Str) := by rfl)
    (h4 : starEach [a, b] X.env = (false, eval a X.env) :: starEach [b] X.env := by rfl) (h5 : ((backTo pos (starEach [a, b] X.env)).any (·.1) || (backToKw pos (keywordEach [⟨some "most", c, p1⟩, ⟨some "lean", d, p2⟩] X.env)).any (·.1.isNone)) = false := by rfl) :
    PE X (.Call (.Name "Yard" p) [a, b] [⟨some "most", c, p1⟩, ⟨some "lean", d, p2⟩] pos) (tOf Θ (gMakeY ga gk)) :=
  pe_conv (pe_makeS (n := 2) (ks := ["most", "lean"]) (E := fun _ => E0) mk ok room gl at_ bn (fun σ pins H s e s' I c => passE0 pins σ H s e s' I c) pa pk h1 h2 (by decide) h4 h5) fun σ H Q ⟨e, Qp, E, h, kq⟩ => by
    refine ⟨e, _, E, h, fun vs ds H1 e1 l1 E1 r1 q1 => ⟨e1, _, E1, q1, fun zs es H2 e2 l2 E2 r2 ⟨r, hds, hes, rok, hq⟩ => ?_⟩⟩
    subst hds hes
    have r1' := r1.le l2
    obtain ⟨vT, vB, rfl, rT, rB⟩ := r1'.two
    obtain ⟨vM, vL, rfl, rM, rL⟩ := r2.two
    cases rM
    cases rL
    obtain ⟨la, xT, rfl, hla, rxT⟩ := rT.lstE
    obtain ⟨lb, xB, rfl, hlb, rxB⟩ := rB.lstE
    have exT := rpa_strs rxT
    refine ⟨rfl, rfl, fun o od ho hod ne => ?_⟩
    have keep : ∀ b u, H2 b = some u → (upd (upd H2 od (.own o)) o (.ins (Θ.C.cA "Yard") od [])) b = some u := fun b u z => by
      rw [upd_ne (ne_of_none z ho), upd_ne (ne_of_none z hod)]; exact z
    refine ⟨o, od, la, lb, xT, xB, r.names.map PyData.str, r.beams.map fun p => PyData.tuple [.str p.1, .int p.2], r.most, r.lean, rfl, upd_same, keep _ _ hla, keep _ _ hlb, by rw [exT]; exact dxs_strs _, dxs_bms (fun a xs z => keep _ _ z) rxB, ?_, ?_, yard_ok rok, ?_⟩
    · intro ds hds d hd
      cases hds
      obtain ⟨x, hx, rfl⟩ := List.mem_map.mp hd
      have := rok.nm x hx
      unfold isNameS at this
      simp only [Bool.and_eq_true, decide_eq_true_eq] at this
      show x.length ≤ 1000
      omega
    · intro ds hds d hd
      cases hds
      obtain ⟨p, hp, rfl⟩ := List.mem_map.mp hd
      have := (rok.bm p hp).1
      unfold isNameS at this
      simp only [Bool.and_eq_true, decide_eq_true_eq] at this
      show p.1.length ≤ 1000
      omega
    · intro H' ta tb kp hp hta htb nta ntb
      refine ⟨rfl, ?_⟩
      have nto : ta ≠ o := fun z => by rw [z, upd_same] at nta; cases nta
      have ntd : ta ≠ od := fun z => by rw [z, upd_ne ne, upd_same] at nta; cases nta
      have nbo : tb ≠ o := fun z => by rw [z, upd_same] at ntb; cases ntb
      have nbd : tb ≠ od := fun z => by rw [z, upd_ne ne, upd_same] at ntb; cases ntb
      rw [upd_ne nto, upd_ne ntd] at nta
      rw [upd_ne nbo, upd_ne nbd] at ntb
      have sm : Same H2 H' := fun b u z => kp b u (ne_of_none z ho) (keep b u z)
      obtain ⟨E', le⟩ := E2.same sm
      have no : ¬ Mm Θ XO σ e2.sl o := E2.newM ho fun z => z
      have na : ¬ Mm Θ XO σ e2.sl ta := E2.newM nta fun z => z
      have nb : ¬ Mm Θ XO σ e2.sl tb := E2.newM ntb fun z => z
      refine kq _ (yD r) false _ e2 (show _ ∧ _ ∧ _ from ⟨(l1.trans l2).trans le, E', ?_⟩) hq
      refine .ins (dx := od) (fs := L2.K01.yf ta tb r.most r.lean) (cutAt no hp) (yfk _ _ _ _) ?_
      exact .cons (.tup (cutAt na hta) (rxT.le le)) (.cons (.tup (cutAt nb htb) (rxB.le le)) (.cons (.int _) (.cons (.int _) .nil)))
end
end L2.Q.Lw
set_option Elab.async false
set_option linter.all false
set_option maxRecDepth 100000
set_option maxHeartbeats 4000000
namespace L2.Q
open PySem PySem.Spec PyProof.Rows L2 L2.Wb
section
variable {Θ : Th} {X : Cx} {pos : Pos}
def mulSF : F2 := fun x y k => match x, y with
  | .str a, .int n => PySem.MulOk a n ∧ k (.str (PySem.Txt.mul a n)) false
  | _, _ => False
theorem op_mulS : OpR X (binaryOp .Mult) (fun x y H Q => ∃ a n, x = .str a ∧ y = .int n ∧ PySem.MulOk a n ∧ Q (.str (PySem.Txt.mul a n)) H) := by
  intro pins s σ H x y v u Q I rx ry h
  obtain ⟨i, j, rfl, rfl, hz, q⟩ := h
  obtain ⟨t, rfl⟩ := rx
  obtain ⟨t', rfl⟩ := ry
  exact PySem.SB.mul hz (fun t' tk => ⟨.str (PySem.Txt.mul i j), H, I.tok _, ⟨_, rfl⟩, q⟩)
theorem oq_mulS : OpQ X Θ (binaryOp .Mult) mulSF := by
  refine ⟨_, op_mulS, fun σ H e v w x y k Q E rx ry h K => ?_⟩
  match x, y, h with
  | .str a, .int n, ⟨hl, h⟩ =>
    rw [rx.strE, ry.intE]
    exact ⟨a, n, rfl, rfl, hl, K _ _ _ _ (Res.mk E (.str _)) h⟩
end
section
variable {κ : Type} [DecidableEq κ]
def delK (ks : List κ) (x : κ) : List κ := ks.filter fun k => decide (k ≠ x)
def delD : List κ → List D → κ → List D
  | k :: ks, d :: ds, x => if k = x then delD ks ds x else d :: delD ks ds x
  | _, _, _ => []
theorem drop_rp {C : Cn} {H : Hp} {x : κ} : ∀ {kvs : List (κ × V)} {ds : List D}, RpA C H (kvs.map (·.2)) ds → (dropK kvs x).map (·.1) = delK (kvs.map (·.1)) x ∧ RpA C H ((dropK kvs x).map (·.2)) (delD (kvs.map (·.1)) ds x)
  | [], ds, h => ⟨rfl, by cases h; exact .nil⟩
  | p :: kvs, ds, h => by
    cases h with
    | cons h1 h2 =>
      obtain ⟨a, b⟩ := drop_rp (x := x) h2
      unfold dropK delK at a ⊢
      by_cases c : p.1 = x
      · refine ⟨?_, ?_⟩
        · rw [List.filter_cons_of_neg (by simp [c]), List.map_cons, List.filter_cons_of_neg (by simp [c])]; exact a
        · rw [List.filter_cons_of_neg (by simp [c]), List.map_cons]
          show RpA C H _ (if p.1 = x then _ else _)
          rw [if_pos c]; exact b
      · refine ⟨?_, ?_⟩
        · rw [List.filter_cons_of_pos (by simp [c]), List.map_cons, List.map_cons, List.filter_cons_of_pos (by simp [c]), a]
        · rw [List.filter_cons_of_pos (by simp [c]), List.map_cons, List.map_cons]
          show RpA C H _ (if p.1 = x then _ else _)
          rw [if_neg c]; exact .cons h1 b
end
section
variable {Θ : Th} {X : Cx} {pos : Pos}
def gDpop (i : Nat) (g : GE) : GE := fun e Q => (∃ ks ds, getS e.sl i = some (.dct ks ds, true)) ∧ g e fun y _ e1 => ∃ ks ds k d, getS e1.sl i = some (.dct ks ds, true) ∧ keyOf y = some k ∧ getK ks ds k = some d ∧ Q d false (e1.set i (.dct (delK ks k) (delD ks ds k)) true)
theorem q_dpop (i : Nat) {x : Str} {a : Expr} {g : GE} {p apos cpos : Pos} (ha : PE X a (tOf Θ g)) (m : M1 X (.Name x p) "pop" apos a cpos) (hN : X.N[i]? = some x := by rfl) (hv : Vis X.env.scope x := by first | exact Or.inl rfl | exact Or.inr (Or.inl rfl) | exact Or.inr (Or.inr rfl)) (hd : (x == ("__debug__" : Str)) = false := by decide) (hcd : (x == ("__classdict__" : Str)) = false := by decide) :
    PE X (.Call (.Attribute (.Name x p) "pop" apos) [a] [] cpos) (tOf Θ (gDpop i g)) :=
  pe_conv (pe_dpop1 (pe_var hN hv hd hcd) ha m) fun σ H Q ⟨e, Qp, E, ⟨⟨ks0, ds0, h0⟩, h⟩, k⟩ => by
    obtain ⟨a, h1, h2, h3, h4⟩ := E.ow i _ h0
    cases h4 with
    | dct g1 g2 g3 =>
      refine ⟨.ref a, h1, a, rfl, .inl ⟨_, .inl g1⟩, e, _, E, h, fun y' y fr H1 e1 R hq => ?_⟩
      obtain ⟨ks, ds, kk, d, q1, q2, q3, q4⟩ := hq
      obtain ⟨a', h1', _, _, h4'⟩ := R.er.ow i _ q1
      rw [h1] at h1'; cases h1'
      cases h4' with
      | dct g1' g2' g3' =>
        rename_i kvs
        obtain ⟨v, hv, rv⟩ := (val_rp g2' g3').1 d q3
        subst g2'
        obtain ⟨x1, x2⟩ := drop_rp (x := kk) g3'
        obtain ⟨E', le⟩ := R.er.mut (d' := .dct (delK (kvs.map (·.1)) kk) (delD (kvs.map (·.1)) ds kk)) (o := .dK (dropK kvs kk)) q1 h1 (.dct upd_same x1 x2)
        exact ⟨kvs, kk, v, g1', key_rp R.rp q2, hv, k _ _ false _ _ (Res.from R.le ⟨le, E', rv.le le⟩) q4⟩
end
end L2.Q
set_option Elab.async false
set_option linter.all false
set_option maxRecDepth 100000
set_option maxHeartbeats 4000000
namespace L2.Q.Wbm
open PySem PySem.Spec PyProof.Rows L2 L2.Wb L2.Q L2.Q.Lw
abbrev Kd : Type := List (Str × D)
def kD (ps : Kd) : D := .dct (ps.map fun p => Sum.inr p.1) (ps.map (·.2))
theorem kD_df (ks : List Str) (F : Str → Int) : dfD ks F = kD (ks.map fun x => (x, .int (F x))) := by
  unfold kD
  rw [List.map_map, List.map_map]; rfl
def kGet (ps : Kd) (x : Str) : Option D := (ps.find? fun p => decide (p.1 = x)).map (·.2)
theorem getK_kD : ∀ (ps : Kd) (x : Str), getK (ps.map fun p => (Sum.inr p.1 : Key)) (ps.map (·.2)) (.inr x) = kGet ps x
  | [], x => rfl
  | p :: ps, x => by
    show (if (Sum.inr p.1 : Key) = Sum.inr x then some p.2 else getK _ _ _) = _
    unfold kGet
    by_cases c : p.1 = x
    · rw [if_pos (by rw [c]), List.find?_cons_of_pos (by simp [c])]; rfl
    · rw [if_neg (fun z => c (Sum.inr.inj z)), List.find?_cons_of_neg (by simp [c]), getK_kD ps x]; rfl
def kPut (ps : Kd) (x : Str) (d : D) : Kd := if x ∈ ps.map (·.1) then ps.map fun p => if p.1 = x then (p.1, d) else p else ps ++ [(x, d)]
def kDel (ps : Kd) (x : Str) : Kd := ps.filter fun p => decide (p.1 ≠ x)
theorem setK_kD (x : Str) (d : D) : ∀ ps : Kd, setK (ps.map fun p => (Sum.inr p.1 : Key)) (ps.map (·.2)) (.inr x) d = (ps.map fun p => if p.1 = x then (p.1, d) else p).map (·.2)
  | [] => rfl
  | p :: ps => by
    show (if (Sum.inr p.1 : Key) = Sum.inr x then d else p.2) :: setK _ _ _ _ = _
    rw [setK_kD x d ps, List.map_cons, List.map_cons]
    by_cases c : p.1 = x
    · rw [if_pos (by rw [c]), if_pos c]
    · rw [if_neg (fun z => c (Sum.inr.inj z)), if_neg c]
theorem putI_kD {ps : Kd} {x : Str} {d : D} (hl : ps.length < 1000000) : putI (kD ps) (.str x) d = some (kD (kPut ps x d)) := by
  show (if (ps.map fun p => (Sum.inr p.1 : Key)).length < 1000000 then _ else none) = _
  rw [if_pos (by rw [List.length_map]; exact hl)]
  show some (D.dct (putD _ _ _ _).1 (putD _ _ _ _).2) = _
  unfold putD kPut kD
  by_cases c : x ∈ ps.map (·.1)
  · rw [if_pos (by obtain ⟨p, hp, e⟩ := List.mem_map.mp c; exact List.mem_map.mpr ⟨p, hp, by rw [e]⟩), if_pos c, setK_kD]
    have e : (ps.map fun p => if p.1 = x then (p.1, d) else p).map (fun p => (Sum.inr p.1 : Key)) = ps.map fun p => (Sum.inr p.1 : Key) := by
      rw [List.map_map]
      refine List.map_congr_left fun p _ => ?_
      show Sum.inr (if p.1 = x then (p.1, d) else p).1 = _
      split <;> rfl
    rw [e]
  · rw [if_neg (fun z => by obtain ⟨p, hp, e⟩ := List.mem_map.mp z; exact c (List.mem_map.mpr ⟨p, hp, Sum.inr.inj e⟩)), if_neg c, List.map_append, List.map_append]; rfl
theorem del_kD (x : Str) (ps : Kd) : D.dct (delK (ps.map fun p => (Sum.inr p.1 : Key)) (.inr x)) (delD (ps.map fun p => (Sum.inr p.1 : Key)) (ps.map (·.2)) (.inr x)) = kD (kDel ps x) := by
  unfold kD
  congr 1
  · unfold delK kDel
    rw [List.filter_map]
    congr 1
    refine List.filter_congr fun p _ => ?_
    by_cases c : p.1 = x <;> simp [c]
  · induction ps with
    | nil => rfl
    | cons p ps ih =>
      unfold kDel at ih ⊢
      show (if (Sum.inr p.1 : Key) = Sum.inr x then delD _ _ _ else p.2 :: delD _ _ _) = _
      by_cases c : p.1 = x
      · rw [if_pos (by rw [c]), List.filter_cons_of_neg (by simp [c])]; exact ih
      · rw [if_neg (fun z => c (Sum.inr.inj z)), List.filter_cons_of_pos (by simp [c]), ih]; rfl
theorem kPut_mem {ps : Kd} {x : Str} {d : D} {p : Str × D} (h : p ∈ kPut ps x d) : p ∈ ps ∨ p = (x, d) := by
  unfold kPut at h
  split at h
  · obtain ⟨q, hq, e⟩ := List.mem_map.mp h
    by_cases c : q.1 = x
    · rw [if_pos c, c] at e; exact .inr e.symm
    · rw [if_neg c] at e; rw [← e]; exact .inl hq
  · rcases List.mem_append.mp h with h | h
    · exact .inl h
    · exact .inr (List.mem_singleton.mp h)
theorem kPut_len {ps : Kd} {x : Str} {d : D} : (kPut ps x d).length ≤ ps.length + 1 := by
  unfold kPut
  split
  · rw [List.length_map]; omega
  · rw [List.length_append]; exact Nat.le_refl _
theorem kPut_new {ps : Kd} {x : Str} {d : D} (h : x ∉ ps.map (·.1)) : (kPut ps x d).length = ps.length + 1 := by
  unfold kPut
  rw [if_neg h, List.length_append]; rfl
theorem kGet_put {ps : Kd} {x : Str} {d : D} : kGet (kPut ps x d) x = some d := by
  unfold kPut kGet
  split
  · rename_i h
    induction ps with
    | nil => cases h
    | cons p ps ih =>
      rw [List.map_cons]
      by_cases c : p.1 = x
      · rw [if_pos c, List.find?_cons_of_pos (by simp [c])]; rfl
      · rw [if_neg c, List.find?_cons_of_neg (by simp [c])]
        refine ih ?_
        rcases List.mem_cons.mp h with z | z
        · exact absurd z.symm c
        · exact z
  · rename_i h
    rw [List.find?_append, List.find?_eq_none.mpr (fun p hp => by
      have : p.1 ≠ x := fun z => h (List.mem_map.mpr ⟨p, hp, z⟩)
      simp [this])]
    simp
theorem kGet_del {ps : Kd} {x : Str} : kGet (kDel ps x) x = none := by
  unfold kGet kDel
  rw [List.find?_eq_none.mpr fun p hp => by
    have := (List.mem_filter.mp hp).2
    simpa using this]
  rfl
theorem kGet_put_ne {ps : Kd} {x y : Str} {d : D} (h : y ≠ x) (hn : y ∉ ps.map (·.1)) : kGet (kPut ps y d) x = kGet ps x := by
  unfold kPut kGet
  rw [if_neg hn, List.find?_append]
  cases q : ps.find? fun p => decide (p.1 = x) with
  | some p => rfl
  | none => simp [h]
theorem kDel_lt {ps : Kd} {x : Str} (h : x ∈ ps.map (·.1)) : (kDel ps x).length < ps.length := by
  obtain ⟨p, hp, e⟩ := List.mem_map.mp h
  exact List.length_filter_lt_length_iff_exists.mpr ⟨p, hp, by simp [e]⟩
theorem kDel_mem {ps : Kd} {x : Str} {p : Str × D} (h : p ∈ kDel ps x) : p ∈ ps := (List.mem_filter.mp h).1
theorem dx_kD {ps : Kd} (h : ∀ p ∈ ps, (tyName p.2).isSome = true) : DX (kD ps) := ⟨rfl, fun _ _ z => (nomatch z), fun x v e => by
  have e2 : kGet ps x = some v := (getK_kD ps x).symm.trans e
  unfold kGet at e2
  obtain ⟨p, hp, rfl⟩ := Option.map_eq_some_iff.mp e2
  exact h p (List.mem_of_find?_eq_some hp)⟩
theorem bad_num {names : List Str} {lo hi : Int} {d : D} {x : Str} (hx : x ∈ names) (h : numXat lo hi d x = false) : areX names lo hi d = false := by
  unfold areX
  rw [List.all_eq_false.mpr ⟨x, hx, by rw [h]; exact Bool.false_ne_true⟩, Bool.and_false]
theorem bad_len {names : List Str} {lo hi : Int} {d : D} (h : dLen d names.length = false) : areX names lo hi d = false := by
  unfold areX
  rw [h]; rfl
theorem dLen_kD {ps : Kd} {m : Nat} (h : ps.length ≠ m) : dLen (kD ps) m = false := by
  show decide ((ps.map fun p => (Sum.inr p.1 : Key)).length = m) = false
  rw [List.length_map]
  exact decide_eq_false h
theorem num_none {lo hi : Int} {ps : Kd} {x : Str} (e : kGet ps x = none) : numXat lo hi (kD ps) x = false := by
  unfold numXat
  rw [show dVal (kD ps) x = kGet ps x from getK_kD ps x, e]
theorem num_some {lo hi : Int} {ps : Kd} {x : Str} {v : D} (e : kGet ps x = some v) (h : isNumX lo hi v = false) : numXat lo hi (kD ps) x = false := by
  unfold numXat
  rw [show dVal (kD ps) x = kGet ps x from getK_kD ps x, e]
  exact h
theorem sd_kD0 {w k : Nat} : ∀ {ps : Kd}, (∀ p ∈ ps, Sd 30 0 (.str p.1) ∧ Sd w k p.2) →
    pdA (ps.map (·.2)) = true ∧ PyData.showableKv (((ps.map fun p => (Sum.inr p.1 : Key)).map kP).zip (toPyA (ps.map (·.2)))) = true ∧ PyData.leavesShortKv 60 (((ps.map fun p => (Sum.inr p.1 : Key)).map kP).zip (toPyA (ps.map (·.2)))) = true ∧ PyData.weightKv (((ps.map fun p => (Sum.inr p.1 : Key)).map kP).zip (toPyA (ps.map (·.2)))) ≤ ps.length * (w + 32) ∧ PyData.depthKv (((ps.map fun p => (Sum.inr p.1 : Key)).map kP).zip (toPyA (ps.map (·.2)))) ≤ k
  | [], _ => ⟨rfl, rfl, rfl, Nat.zero_le _, Nat.zero_le _⟩
  | x :: r, h => by
    obtain ⟨p, a, b, c, e⟩ := sd_kD0 (ps := r) fun x hx => h x (List.mem_cons_of_mem _ hx)
    obtain ⟨hk, hd⟩ := h x List.mem_cons_self
    have k1 := hk.sh
    have k2 := hk.le
    have k3 : (PyData.str x.1).weight ≤ 30 := hk.wt
    refine ⟨?_, ?_, ?_, ?_, ?_⟩
    · show (pdD x.2 && pdA (r.map (·.2))) = true
      rw [hd.pd, p]; rfl
    · show ((PyData.str x.1).showable && (toPy x.2).showable && PyData.showableKv (((r.map fun p => (Sum.inr p.1 : Key)).map kP).zip (toPyA (r.map (·.2))))) = true
      rw [hd.sh, a, show (PyData.str x.1).showable = true from k1]; rfl
    · show ((PyData.str x.1).leavesShort 60 && (toPy x.2).leavesShort 60 && PyData.leavesShortKv 60 (((r.map fun p => (Sum.inr p.1 : Key)).map kP).zip (toPyA (r.map (·.2))))) = true
      rw [hd.le, b, show (PyData.str x.1).leavesShort 60 = true from k2]; rfl
    · show (PyData.str x.1).weight + (toPy x.2).weight + 2 + PyData.weightKv (((r.map fun p => (Sum.inr p.1 : Key)).map kP).zip (toPyA (r.map (·.2)))) ≤ (r.length + 1) * (w + 32)
      have := hd.wt
      rw [Nat.succ_mul]
      omega
    · show max (max (PyData.str x.1).depth (toPy x.2).depth) (PyData.depthKv (((r.map fun p => (Sum.inr p.1 : Key)).map kP).zip (toPyA (r.map (·.2))))) ≤ k
      exact Nat.max_le.mpr ⟨Nat.max_le.mpr ⟨Nat.zero_le _, hd.dp⟩, e⟩
theorem sd_kD {w k : Nat} (n : Nat) {ps : Kd} (h : ∀ p ∈ ps, Sd 30 0 (.str p.1) ∧ Sd w k p.2) (hn : ps.length ≤ n) : Sd (n * (w + 32)) (k + 1) (kD ps) := by
  obtain ⟨p, a, b, c, e⟩ := sd_kD0 h
  exact ⟨p, a, b, Nat.le_trans c (Nat.mul_le_mul_right _ hn), Nat.succ_le_succ e⟩
end L2.Q.Wbm
set_option Elab.async false
set_option linter.all false
set_option maxRecDepth 100000
set_option maxHeartbeats 4000000
namespace L2.Q.Lw
open PySem PySem.Spec PyProof.Rows L2 L2.Wb L2.Q L2.Q.Wbm
def p_law_word04 : BhT → Nat → (D → Bool → Nat → Prop) → Prop := fun Bh n R => Bh n (fun _ _ n' => R .non false n') fun c ks es n' => (c = "NoAsk" ∧ ks = [] ∧ es = [] ∧ R (.str "ask") false n') ∨ ∃ i : Int, c = "NoRow" ∧ ks = [("at" : Str)] ∧ es = [.int i] ∧ R (.tup [.str "row", .int i]) false n'
def p_law_spoilt04 : PSp := fun ds n R Y => ∃ (r : Wbm.Row) (p : D → Bool) (xs : List D), ds = [.st, .lst xs] ∧ rowOk r ∧ (p = isWgX r ∨ p = isRwX r) ∧ (∀ d ∈ xs, p d = true) ∧ xs.length ≤ 200 ∧ n ≤ 900000 ∧ ∀ t (i : Nat) n', n' ≤ n + 3 → Lg t → dueD p t = .int i → R (.tup [t, .int i]) false n'
def p_law_bent04 : PSp := fun ds n R Y => ∃ (r : Wbm.Row) (wt ln : Str → Int), ds = [.st, rowD r, wdD r.names wt (r.beams.map (·.1)) ln] ∧ rowOk r ∧ Wbm.okWd r r.names wt (r.beams.map (·.1)) ln ∧ n ≤ 800000 ∧ ∀ d n', n' ≤ n + 8 → Wbm.WX d → wdX r d = false → Sd 100000 20 d → R d false n'
theorem q9ok : PySem.MulOk ("q" : Str) 9 := by unfold PySem.MulOk; decide
theorem q9is : PySem.Txt.mul ("q" : Str) 9 = "qqqqqqqqq" := by decide
theorem q8ok : PySem.MulOk ("q" : Str) 8 := by unfold PySem.MulOk; decide
theorem q8is : PySem.Txt.mul ("q" : Str) 8 = "qqqqqqqq" := by decide
def oddL : List D := [.non, .tup [], .tup [.str "a"], .str "abcd", .int 5, .tup [.str "qqqqqqqqq", .non, .non], .tup [.str "qqqqqqqqq", .non, .non, .str "left"], .lst [.str "a"]]
theorem q9no {r : Wbm.Row} (ok : rowOk r) : inS (r.beams.map (·.1)) (.str "qqqqqqqqq") = false := by
  refine decide_eq_false fun h => ?_
  obtain ⟨p, hp, e⟩ := List.mem_map.mp h
  have := (name_low (ok.bm p hp).1).1
  rw [e] at this
  exact absurd this (by decide)
theorem odd_bad {r : Wbm.Row} (ok : rowOk r) {d : D} (h : d ∈ oddL) : isWgX r d = false ∧ isRwX r d = false ∧ Wbm.It d = true := by
  have q := q9no ok
  unfold oddL at h
  simp only [List.mem_cons, List.not_mem_nil, or_false] at h
  rcases h with rfl | rfl | rfl | rfl | rfl | rfl | rfl | rfl
  · exact ⟨rfl, rfl, rfl⟩
  · exact ⟨rfl, rfl, rfl⟩
  · exact ⟨rfl, rfl, rfl⟩
  · exact ⟨rfl, rfl, rfl⟩
  · exact ⟨rfl, rfl, rfl⟩
  · refine ⟨?_, rfl, rfl⟩
    show (inS _ _ && _) = false
    rw [q]; rfl
  · refine ⟨rfl, ?_, rfl⟩
    show ((inS _ _ && _) && _) = false
    rw [q]; rfl
  · exact ⟨rfl, rfl, rfl⟩
theorem no_list {d : D} (h : d ∈ [D.non, .int 5, .str "ab", .dct [] [], .bl true]) (p : D → Bool) : Lg d ∧ dueD p d = .int (0 : Nat) := by
  simp only [List.mem_cons, List.not_mem_nil, or_false] at h
  rcases h with rfl | rfl | rfl | rfl | rfl <;> exact ⟨⟨rfl, fun xs e => nomatch e⟩, rfl⟩
theorem due_spoilt {p : D → Bool} {xs : List D} {odd : D} {k : Nat} (hk : k ≤ xs.length) (hx : ∀ d ∈ xs, p d = true) (ho : p odd = false) : dueD p (.lst (xs.take k ++ [odd] ++ xs.drop k)) = .int k := by
  have hl : (xs.take k).length = k := by rw [List.length_take]; omega
  have e : badX p (xs.take k ++ [odd] ++ xs.drop k) = some k := by
    refine badX_at (d := odd) (fun j d hj hd => ?_) ?_ ho
    · rw [List.append_assoc, List.getElem?_append_left (by omega)] at hd
      exact hx d (List.mem_of_mem_take (List.mem_of_getElem? hd))
    · rw [List.append_assoc, List.getElem?_append_right (by omega), hl, Nat.sub_self]; rfl
  unfold dueD
  show (match badX p _ with | none => _ | some i => _) = _
  rw [e]
theorem lg_spoilt {xs : List D} {odd : D} {k : Nat} (hl : xs.length ≤ 200) (hx : ∀ d ∈ xs, Wbm.It d = true) (ho : Wbm.It odd = true) : Lg (.lst (xs.take k ++ [odd] ++ xs.drop k)) := ⟨rfl, fun ys e => by
  have e : ys = xs.take k ++ [odd] ++ xs.drop k := (Option.some.inj e).symm
  subst e
  refine ⟨by rw [List.length_append, List.length_append, List.length_take, List.length_drop]; show _ + 1 + _ ≤ _; omega, fun d hd => ?_⟩
  rcases List.mem_append.mp hd with hd | hd
  · rcases List.mem_append.mp hd with hd | hd
    · exact hx d (List.mem_of_mem_take hd)
    · rw [List.mem_singleton.mp hd]; exact ho
  · exact hx d (List.mem_of_mem_drop hd)⟩
theorem okT_it {es : List D} (h : ∀ e ∈ es, El e = true) : Wbm.It (.tup es) = true := List.all_eq_true.mpr h
theorem el_pan (p : Option Str) : El (panD p) = true := by cases p <;> rfl
theorem okEl_w0 (x : Wg) : ∀ e ∈ [D.str x.b, panD x.l, panD x.q], El e = true := fun e he => by
  simp only [List.mem_cons, List.not_mem_nil, or_false] at he
  rcases he with rfl | rfl | rfl
  · rfl
  · exact el_pan _
  · exact el_pan _
theorem okEl_r0 (x : Wg × Str) : ∀ e ∈ [D.str x.1.b, panD x.1.l, panD x.1.q, D.str x.2], El e = true := fun e he => by
  simp only [List.mem_cons, List.not_mem_nil, or_false] at he
  rcases he with rfl | rfl | rfl | rfl
  · rfl
  · exact el_pan _
  · exact el_pan _
  · rfl
/-- a dict that the law makes -/
structure OkKd (ps : Kd) : Prop where
  len : ps.length ≤ 9
  it : ∀ p ∈ ps, Sd 30 0 (.str p.1) ∧ Sd 1000 3 p.2 ∧ (tyName p.2).isSome = true
theorem OkKd.dx {ps : Kd} (h : OkKd ps) : DX (kD ps) := dx_kD fun p hp => (h.it p hp).2.2
theorem OkKd.sd {ps : Kd} (h : OkKd ps) : Sd 9288 4 (kD ps) := sd_kD 9 (fun p hp => ⟨(h.it p hp).1, (h.it p hp).2.1⟩) h.len
theorem sd_int2 {i : Int} (h : i.natAbs < 10 ^ 31) : Sd 110 0 (.int i) := by
  have hl : i.natAbs.log2 < 110 := by
    by_cases c : i.natAbs = 0
    · rw [c]; decide
    · exact (Nat.log2_lt c).mpr (Nat.lt_trans h (by decide))
  refine ⟨rfl, decide_eq_true (Nat.lt_trans hl (by decide)), ?_, ?_, Nat.le_refl _⟩
  · show decide ((PyData.shown (.int i)).length ≤ 60) = true
    refine decide_eq_true ?_
    have e := int_text_length_le10 (a := i) (k := 31) (by decide) h
    have e2 : (PyData.shown (.int i)).length = (toString i).length := by
      show (Str.ofString (toString i)).length = _
      exact PySem.ofString_length _
    omega
  · show (if i == 0 then 0 else i.natAbs.log2 + 1) ≤ 110
    split <;> omega
theorem p30 : (10 : Int) ^ (30 : Int).toNat = 1000000000000000000000000000000 := by decide
theorem odd0 {m : Int} (h1 : 1 ≤ m) (h2 : m ≤ 100) {d : D} (h : d ∈ [D.int 0, .int (-1), .int (m + 1), .bl true, .non, .str "1", .tup [.int 1], .lst [.int 1], .int (10 ^ (30 : Int).toNat)]) : isNumX 1 m d = false ∧ Sd 1000 3 d ∧ (tyName d).isSome = true := by
  have s1 : ∀ e ∈ [D.int 1], Sd 60 0 e := fun e he => by rw [List.mem_singleton.mp he]; exact sd_int (by decide)
  have nf : ∀ i : Int, ¬ (1 ≤ i ∧ i ≤ m) → isNumX 1 m (.int i) = false := fun i c => by
    show (decide (1 ≤ i) && decide (i ≤ m)) = false
    rw [← Bool.decide_and]
    exact decide_eq_false c
  simp only [List.mem_cons, List.not_mem_nil, or_false] at h
  rcases h with rfl | rfl | rfl | rfl | rfl | rfl | rfl | rfl | rfl
  · exact ⟨nf _ (by omega), (sd_int (by decide)).mono (by decide) (by decide), rfl⟩
  · exact ⟨nf _ (by omega), (sd_int (by decide)).mono (by decide) (by decide), rfl⟩
  · exact ⟨nf _ (by omega), (sd_int (by omega)).mono (by decide) (by decide), rfl⟩
  · exact ⟨rfl, (sd_bl true).mono (by decide) (by decide), rfl⟩
  · exact ⟨rfl, sd_non.mono (by decide) (by decide), rfl⟩
  · exact ⟨rfl, (sd_str (w := 1) (by decide) (by decide)).mono (by decide) (by decide), rfl⟩
  · exact ⟨rfl, (sd_tup 1 s1 (by decide)).mono (by decide) (by decide), rfl⟩
  · exact ⟨rfl, (sd_lst 1 s1 (by decide)).mono (by decide) (by decide), rfl⟩
  · rw [p30]
    exact ⟨nf _ (by omega), (sd_int2 (by decide)).mono (by decide) (by decide), rfl⟩
theorem odd1 {m : Int} (h1 : 0 ≤ m) (h2 : m ≤ 9) {d : D} (h : d ∈ [D.int (m + 1), .int (-m - 1), .bl false, .bl true, .non, .str "0", .lst [.int 0], .int (10 ^ (30 : Int).toNat)]) : isNumX (-m) m d = false ∧ Sd 1000 3 d ∧ (tyName d).isSome = true := by
  have s1 : ∀ e ∈ [D.int 0], Sd 60 0 e := fun e he => by rw [List.mem_singleton.mp he]; exact sd_int (by decide)
  have nf : ∀ i : Int, ¬ (-m ≤ i ∧ i ≤ m) → isNumX (-m) m (.int i) = false := fun i c => by
    show (decide (-m ≤ i) && decide (i ≤ m)) = false
    rw [← Bool.decide_and]
    exact decide_eq_false c
  simp only [List.mem_cons, List.not_mem_nil, or_false] at h
  rcases h with rfl | rfl | rfl | rfl | rfl | rfl | rfl | rfl
  · exact ⟨nf _ (by omega), (sd_int (by omega)).mono (by decide) (by decide), rfl⟩
  · exact ⟨nf _ (by omega), (sd_int (by omega)).mono (by decide) (by decide), rfl⟩
  · exact ⟨rfl, (sd_bl false).mono (by decide) (by decide), rfl⟩
  · exact ⟨rfl, (sd_bl true).mono (by decide) (by decide), rfl⟩
  · exact ⟨rfl, sd_non.mono (by decide) (by decide), rfl⟩
  · exact ⟨rfl, (sd_str (w := 1) (by decide) (by decide)).mono (by decide) (by decide), rfl⟩
  · exact ⟨rfl, (sd_lst 1 s1 (by decide)).mono (by decide) (by decide), rfl⟩
  · rw [p30]
    exact ⟨nf _ (by omega), (sd_int2 (by decide)).mono (by decide) (by decide), rfl⟩
def mkKd (ks : List Str) (F : Str → Int) : Kd := ks.map fun x => (x, .int (F x))
theorem mkKd_keys (ks : List Str) (F : Str → Int) : (mkKd ks F).map (·.1) = ks := by
  unfold mkKd
  rw [List.map_map]
  exact (List.map_congr_left fun _ _ => rfl).trans (List.map_id ks)
theorem mkKd_len (ks : List Str) (F : Str → Int) : (mkKd ks F).length = ks.length := List.length_map _
theorem mkKd_get {ks : List Str} {F : Str → Int} {x : Str} (h : x ∈ ks) : kGet (mkKd ks F) x = some (.int (F x)) := by
  unfold kGet mkKd
  induction ks with
  | nil => cases h
  | cons y ys ih =>
    rw [List.map_cons]
    by_cases c : y = x
    · rw [List.find?_cons_of_pos (by simp [c]), c]; rfl
    · rw [List.find?_cons_of_neg (by simp [c])]
      refine ih ?_
      rcases List.mem_cons.mp h with z | z
      · exact absurd z.symm c
      · exact z
theorem okKd_mk {ks : List Str} {F : Str → Int} (hl : ks.length ≤ 8) (h : ∀ x ∈ ks, isNameS x = true ∧ (F x).natAbs < 10 ^ 18) : OkKd (mkKd ks F) := ⟨by rw [mkKd_len]; omega, fun p hp => by
  obtain ⟨x, hx, rfl⟩ := List.mem_map.mp hp
  exact ⟨(sd_name (h x hx).1).mono (by decide) (by decide), (sd_int (h x hx).2).mono (by decide) (by decide), rfl⟩⟩
theorem okKd_put {ps : Kd} {x : Str} {d : D} (h : OkKd ps) (hl : ps.length ≤ 8) (hx : Sd 30 0 (.str x)) (hd : Sd 1000 3 d) (ht : (tyName d).isSome = true) : OkKd (kPut ps x d) := ⟨by have := kPut_len (ps := ps) (x := x) (d := d); omega, fun p hp => by
  rcases kPut_mem hp with hp | rfl
  · exact h.it p hp
  · exact ⟨hx, hd, ht⟩⟩
theorem okKd_del {ps : Kd} {x : Str} (h : OkKd ps) : OkKd (kDel ps x) := ⟨Nat.le_trans (List.length_filter_le _ _) h.len, fun p hp => h.it p (kDel_mem hp)⟩
theorem q8len (x : Str) : (x ++ ("qqqqqqqq" : Str)).length = x.length + 8 := by
  show (x.cps ++ _).size = _
  rw [Array.size_append]; rfl
theorem q8sd {x : Str} (h : isNameS x = true) : Sd 30 0 (.str (x ++ ("qqqqqqqq" : Str))) := by
  obtain ⟨l, _, hc⟩ := name_low h
  refine (sd_str (w := 16) (fun c hm => ?_) (by rw [q8len]; omega)).mono (by decide) (by decide)
  have hm : c ∈ (x.cps ++ ("qqqqqqqq" : Str).cps).toList := hm
  rw [Array.toList_append] at hm
  rcases List.mem_append.mp hm with hm | hm
  · have := (hc c hm).2
    exact Nat.lt_of_le_of_lt this (by decide)
  · exact (show ∀ c ∈ ("qqqqqqqq" : Str).cps.toList, c < 16 ^ 8 by decide) c hm
theorem long_no {ks : List Str} (h : ∀ x ∈ ks, isNameS x = true) {y : Str} (hy : 8 < y.length) : y ∉ ks := fun z => by
  have := (name_low (h y z)).1
  omega
def itK (ps : Kd) : D := .lst (itemsD (ps.map fun p => (Sum.inr p.1 : Key)) (ps.map (·.2)))
theorem itK_eq : ∀ ps : Kd, itemsD (ps.map fun p => (Sum.inr p.1 : Key)) (ps.map (·.2)) = ps.map fun p => D.tup [.str p.1, p.2]
  | [] => rfl
  | p :: ps => by
    show D.tup [.str p.1, p.2] :: itemsD _ _ = _
    rw [itK_eq ps]; rfl
theorem itK_sd {ps : Kd} (h : OkKd ps) : Sd 18027 5 (itK ps) := by
  unfold itK
  rw [itK_eq]
  refine (sd_lst 9 (w := 2002) (k := 4) (fun e he => ?_) (by rw [List.length_map]; exact h.len)).mono (by decide) (by decide)
  obtain ⟨p, hp, rfl⟩ := List.mem_map.mp he
  obtain ⟨h1, h2, _⟩ := h.it p hp
  exact (sd_tup 2 (w := 1000) (k := 3) (fun e he => by
    simp only [List.mem_cons, List.not_mem_nil, or_false] at he
    rcases he with rfl | rfl
    · exact h1.mono (by decide) (by decide)
    · exact h2) (by exact Nat.le_refl 2)).mono (by decide) (by decide)
theorem dx_other {d : D} (h : (tyName d).isSome = true) (hn : isDc d = false) : DX d := by
  cases d with
  | dct ks ds => cases hn
  | dcT ks ds => cases hn
  | _ => exact ⟨h, fun _ _ z => (nomatch z), fun _ _ z => (nomatch z)⟩
theorem wx_pair {a b : D} (ha : DX a) (hb : DX b) : Wbm.WX (.tup [a, b]) := ⟨rfl, fun x y e => by cases e; exact ⟨ha, hb⟩⟩
theorem wx_no {d : D} (ht : (tyName d).isSome = true) (h : tupL d 2 = false) : Wbm.WX d := ⟨ht, fun a b e => by subst e; cases h⟩
theorem wd_l {r : Wbm.Row} {a b : D} (h : areX r.names 1 r.most a = false) : wdX r (.tup [a, b]) = false := by
  show (_ && _) = false
  rw [h]; rfl
theorem wd_r {r : Wbm.Row} {a b : D} (h : areX (r.beams.map (·.1)) (-r.lean) r.lean b = false) : wdX r (.tup [a, b]) = false := by
  show (_ && _) = false
  rw [h, Bool.and_false]
theorem sd_two {w k : Nat} {a b : D} (ha : Sd w k a) (hb : Sd w k b) : Sd (2 * (w + 1)) (k + 1) (.tup [a, b]) := sd_tup 2 (fun e he => by
  simp only [List.mem_cons, List.not_mem_nil, or_false] at he
  rcases he with rfl | rfl <;> assumption) (Nat.le_refl 2)
def Ok04 (r : Wbm.Row) (d : D) : Prop := Wbm.WX d ∧ wdX r d = false ∧ Sd 100000 20 d
theorem odd7 {r : Wbm.Row} {ps qs : Kd} (kp : OkKd ps) (kq : OkKd qs) {d : D} (h : d ∈ [D.lst [kD ps, kD qs], .tup [kD ps, kD qs, .dct [] []], .tup [.tup [kD ps, kD qs]], .tup [kD qs, kD ps, .int 1], .tup [kD ps], .tup [kD qs]]) : Ok04 r d := by
  have s1 := kp.sd
  have s2 := kq.sd
  have s3 : Sd 9288 4 (.dct [] []) := (sd_dct 0 (ks := []) (F := fun _ => .non) (w := 0) (k := 0) (fun _ h => nomatch h) (by decide)).mono (by decide) (by decide)
  have s4 : Sd 9288 4 (.int 1) := (sd_int (by decide)).mono (by decide) (by decide)
  have s5 := sd_two s1 s2
  simp only [List.mem_cons, List.not_mem_nil, or_false] at h
  rcases h with rfl | rfl | rfl | rfl | rfl | rfl
  · exact ⟨wx_no rfl rfl, rfl, (sd_lst 2 (fun e he => by
      simp only [List.mem_cons, List.not_mem_nil, or_false] at he
      rcases he with rfl | rfl <;> assumption) (by exact Nat.le_refl 2)).mono (by decide) (by decide)⟩
  · exact ⟨wx_no rfl rfl, rfl, (sd_tup 3 (w := 9288) (k := 4) (fun e he => by
      simp only [List.mem_cons, List.not_mem_nil, or_false] at he
      rcases he with rfl | rfl | rfl <;> assumption) (by exact Nat.le_refl 3)).mono (by decide) (by decide)⟩
  · exact ⟨wx_no rfl rfl, rfl, (sd_tup 1 (fun e he => by rw [List.mem_singleton.mp he]; exact s5) (by exact Nat.le_refl 1)).mono (by decide) (by decide)⟩
  · exact ⟨wx_no rfl rfl, rfl, (sd_tup 3 (w := 9288) (k := 4) (fun e he => by
      simp only [List.mem_cons, List.not_mem_nil, or_false] at he
      rcases he with rfl | rfl | rfl <;> assumption) (by exact Nat.le_refl 3)).mono (by decide) (by decide)⟩
  · exact ⟨wx_no rfl rfl, rfl, (sd_tup 1 (fun e he => by rw [List.mem_singleton.mp he]; exact s1) (by exact Nat.le_refl 1)).mono (by decide) (by decide)⟩
  · exact ⟨wx_no rfl rfl, rfl, (sd_tup 1 (fun e he => by rw [List.mem_singleton.mp he]; exact s2) (by exact Nat.le_refl 1)).mono (by decide) (by decide)⟩
theorem odd8 {r : Wbm.Row} (ok : rowOk r) {ps qs : Kd} (kp : OkKd ps) (kq : OkKd qs) {d : D} (h : d ∈ [D.tup [itK ps, kD qs], .tup [kD ps, itK qs], .tup [kD ps, .non], .tup [.non, kD qs], kD ps] ++ [D.dct [] [], .non, .tup [], .int 5, .str "ab", .bl true, .lst [], .tup [.tup [], .tup []], .tup [.dct [] [], .dct [] []]]) : Ok04 r d := by
  have s1 : Sd 18027 5 (kD ps) := kp.sd.mono (by decide) (by decide)
  have s2 : Sd 18027 5 (kD qs) := kq.sd.mono (by decide) (by decide)
  have s3 := itK_sd kp
  have s4 := itK_sd kq
  have s5 : Sd 18027 5 .non := sd_non.mono (by decide) (by decide)
  have s6 : Sd 18027 5 (.dct [] []) := (sd_dct 0 (ks := []) (F := fun _ => .non) (w := 0) (k := 0) (fun _ h => nomatch h) (by decide)).mono (by decide) (by decide)
  have s7 : Sd 18027 5 (.tup []) := (sd_tup 0 (w := 0) (k := 0) (ds := []) (fun e he => (nomatch he)) (by decide)).mono (by decide) (by decide)
  have x1 := kp.dx
  have x2 := kq.dx
  have xl : ∀ xs, DX (.lst xs) := fun xs => dx_other rfl rfl
  have xn : DX .non := dx_other rfl rfl
  have xt : ∀ xs, DX (.tup xs) := fun xs => dx_other rfl rfl
  have xd : DX (.dct [] []) := dx_kD (ps := []) fun p hp => nomatch hp
  have nA : ∀ {names : List Str} {lo hi : Int} {xs : List D}, areX names lo hi (.lst xs) = false := bad_len rfl
  have nN : ∀ {names : List Str} {lo hi : Int}, areX names lo hi .non = false := bad_len rfl
  have nT : ∀ {names : List Str} {lo hi : Int} {xs : List D}, areX names lo hi (.tup xs) = false := bad_len rfl
  have nD : areX r.names 1 r.most (.dct [] []) = false := bad_len (decide_eq_false fun z => by have := ok.n1; have z : 0 = r.names.length := z; omega)
  have two : ∀ {a b : D}, Sd 18027 5 a → Sd 18027 5 b → Sd 100000 20 (.tup [a, b]) := fun ha hb => (sd_two ha hb).mono (by decide) (by decide)
  simp only [List.mem_append, List.mem_cons, List.not_mem_nil, or_false] at h
  rcases h with (rfl | rfl | rfl | rfl | rfl) | (rfl | rfl | rfl | rfl | rfl | rfl | rfl | rfl | rfl)
  · exact ⟨wx_pair (xl _) x2, wd_l nA, two s3 s2⟩
  · exact ⟨wx_pair x1 (xl _), wd_r nA, two s1 s4⟩
  · exact ⟨wx_pair x1 xn, wd_r nN, two s1 s5⟩
  · exact ⟨wx_pair xn x2, wd_l nN, two s5 s2⟩
  · exact ⟨wx_no rfl rfl, rfl, s1.mono (by decide) (by decide)⟩
  · exact ⟨wx_no rfl rfl, rfl, s6.mono (by decide) (by decide)⟩
  · exact ⟨wx_no rfl rfl, rfl, s5.mono (by decide) (by decide)⟩
  · exact ⟨wx_no rfl rfl, rfl, s7.mono (by decide) (by decide)⟩
  · exact ⟨wx_no rfl rfl, rfl, (sd_int (by decide)).mono (by decide) (by decide)⟩
  · exact ⟨wx_no rfl rfl, rfl, (sd_str (w := 2) (by decide) (by decide)).mono (by decide) (by decide)⟩
  · exact ⟨wx_no rfl rfl, rfl, (sd_bl true).mono (by decide) (by decide)⟩
  · exact ⟨wx_no rfl rfl, rfl, (sd_lst 0 (w := 0) (k := 0) (ds := []) (fun e he => (nomatch he)) (by decide)).mono (by decide) (by decide)⟩
  · exact ⟨wx_pair (xt _) (xt _), wd_l nT, two s7 s7⟩
  · exact ⟨wx_pair xd xd, wd_l nD, two s6 s6⟩
theorem wdX_good {r : Wbm.Row} {wt ln : Str → Int} (hw : Wbm.okWd r r.names wt (r.beams.map (·.1)) ln) : wdX r (wdD r.names wt (r.beams.map (·.1)) ln) = true := by
  have ar : ∀ {ks : List Str} {F : Str → Int} {lo hi : Int}, okD ks ks F lo hi → areX ks lo hi (dfD ks F) = true := fun {ks F lo hi} h => by
    unfold areX
    rw [show dLen (dfD ks F) ks.length = true from decide_eq_true (List.length_map _), Bool.true_and]
    refine List.all_eq_true.mpr fun x hx => ?_
    obtain ⟨h1, h2, h3⟩ := h.at_ x hx
    unfold numXat
    have e : dVal (dfD ks F) x = some (.int (F x)) := Option.some.inj (getD_df hx)
    rw [e]
    show (decide _ && decide _) = true
    rw [decide_eq_true h2, decide_eq_true h3]; rfl
  show (areX _ _ _ (dfD _ _) && areX _ _ _ (dfD _ _)) = true
  rw [ar hw.w, ar hw.l]; rfl
theorem wx_good (ks : List Str) (F : Str → Int) (k2 : List Str) (G : Str → Int) : Wbm.WX (wdD ks F k2 G) := by
  have h : ∀ ks F, DX (dfD ks F) := fun ks F => by
    rw [kD_df]
    exact dx_kD fun p hp => by
      obtain ⟨x, _, rfl⟩ := List.mem_map.mp hp
      rfl
  exact wx_pair (h _ _) (h _ _)
theorem due_good {p : D → Bool} {xs : List D} (h : ∀ d ∈ xs, p d = true) : dueD p (.lst xs) = .non := by
  unfold dueD
  show (match badX p xs with | none => _ | some i => _) = _
  rw [badX_none fun i d hd => h d (List.mem_of_getElem? hd)]
theorem lg_good {xs : List D} (hl : xs.length ≤ 1000) (h : ∀ d ∈ xs, Wbm.It d = true) : Lg (.lst xs) := ⟨rfl, fun ys e => by
  have e : ys = xs := (Option.some.inj e).symm
  subst e
  exact ⟨hl, h⟩⟩
theorem it_w {x : Wg} : Wbm.It (wD x) = true := okT_it (okEl_w0 x)
theorem it_r {x : Wg × Str} : Wbm.It (rwD x) = true := okT_it (okEl_r0 x)
theorem ne_row (i : Int) : (!eqD (.tup [.str "row", .int i]) (.tup [.str "row", .int i])) = false := by
  have e : eqD (.tup [.str "row", .int i]) (.tup [.str "row", .int i]) = true := by
    unfold eqD toPy
    simp [PyData.eqv, toPyA, toPy, PyData.eqvAll]
  rw [e]; rfl
end L2.Q.Lw
set_option Elab.async false
set_option linter.all false
set_option maxRecDepth 100000
set_option maxHeartbeats 4000000
namespace L2.Q
open PySem PySem.Spec PyProof.Rows L2 L2.Wb
/-- they are of the builtin class t, or none of them is -/
structure ExB (K : PySem.W.Frag) (C : Cn) (cs : List Str) (t : String) (b : Bool) : Prop where
  ex : ∀ c ∈ cs, ExD K (C.cA c)
  kit : ∀ c ∈ cs, PySem.W.kitOne K (.ref (C.cA c)) (.type t) = some b
section
variable {Θ : Th} {X : Cx} {cs : List Str} {t : String} {b : Bool}
def isXBF (cs : List Str) (t : String) (b : Bool) : List D → (D → Bool → Prop) → Prop := fun ds k => match ds with
  | [.exc c _ _, .raw (.ty u)] => u = t ∧ c ∈ cs ∧ k (.bl b) false
  | _ => False
theorem cq_isXB (hE : ExB X.K Θ.C cs t b) : CaQ X Θ (.builtin "isinstance") (isXBF cs t b) := by
  refine ⟨_, call_isH, fun σ H e vs ds k Q E r h K => ?_⟩
  match ds, r, h with
  | [.exc c ks es, .raw (.ty u)], r, ⟨hA, hc, hk⟩ =>
    subst hA
    obtain ⟨v, v', rfl, rv, rv'⟩ := r.two
    cases rv'
    obtain ⟨a, od, rfl, ha, hd⟩ := exc_at rv
    exact ⟨a, _, od, _, _, b, rfl, ha, fun dd e => by subst e; obtain ⟨fs, h1, _⟩ := hd; exact ⟨fs, h1⟩, hE.ex _ hc, .ty _, hE.kit _ hc, K _ _ _ _ (Res.mk E (.bl _)) hk⟩
end
end L2.Q
set_option Elab.async false
set_option linter.all false
set_option maxRecDepth 100000
set_option maxHeartbeats 4000000
namespace L2.Q
open PySem PySem.Spec PyProof.Rows L2 L2.Wb RZ
end L2.Q
set_option Elab.async false
set_option linter.all false
set_option maxRecDepth 100000
set_option maxHeartbeats 4000000
namespace L2.Q
open PySem PySem.Spec PyProof.Rows L2 L2.Wb
end L2.Q
set_option Elab.async false
set_option linter.all false
set_option maxRecDepth 100000
set_option maxHeartbeats 4000000
namespace L2.Q.Lw
open PySem PySem.Spec PyProof.Rows L2 L2.Wb L2.Q L2.Q.Wbm
section
variable {P : Program} {w : World} {K : PySem.W.Frag} {mg : Str → Option Value} {base : Heap}
abbrev s_law_bent : Stmt := top 53
theorem sc_law_bent : FnScope ["state", "row", "world", "masses", "slants", "way", "name", "beam_name", "found", "some"] ["state", "row", "world"] (defScope s_law_bent) := ⟨rfl, rfl, rfl, by decide +kernel, rfl, by decide +kernel, by decide +kernel⟩
abbrev l_law_bent : List Str := ["state", "row", "world"]
theorem ok_law_bent {f : Addr} {fd : FuncData} (C : Cn) (hK : C.K = K) (F : Fun K "_law_bent" "_law_bent" s_law_bent f fd)  (n_dict : mg "dict" = none) (n_list : mg "list" = none) {f_law_next : Addr} {d_law_next : FuncData} (D__law_next : DefQ P w K mg base C "_law_next" 1 f_law_next d_law_next l_law_next p_law_next) {f_law_pick : Addr} {d_law_pick : FuncData} (D__law_pick : DefQ P w K mg base C "_law_pick" 2 f_law_pick d_law_pick l_law_pick p_law_pick) : FnOk P w K mg base (L2.CX P w) 3 f fd ["state", "row", "world"] (spOf C p_law_bent04) :=
  q_fun F sc_law_bent C (fun ds n R Y h => by obtain ⟨_, _, _, rfl, _⟩ := h; rfl) fun m M H std n3 ms Y cdv A outer s E hr tk => ⟨_,
    (qs_cons (q_par (i := 3) (j := 4) rfl sc_law_bent.nd rfl rfl rfl rfl (q_tcall (cq_dict rfl) (by rfl) n_dict (qa_cons (q_ixV 2 hr.u1 q_int) qa_nil)) (fun _ _ => (q_tcall (cq_dict rfl) (by rfl) n_dict (qa_cons (q_ixV 2 hr.u1 q_int) qa_nil)))) (qs_cons (q_set (i := 5) sc_law_bent.nd rfl (by first | exact Or.inl rfl | exact Or.inr rfl) (q_callD D__law_next hr (qa_cons (q_var 0) (qa_cons q_int qa_nil)))) (qs_cons (q_par (i := 6) (j := 7) rfl sc_law_bent.nd rfl rfl rfl rfl (q_callD D__law_pick hr (qa_cons (q_var 0) (qa_cons (q_ixV 1 hr.u1 q_int) qa_nil))) (fun _ _ => (q_ix hr.u1 (q_callD D__law_pick hr (qa_cons (q_var 0) (qa_cons (q_ixV 1 hr.u1 q_int) qa_nil))) q_int))) (qs_cons (q_ifS (qt_cmp (oq_eq hr.u65 hK) (q_var 5) q_int) (qs_one (q_asg (q_callD D__law_pick hr (qa_cons (q_var 0) (qa_cons (q_lst (qa_cons q_int (qa_cons (q_neg q_int) (qa_cons (q_op oq_add (q_ixV 1 hr.u1 q_int) q_int) (qa_cons q_bl (qa_cons q_non (qa_cons q_str (qa_cons (q_tup (qa_cons q_int qa_nil)) (qa_cons (q_lst (qa_cons q_int qa_nil)) (qa_cons (q_op oq_pow q_int q_int) qa_nil)))))))))) qa_nil))) (qg_item 3 hr.u1 (q_var 6)))) (qs_one (q_ifS (qt_cmp (oq_eq hr.u65 hK) (q_var 5) q_int) (qs_one (q_asg (q_callD D__law_pick hr (qa_cons (q_var 0) (qa_cons (q_lst (qa_cons (q_op oq_add (q_ixV 1 hr.u1 q_int) q_int) (qa_cons (q_op oq_sub (q_neg (q_ixV 1 hr.u1 q_int)) q_int) (qa_cons q_bl (qa_cons q_bl (qa_cons q_non (qa_cons q_str (qa_cons (q_lst (qa_cons q_int qa_nil)) (qa_cons (q_op oq_pow q_int q_int) qa_nil))))))))) qa_nil))) (qg_item 4 hr.u1 (q_var 7)))) (qs_one (q_ifS (qt_cmp (oq_eq hr.u65 hK) (q_var 5) q_int) (qs_one (q_drop (q_dpop 3 (q_var 6) ⟨rfl, rfl, rfl, rfl⟩))) (qs_one (q_ifS (qt_cmp (oq_eq hr.u65 hK) (q_var 5) q_int) (qs_one (q_drop (q_dpop 4 (q_var 7) ⟨rfl, rfl, rfl, rfl⟩))) (qs_one (q_ifS (qt_cmp (oq_eq hr.u65 hK) (q_var 5) q_int) (qs_one (q_asg q_int (qg_item 3 hr.u1 (q_op oq_add (q_var 6) (q_op oq_mulS q_str q_int))))) (qs_one (q_ifS (qt_cmp (oq_eq hr.u65 hK) (q_var 5) q_int) (qs_one (q_asg q_int (qg_item 4 hr.u1 (q_op oq_mulS q_str q_int)))) (qs_one (q_ifS (qt_cmp (oq_eq hr.u65 hK) (q_var 5) q_int) (qs_cons (q_drop (q_dpop 3 (q_var 6) ⟨rfl, rfl, rfl, rfl⟩)) (qs_one (q_asg q_int (qg_item 3 hr.u1 (q_op oq_add (q_var 6) (q_op oq_mulS q_str q_int)))))) qs_nil))))))))))))) (qs_cons (q_set (i := 8) sc_law_bent.nd rfl (by first | exact Or.inl rfl | exact Or.inr rfl) (q_tup (qa_cons (q_var 3) (qa_cons (q_var 4) qa_nil)))) (qs_cons (q_ifS (qt_cmp (oq_eq hr.u65 hK) (q_var 5) q_int) (qs_one (q_ret (q_ix hr.u1 (q_lst (qa_cons (q_tcall cq_list (by rfl) n_list (qa_cons (q_var 8) qa_nil)) (qa_cons (q_op oq_add (q_var 8) (q_tup (qa_cons q_dnew qa_nil))) (qa_cons (q_tup (qa_cons (q_var 8) qa_nil)) (qa_cons (q_op oq_add (q_revT (q_var 8)) (q_tup (qa_cons q_int qa_nil))) (qa_cons (q_sl (q_var 8) qo_none (qo_some q_int)) (qa_cons (q_sl (q_var 8) (qo_some q_int) qo_none) qa_nil))))))) (q_callD D__law_next hr (qa_cons (q_var 0) (qa_cons q_int qa_nil)))))) qs_nil) (qs_cons (q_ifS (qt_cmp (oq_eq hr.u65 hK) (q_var 5) q_int) (qs_cons (q_set (i := 9) sc_law_bent.nd rfl (by first | exact Or.inl rfl | exact Or.inr rfl) (q_lst (qa_cons (q_tup (qa_cons (q_items rfl n_list (q_var 3)) (qa_cons (q_var 4) qa_nil))) (qa_cons (q_tup (qa_cons (q_var 3) (qa_cons (q_items rfl n_list (q_var 4)) qa_nil))) (qa_cons (q_tup (qa_cons (q_var 3) (qa_cons q_non qa_nil))) (qa_cons (q_tup (qa_cons q_non (qa_cons (q_var 4) qa_nil))) (qa_cons (q_var 3) qa_nil))))))) (qs_one (q_ret (q_callD D__law_pick hr (qa_cons (q_var 0) (qa_cons (q_op oq_add (q_var 9) (q_lst (qa_cons q_dnew (qa_cons q_non (qa_cons (q_tup qa_nil) (qa_cons q_int (qa_cons q_str (qa_cons q_bl (qa_cons (q_lst qa_nil) (qa_cons (q_tup (qa_cons (q_tup qa_nil) (qa_cons (q_tup qa_nil) qa_nil))) (qa_cons (q_tup (qa_cons q_dnew (qa_cons q_dnew qa_nil))) qa_nil))))))))))) qa_nil)))))) qs_nil) (qs_one (q_retV 8))))))))), fun ds n R h => by
    obtain ⟨r, wt, ln, rfl, ok, hw, hn, hR⟩ := h
    have h8 := ok.ok.n8
    have h3 := ok.ok.b3
    have nn : r.names ≠ [] := fun z => by have := ok.n1; rw [z] at this; simp at this
    have nb : r.beams ≠ [] := fun z => by have := ok.b1; rw [z] at this; simp at this
    change (_ : GS) _ (⟨[some (_, false), some (_, false), some (_, false), none, none, none, none, none, none, none], n⟩ : L2.Q.Env)
    refine seq_sl [3, 4] (fun f k => k = n ∧ f 3 = some (kD (mkKd r.names wt), true) ∧ f 4 = some (kD (mkKd (r.beams.map (·.1)) ln), true)) (fun N hN => ?_) (fun f k ⟨hk, g3, g4⟩ => ?_)
    · one_sign
      exact ⟨rfl, _, rfl, rfl, _, rfl, hN _ rfl ⟨rfl, by unfold mkKd; rw [← kD_df]; rfl, by unfold mkKd; rw [← kD_df]; rfl⟩⟩
    dsimp only [putW, setS]
    rw [g3, g4, hk]
    refine seq_sl [5] (fun f k => k = n + 1 ∧ ∃ way : Int, 0 ≤ way ∧ way < 9 ∧ f 5 = some (.int way, false)) (fun N hN => ?_) (fun f k ⟨hk, way, w0, w1, g5⟩ => ?_)
    · one_sign
      exact ⟨9, rfl, by omega, by decide, by decide, fun way w0 w1 => hN _ rfl ⟨rfl, way, w0, w1, rfl⟩⟩
    dsimp only [putW, setS]
    rw [g5, hk]
    refine seq_sl [6, 7] (fun f k => k = n + 1 + 1 + 1 ∧ ∃ x p, x ∈ r.names ∧ p ∈ r.beams ∧ f 6 = some (.str x, false) ∧ f 7 = some (.str p.1, false)) (fun N hN => ?_) (fun f k ⟨hk, x, p, hx, hp, g6, g7⟩ => ?_)
    · one_sign
      refine ⟨rfl, _, rfl, ?_⟩
      refine ⟨_, rfl, by omega, .inl ⟨_, .inl rfl, by simpa using nn, by rw [List.length_map]; omega, fun d hd => ?_⟩⟩
      obtain ⟨name, hname, rfl⟩ := List.mem_map.mp hd
      refine ⟨rfl, _, rfl, ?_⟩
      refine ⟨_, rfl, by omega, .inl ⟨_, .inl rfl, by simpa using nb, by rw [List.length_map]; omega, fun d hd => ?_⟩⟩
      obtain ⟨bm, hbm, rfl⟩ := List.mem_map.mp hd
      exact ⟨_, rfl, hN _ rfl ⟨rfl, name, bm, hname, hbm, rfl, rfl⟩⟩
    dsimp only [putW, setS]
    rw [g6, g7, hk]
    refine seq_sl [3, 4, 5, 6, 7] (fun f k => k ≤ n + 4 ∧ ∃ ps qs, f 3 = some (kD ps, true) ∧ f 4 = some (kD qs, true) ∧ f 5 = some (.int way, false) ∧ OkKd ps ∧ OkKd qs ∧ (way < 7 → areX r.names 1 r.most (kD ps) = false ∨ areX (r.beams.map (·.1)) (-r.lean) r.lean (kD qs) = false)) (fun N hN => ?_) (fun f k ⟨hk, ps, qs, g3, g4, g5, kp, kq, hb⟩ => ?_)
    · have okA : OkKd (mkKd r.names wt) := okKd_mk h8 fun x hx => ⟨ok.nm x hx, by have := hw.w.at_ x hx; have := ok.m2; omega⟩
      have okB : OkKd (mkKd (r.beams.map (·.1)) ln) := okKd_mk (by rw [List.length_map]; omega) fun x hx => ⟨ok.bname hx, by have := hw.l.at_ x hx; have := ok.l2; omega⟩
      have lA : (mkKd r.names wt).length = r.names.length := mkKd_len _ _
      have lB : (mkKd (r.beams.map (·.1)) ln).length = (r.beams.map (·.1)).length := mkKd_len _ _
      have lB2 : (r.beams.map (·.1)).length = r.beams.length := List.length_map _
      have pb : p.1 ∈ r.beams.map (·.1) := List.mem_map.mpr ⟨p, hp, rfl⟩
      have sx : Sd 30 0 (.str x) := (sd_name (ok.nm x hx)).mono (by decide) (by decide)
      have sp : Sd 30 0 (.str p.1) := (sd_name (ok.bname pb)).mono (by decide) (by decide)
      have s1 : Sd 1000 3 (.int 1) := (sd_int (by decide)).mono (by decide) (by decide)
      have s0 : Sd 1000 3 (.int 0) := (sd_int (by decide)).mono (by decide) (by decide)
      have fx : x ++ ("qqqqqqqq" : Str) ∉ r.names := long_no ok.nm (by rw [q8len]; have := (name_low (ok.nm x hx)).2.1; omega)
      have lx := (name_low (ok.nm x hx)).1
      one_sign
      refine ⟨_, rfl, fun c => ?_, fun n0 => ⟨_, rfl, fun c => ?_, fun n1 => ⟨_, rfl, fun c => ?_, fun n2 => ⟨_, rfl, fun c => ?_, fun n3 => ⟨_, rfl, fun c => ?_, fun n4 => ⟨_, rfl, fun c => ?_, fun n5 => ⟨_, rfl, fun c => ?_, fun n6 => ?_⟩⟩⟩⟩⟩⟩⟩
      · refine ⟨rfl, _, rfl, Nat.le_of_ble_eq_true rfl, Nat.le_of_ble_eq_true rfl, ⟨by decide, by decide, by decide⟩, Nat.le_of_ble_eq_true rfl, ?_⟩
        refine ⟨_, rfl, by omega, .inl ⟨_, .inl rfl, by simp, Nat.le_of_ble_eq_true rfl, fun d hd => ?_⟩⟩
        obtain ⟨o1, o2, o3⟩ := odd0 ok.m1 ok.m2 hd
        exact ⟨_, putI_kD (by omega), hN _ rfl ⟨by show n + 1 + 1 + 1 + 1 ≤ n + 4; omega, _, _, rfl, rfl, rfl, okKd_put okA (by omega) sx o2 o3, okB, fun _ => .inl (bad_num hx (num_some kGet_put o1))⟩⟩
      · refine ⟨rfl, _, rfl, rfl, _, rfl, Nat.le_of_ble_eq_true rfl, ⟨by decide, by decide, by decide⟩, Nat.le_of_ble_eq_true rfl, ?_⟩
        refine ⟨_, rfl, by omega, .inl ⟨_, .inl rfl, by simp, Nat.le_of_ble_eq_true rfl, fun d hd => ?_⟩⟩
        obtain ⟨o1, o2, o3⟩ := odd1 ok.l1 ok.l2 hd
        exact ⟨_, putI_kD (by omega), hN _ rfl ⟨by show n + 1 + 1 + 1 + 1 ≤ n + 4; omega, _, _, rfl, rfl, rfl, okA, okKd_put okB (by omega) sp o2 o3, fun _ => .inr (bad_num pb (num_some kGet_put o1))⟩⟩
      · unfold gDpop
        one_sign
        refine ⟨⟨_, _, rfl⟩, _, _, _, _, rfl, rfl, (getK_kD _ _).trans (mkKd_get hx), ?_⟩
        rw [del_kD]
        exact hN _ rfl ⟨by show n + 1 + 1 + 1 ≤ n + 4; omega, _, _, rfl, rfl, rfl, okKd_del okA, okB, fun _ => .inl (bad_len (dLen_kD (by have := kDel_lt (ps := mkKd r.names wt) (x := x) (by rw [mkKd_keys]; exact hx); omega)))⟩
      · unfold gDpop
        one_sign
        refine ⟨⟨_, _, rfl⟩, _, _, _, _, rfl, rfl, (getK_kD _ _).trans (mkKd_get pb), ?_⟩
        rw [del_kD]
        exact hN _ rfl ⟨by show n + 1 + 1 + 1 ≤ n + 4; omega, _, _, rfl, rfl, rfl, okA, okKd_del okB, fun _ => .inr (bad_len (dLen_kD (by have := kDel_lt (ps := mkKd (r.beams.map (·.1)) ln) (x := p.1) (by rw [mkKd_keys]; exact pb); omega)))⟩
      · refine ⟨q8ok, ?_⟩
        rw [q8is]
        exact ⟨by show x.length + 8 ≤ _; omega, _, putI_kD (by omega), hN _ rfl ⟨by show n + 1 + 1 + 1 ≤ n + 4; omega, _, _, rfl, rfl, rfl, okKd_put okA (by omega) (q8sd (ok.nm x hx)) s1 rfl, okB, fun _ => .inl (bad_len (dLen_kD (by rw [kPut_new (by rw [mkKd_keys]; exact fx)]; omega)))⟩⟩
      · refine ⟨q9ok, ?_⟩
        rw [q9is]
        exact ⟨_, putI_kD (by omega), hN _ rfl ⟨by show n + 1 + 1 + 1 ≤ n + 4; omega, _, _, rfl, rfl, rfl, okA, okKd_put okB (by omega) ((sd_str (w := 9) (by decide) (by decide)).mono (by decide) (by decide)) s0 rfl, fun _ => .inr (bad_len (dLen_kD (by rw [kPut_new (by rw [mkKd_keys]; exact long_no (fun y hy => ok.bname hy) (by decide))]; omega)))⟩⟩
      · unfold gDpop
        one_sign
        refine ⟨⟨_, _, rfl⟩, _, _, _, _, rfl, rfl, (getK_kD _ _).trans (mkKd_get hx), ?_⟩
        rw [del_kD]
        one_sign
        refine ⟨q8ok, ?_⟩
        rw [q8is]
        have dl := kDel_lt (ps := mkKd r.names wt) (x := x) (by rw [mkKd_keys]; exact hx)
        have nk : x ++ ("qqqqqqqq" : Str) ∉ (kDel (mkKd r.names wt) x).map (·.1) := fun z => by
          obtain ⟨q, hq, e⟩ := List.mem_map.mp z
          exact fx (by rw [← e, ← mkKd_keys r.names wt]; exact List.mem_map.mpr ⟨q, kDel_mem hq, rfl⟩)
        exact ⟨by show x.length + 8 ≤ _; omega, _, putI_kD (by omega), hN _ rfl ⟨by show n + 1 + 1 + 1 ≤ n + 4; omega, _, _, rfl, rfl, rfl, okKd_put (okKd_del okA) (by omega) (q8sd (ok.nm x hx)) s1 rfl, okB, fun _ => .inl (bad_num hx (num_none ((kGet_put_ne (fun z => fx (by rw [z]; exact hx)) nk).trans kGet_del)))⟩⟩
      · have m0 : way ≠ 0 := by rw [eqD_int] at n0; simpa using n0
        have m1 : way ≠ 1 := by rw [eqD_int] at n1; simpa using n1
        have m2 : way ≠ 2 := by rw [eqD_int] at n2; simpa using n2
        have m3 : way ≠ 3 := by rw [eqD_int] at n3; simpa using n3
        have m4 : way ≠ 4 := by rw [eqD_int] at n4; simpa using n4
        have m5 : way ≠ 5 := by rw [eqD_int] at n5; simpa using n5
        have m6 : way ≠ 6 := by rw [eqD_int] at n6; simpa using n6
        exact hN _ rfl ⟨by show n + 1 + 1 + 1 ≤ n + 4; omega, _, _, rfl, rfl, rfl, okA, okB, fun c => by omega⟩
    dsimp only [putW, setS]
    rw [g3, g4, g5]
    generalize f 6 = q6, f 7 = q7
    one_sign
    refine ⟨Nat.le_of_ble_eq_true rfl, _, rfl, fun c => ?_, fun n7 => ⟨_, rfl, fun c => ?_, fun n8 => ?_⟩⟩
    · refine ⟨Nat.le_of_ble_eq_true rfl, Nat.le_of_ble_eq_true rfl, Nat.le_of_ble_eq_true rfl, ?_⟩
      unfold gRevT
      one_sign
      refine ⟨Nat.le_of_ble_eq_true rfl, Nat.le_of_ble_eq_true rfl, Nat.le_of_ble_eq_true rfl, 6, rfl, by omega, by decide, by decide, fun v v0 v1 => ?_⟩
      obtain ⟨j, rfl⟩ : ∃ j : Nat, v = (j : Int) := ⟨v.toNat, by omega⟩
      suffices h : ∀ L : List D, L.length = 6 → (∀ d ∈ L, Ok04 r d) → ∃ d, atI L (j : Int) = some d ∧ R d false (k + 1) from h _ rfl (fun d hd => odd7 kp kq hd)
      intro L hl hL
      have hj : j < L.length := by omega
      obtain ⟨o1, o2, o3⟩ := hL _ (List.getElem_mem hj)
      exact ⟨L[j], atI_nat (List.getElem?_eq_getElem hj), hR _ _ (by omega) o1 o2 o3⟩
    · dsimp only [kD]
      refine ⟨Nat.le_of_ble_eq_true rfl, Nat.le_of_ble_eq_true rfl, Nat.le_of_ble_eq_true rfl, Nat.le_of_ble_eq_true rfl, Nat.le_of_ble_eq_true rfl, Nat.zero_le _, Nat.zero_le _, Nat.zero_le _, Nat.zero_le _, Nat.le_of_ble_eq_true rfl, Nat.le_of_ble_eq_true rfl, Nat.le_of_ble_eq_true rfl, Nat.le_of_ble_eq_true rfl, ?_⟩
      refine ⟨_, rfl, by omega, .inl ⟨_, .inl rfl, by simp, Nat.le_of_ble_eq_true rfl, fun d hd => ?_⟩⟩
      obtain ⟨o1, o2, o3⟩ := odd8 ok kp kq hd
      exact hR _ _ (by omega) o1 o2 o3
    · have m7 : way ≠ 7 := by rw [eqD_int] at n7; simpa using n7
      have m8 : way ≠ 8 := by rw [eqD_int] at n8; simpa using n8
      refine hR _ _ (by omega) (wx_pair kp.dx kq.dx) ?_ ((sd_two kp.sd kq.sd).mono (by decide) (by decide))
      rcases hb (by omega) with h | h
      · exact wd_l h
      · exact wd_r h⟩
abbrev s_law_word : Stmt := top 54
theorem sc_law_word : FnScope ["work", "error", "e", "marks"] ["work"] (defScope s_law_word) := ⟨rfl, rfl, rfl, by decide +kernel, rfl, by decide +kernel, by decide +kernel⟩
theorem ok_law_word {X : Cx} {g : Addr} {cd : Value} {q : Str} (eP : X.prog = P) (ew : X.w = w) (eK : X.K = K) (em : X.mg = mg) (eb : X.base = base) (hgu0 : X.A.guards = some []) (C : Cn) (hK : C.K = K)  (n_ValueError : mg "ValueError" = none) (n_isinstance : mg "isinstance" = none) (hEx : ExK K C [("NoAsk", "NoAsk", true), ("NoAsk", "NoBeam", false), ("NoAsk", "NoPan", false), ("NoAsk", "NoYard", false), ("NoRow", "NoRow", true), ("NoRow", "NoBeam", false), ("NoRow", "NoPan", false), ("NoRow", "NoYard", false), ("NoAsk", "NoRow", false), ("NoRow", "NoAsk", false)] [("NoRow", "at")]) (hB_ValueError : ExB K C ["NoAsk", "NoRow"] "ValueError" true) (ax_BeamError : mg "BeamError" = some (.ref (C.cA "BeamError"))) (ax_NoBeam : mg "NoBeam" = some (.ref (C.cA "NoBeam"))) (ax_NoPan : mg "NoPan" = some (.ref (C.cA "NoPan"))) (ax_NoYard : mg "NoYard" = some (.ref (C.cA "NoYard"))) (ax_NoRow : mg "NoRow" = some (.ref (C.cA "NoRow"))) (ax_NoAsk : mg "NoAsk" = some (.ref (C.cA "NoAsk"))) (xs_BeamError : ∀ c : Str, c ∈ (["NoAsk", "NoRow"] : List Str) → PySem.W.exmOne K (.ref (C.cA c)) (.ref (C.cA "BeamError")) = some true) : GivesS X 1 ["work", "error", "e", "marks"] "_law_word" (defScope s_law_word) g cd (defBody s_law_word) "work" q (TTq C p_law_word04) := by
  subst eP ew eK em eb
  exact q_gives fun m M H std n3 ms s f c1 tl Bh hr act hc1 hn1 ac => by
    have hgu := hgu0
    refine Exists.intro _ (And.intro (
    (qs_cons (q_set (i := 1) sc_law_word.nd rfl (by first | exact Or.inl rfl | exact Or.inr rfl) q_non) (qs_cons (q_tryW (i := 2) (j := 1) (sub := subL ["NoAsk", "NoRow"]) act hc1 hn1 ac sc_law_word.nd rfl rfl (by decide) rfl rfl ax_BeamError (subL_ok xs_BeamError) rfl (by decide) (by decide) (by decide)) (qs_cons (q_ifS (qt_cmp oq_is (q_var 1) q_non) (qs_one (q_ret q_non)) qs_nil) (qs_cons (q_set (i := 3) sc_law_word.nd rfl (by first | exact Or.inl rfl | exact Or.inr rfl) (q_lst (qa_cons (q_bcall (cq_isX hEx "NoAsk") (by rfl) n_isinstance (qa_cons (q_var 1) (qa_cons (q_gcls (by rfl) ax_NoAsk) qa_nil))) (qa_cons (q_bcall (cq_isX hEx "NoRow") (by rfl) n_isinstance (qa_cons (q_var 1) (qa_cons (q_gcls (by rfl) ax_NoRow) qa_nil))) (qa_cons (q_bcall (cq_isXT hEx ["NoBeam", "NoPan", "NoYard"]) (by rfl) n_isinstance (qa_cons (q_var 1) (qa_cons (q_tup (qa_cons (q_gcls (by rfl) ax_NoBeam) (qa_cons (q_gcls (by rfl) ax_NoPan) (qa_cons (q_gcls (by rfl) ax_NoYard) qa_nil)))) qa_nil))) qa_nil))))) (qs_cons (q_ifS (PW.pt (qw_or (qt_cmp (oq_ne hr.u65 hK) (q_count 3 hr.u65 (qa_cons q_bl qa_nil) hK) q_int) (qw_or (qt_val (q_ixV 3 hr.u1 q_int)) (qw_or1 (qt_not (qt_val (q_bcall (cq_isXB hB_ValueError) (by rfl) n_isinstance (qa_cons (q_var 1) (qa_cons (q_ty (n := "ValueError") (by rfl) n_ValueError) qa_nil))))))))) (qs_one (q_ret q_str)) qs_nil) (qs_one (q_ret (q_if (qt_val (q_ixV 3 hr.u1 q_int)) q_str (q_tup (qa_cons q_str (qa_cons (q_fldX hEx (q_var 1)) qa_nil)))))))))))) ?_)
    intro n R h
    change (_ : GS) _ (⟨[some (.raw (.ref f), false), none, none, none], n⟩ : L2.Q.Env)
    one_sign
    refine ⟨rfl, Nat.le_of_ble_eq_true rfl, Nat.le_of_ble_eq_true rfl, _, _, h, fun d fr n' hR => ?_, fun c ks es n' hY => ?_⟩
    · one_sign
      exact ⟨true, rfl, fun _ => hR, fun c => (nomatch c)⟩
    · rcases hY with ⟨rfl, rfl, rfl, hR⟩ | ⟨i, rfl, rfl, rfl, hR⟩
      · refine ⟨rfl, ?_⟩
        one_sign
        refine ⟨false, rfl, fun c => (nomatch c), fun _ => ?_⟩
        refine ⟨rfl, _, rfl, rfl, _, rfl, Nat.le_of_ble_eq_true rfl, rfl, fun c => (nomatch c), _, rfl, Nat.le_of_ble_eq_true rfl, ⟨_, _, rfl⟩, _, _, _, rfl, rfl, rfl, rfl, rfl, rfl, fun c => (nomatch c), fun _ => ?_⟩
        refine ⟨rfl, _, rfl, fun c => (nomatch c), fun _ => ?_⟩
        exact ⟨rfl, List.mem_cons_self, fun c => (nomatch c), fun _ => ⟨rfl, _, rfl, fun _ => hR, fun c => (nomatch c)⟩⟩
      · refine ⟨rfl, ?_⟩
        one_sign
        refine ⟨false, rfl, fun c => (nomatch c), fun _ => ?_⟩
        refine ⟨rfl, _, rfl, rfl, _, rfl, Nat.le_of_ble_eq_true rfl, rfl, fun c => (nomatch c), _, rfl, Nat.le_of_ble_eq_true rfl, ⟨_, _, rfl⟩, _, _, _, rfl, rfl, rfl, rfl, rfl, rfl, fun c => (nomatch c), fun _ => ?_⟩
        refine ⟨rfl, _, rfl, fun c => (nomatch c), fun _ => ?_⟩
        refine ⟨rfl, List.mem_cons_of_mem _ List.mem_cons_self, fun c => (nomatch c), fun _ => ⟨rfl, _, rfl, fun c => (nomatch c), fun _ => ?_⟩⟩
        unfold gFldX
        one_sign
        exact ⟨List.mem_cons_self, _, rfl, Nat.le_of_ble_eq_true rfl, hR⟩
abbrev s_law_spoilt : Stmt := top 55
theorem sc_law_spoilt : FnScope ["state", "rows", "odd", "at"] ["state", "rows"] (defScope s_law_spoilt) := ⟨rfl, rfl, rfl, by decide +kernel, rfl, by decide +kernel, by decide +kernel⟩
abbrev l_law_spoilt : List Str := ["state", "rows"]
theorem ok_law_spoilt {f : Addr} {fd : FuncData} (C : Cn) (hK : C.K = K) (F : Fun K "_law_spoilt" "_law_spoilt" s_law_spoilt f fd)  (n_len : mg "len" = none) {f_law_pick : Addr} {d_law_pick : FuncData} (D__law_pick : DefQ P w K mg base C "_law_pick" 2 f_law_pick d_law_pick l_law_pick p_law_pick) {f_law_next : Addr} {d_law_next : FuncData} (D__law_next : DefQ P w K mg base C "_law_next" 1 f_law_next d_law_next l_law_next p_law_next) : FnOk P w K mg base (L2.CX P w) 3 f fd ["state", "rows"] (spOf C p_law_spoilt04) :=
  q_fun F sc_law_spoilt C (fun ds n R Y h => by obtain ⟨_, _, _, rfl, _⟩ := h; rfl) fun m M H std n3 ms Y cdv A outer s E hr tk => ⟨_,
    (qs_cons (q_set (i := 2) sc_law_spoilt.nd rfl (by first | exact Or.inl rfl | exact Or.inr rfl) (q_callD D__law_pick hr (qa_cons (q_var 0) (qa_cons (q_lst (qa_cons q_non (qa_cons (q_tup qa_nil) (qa_cons (q_tup (qa_cons q_str qa_nil)) (qa_cons q_str (qa_cons q_int (qa_cons (q_tup (qa_cons (q_op oq_mulS q_str q_int) (qa_cons q_non (qa_cons q_non qa_nil)))) (qa_cons (q_tup (qa_cons (q_op oq_mulS q_str q_int) (qa_cons q_non (qa_cons q_non (qa_cons q_str qa_nil))))) (qa_cons (q_lst (qa_cons q_str qa_nil)) qa_nil))))))))) qa_nil)))) (qs_cons (q_ifS (qt_cmp (oq_eq hr.u65 hK) (q_callD D__law_next hr (qa_cons (q_var 0) (qa_cons q_int qa_nil))) q_int) (qs_one (q_ret (q_tup (qa_cons (q_callD D__law_pick hr (qa_cons (q_var 0) (qa_cons (q_lst (qa_cons q_non (qa_cons q_int (qa_cons q_str (qa_cons q_dnew (qa_cons q_bl qa_nil)))))) qa_nil))) (qa_cons q_int qa_nil))))) qs_nil) (qs_cons (q_set (i := 3) sc_law_spoilt.nd rfl (by first | exact Or.inl rfl | exact Or.inr rfl) (q_callD D__law_next hr (qa_cons (q_var 0) (qa_cons (q_op oq_add (q_lenA 1 n_len) q_int) qa_nil)))) (qs_one (q_ret (q_tup (qa_cons (q_op oq_add (q_op oq_add (q_sl (q_var 1) qo_none (qo_some (q_var 3))) (q_lst (qa_cons (q_var 2) qa_nil))) (q_sl (q_var 1) (qo_some (q_var 3)) qo_none)) (qa_cons (q_var 3) qa_nil)))))))), fun ds n R h => by
    obtain ⟨r, p, xs, rfl, ok, hp, hx, hl, hn, hR⟩ := h
    change (_ : GS) _ (⟨[some (_, false), some (_, false), none, none], n⟩ : L2.Q.Env)
    one_sign
    refine ⟨Nat.zero_le _, Nat.le_of_ble_eq_true rfl, q9ok, Nat.le_of_ble_eq_true rfl, q9ok, Nat.le_of_ble_eq_true rfl, Nat.le_of_ble_eq_true rfl, Nat.le_of_ble_eq_true rfl, ?_⟩
    rw [q9is]
    refine ⟨_, rfl, by omega, .inl ⟨_, .inl rfl, by simp, Nat.le_of_ble_eq_true rfl, fun odd hd => ?_⟩⟩
    obtain ⟨o1, o2, o3⟩ := odd_bad ok hd
    have hb : p odd = false := by rcases hp with rfl | rfl <;> assumption
    refine ⟨4, rfl, by omega, by decide, by decide, fun v v0 v1 => ⟨_, rfl, fun c => ?_, fun c => ?_⟩⟩
    · refine ⟨Nat.le_of_ble_eq_true rfl, _, rfl, by omega, .inl ⟨_, .inl rfl, by simp, Nat.le_of_ble_eq_true rfl, fun d hd2 => ?_⟩⟩
      obtain ⟨k1, k2⟩ := no_list hd2 p
      exact ⟨Nat.le_of_ble_eq_true rfl, hR d 0 _ (by omega) k1 k2⟩
    · refine ⟨_, _, rfl, .inr ⟨xs, .inl rfl, _, rfl, by omega, by omega, by omega, fun at_ a0 a1 => ?_⟩⟩
      one_sign
      rw [cutD_take a0, cutD_drop a0]
      obtain ⟨k, rfl⟩ : ∃ k : Nat, at_ = (k : Int) := ⟨at_.toNat, by omega⟩
      have hk : k ≤ xs.length := by omega
      have l1 : (xs.take k).length ≤ 200 := by rw [List.length_take]; omega
      have l2 : (xs.drop k).length ≤ 200 := by rw [List.length_drop]; omega
      have hi : ∀ d ∈ xs, Wbm.It d = true := fun d hd => by
        rcases hp with rfl | rfl
        · obtain ⟨x, rfl, _⟩ := wgX_ok (hx d hd)
          exact okT_it fun e he => (okEl_w0 x e he)
        · obtain ⟨x, rfl, _⟩ := rwX_ok (hx d hd)
          exact okT_it fun e he => (okEl_r0 x e he)
      exact ⟨Nat.le_of_ble_eq_true rfl, by show (xs.take k).length + 1 ≤ _; omega, by rw [List.length_append]; show (xs.take k).length + 1 + (xs.drop k).length ≤ _; omega, Nat.le_of_ble_eq_true rfl, hR _ k _ (by omega) (lg_spoilt hl hi o3) (due_spoilt hk hx hb)⟩⟩
abbrev s_law : Stmt := top 56
theorem sc_law : FnScope ["script", "state", "row", "yard", "good", "tries", "log", "turn_v", "bad", "kept", "some", "at", "rows", "place"] ["script"] (defScope s_law) := ⟨rfl, rfl, rfl, by decide +kernel, rfl, by decide +kernel, by decide +kernel⟩
theorem ok_law {TT : List NdefX.NTab} {f fB : Addr} {fd dB : FuncData} (cA : Str → Addr) (F : Fun K "law" "law" s_law f fd) (B : FnOk P w K mg base CX0 1 fB dB ["script"] (spBegun K)) (gB : mg "_law_begun" = some (.ref fB)) (kB : PySem.W.keepIn K (.ref fB) = true) (bB : Binds K dB ["script"] [])  (n_range : mg "range" = none) (n_repr : mg "repr" = none) {f_law_row : Addr} {d_law_row : FuncData} (D__law_row : ∀ sa, DefQ P w K mg base ⟨K, cA, sa, TT⟩ "_law_row" 4 f_law_row d_law_row l_law_row p_law_row) {f_law_world : Addr} {d_law_world : FuncData} (D__law_world : ∀ sa, DefQ P w K mg base ⟨K, cA, sa, TT⟩ "_law_world" 2 f_law_world d_law_world l_law_world p_law_world) {f_law_weighing : Addr} {d_law_weighing : FuncData} (D__law_weighing : ∀ sa, DefQ P w K mg base ⟨K, cA, sa, TT⟩ "_law_weighing" 3 f_law_weighing d_law_weighing l_law_weighing p_law_weighing) {f_law_pick : Addr} {d_law_pick : FuncData} (D__law_pick : ∀ sa, DefQ P w K mg base ⟨K, cA, sa, TT⟩ "_law_pick" 2 f_law_pick d_law_pick l_law_pick p_law_pick) {f_law_next : Addr} {d_law_next : FuncData} (D__law_next : ∀ sa, DefQ P w K mg base ⟨K, cA, sa, TT⟩ "_law_next" 1 f_law_next d_law_next l_law_next p_law_next) {f_law_told : Addr} {d_law_told : FuncData} (D__law_told : ∀ sa, DefQ P w K mg base ⟨K, cA, sa, TT⟩ "_law_told" 2 f_law_told d_law_told l_law_told p_law_told) {f_law_bent : Addr} {d_law_bent : FuncData} (D__law_bent : ∀ sa, DefQ P w K mg base ⟨K, cA, sa, TT⟩ "_law_bent" 3 f_law_bent d_law_bent l_law_bent p_law_bent04) {f_law_spoilt : Addr} {d_law_spoilt : FuncData} (D__law_spoilt : ∀ sa, DefQ P w K mg base ⟨K, cA, sa, TT⟩ "_law_spoilt" 3 f_law_spoilt d_law_spoilt l_law_spoilt p_law_spoilt04) {f_told_by : Addr} {d_told_by : FuncData} (D_told_by : ∀ sa, DefQ P w K mg base ⟨K, cA, sa, TT⟩ "told_by" 7 f_told_by d_told_by l_told_by p_told_by) {f_is_world : Addr} {d_is_world : FuncData} (D_is_world : ∀ sa, DefQ P w K mg base ⟨K, cA, sa, TT⟩ "is_world" 7 f_is_world d_is_world l_is_world p_is_world) {f_told_byX : Addr} {d_told_byX : FuncData} (D_told_byX : ∀ sa, DefQ P w K mg base ⟨K, cA, sa, TT⟩ "told_by" 7 f_told_byX d_told_byX l_told_by p_told_byX) {f_is_worldX : Addr} {d_is_worldX : FuncData} (D_is_worldX : ∀ sa, DefQ P w K mg base ⟨K, cA, sa, TT⟩ "is_world" 7 f_is_worldX d_is_worldX l_is_world p_is_worldX) {f_shiftsX : Addr} {d_shiftsX : FuncData} (D_shiftsX : ∀ sa, DefQ P w K mg base ⟨K, cA, sa, TT⟩ "shifts" 7 f_shiftsX d_shiftsX l_shifts p_shiftsX) (L__law_word : ∀ sa, DefL P w K mg base ⟨K, cA, sa, TT⟩ "_law_word" 1 p_law_word04) {cL T0 : Addr} {nmL : Nat → Nat → Str} (TBL : LamX.TabB base mg cL T0) (hcL : fd.code = .ref cL) (hTL : (T0, nmL) ∈ TT) (huL : ∀ q ∈ TT, q.1 = T0 → q.2 = nmL) (hnL : ∀ a b, nmL a b = "law.<locals>.<lambda>") (hsys : (K.lookup sysModules).isSome = true) {fI : Addr} {dI : FuncData} {gI : List Value → List Value → List Value} (mk_Y : Mk K (cA "Yard") fI) (ok_Y : FnOk P w K mg base (L2.CX P w) 4 fI dI ["self", "things", "beams", "most", "lean"] (L2.K01.spInitL (cA "Yard"))) (at_Y : mg "Yard" = some (.ref (cA "Yard"))) (bn_Y : KBn K dI ["self", "things", "beams", "most", "lean"] 3 ["most", "lean"] gI (fun vs zs => vs ++ zs)) : WG P w K mg base (L2.CX P w) 10 f fd ["script"] (spLawT K TT) :=
  q_top (y := "state") (N := ["row", "yard", "good", "tries", "log", "turn_v", "bad", "kept", "some", "at", "rows", "place"]) cA F sc_law rfl B gB kB bB (by decide) (fun _ _ _ _ _ _ => by rfl) (fun _ _ _ _ _ _ => by rfl) (by first | exact Or.inl rfl | exact Or.inr (Or.inl rfl) | exact Or.inr (Or.inr rfl)) (by first | exact Or.inl rfl | exact Or.inr rfl) (fun _ _ _ _ _ _ => by rfl) fun sa gl cl H1 std n3 ms cdv hcv A outer s H E aScript hgu hr tk => by
  have hK : (⟨K, cA, sa, TT⟩ : Cn).K = K := rfl
  have hcode := hcv.symm.trans hcL
  refine Exists.intro _ (And.intro (
    (qs_cons (q_set (i := 2) sc_law.nd rfl (by first | exact Or.inl rfl | exact Or.inr rfl) (q_callD (D__law_row sa) hr (qa_cons (q_var 1) (qa_cons q_int (qa_cons q_int (qa_cons q_int (qa_cons q_int qa_nil))))))) (qs_cons (q_asg (q_tup (qa_cons (q_makeY mk_Y ok_Y (hr.mono (by decide)) (by rfl) at_Y bn_Y (qa_cons (q_ixV 2 hr.u1 q_int) (qa_cons (q_ixV 2 hr.u1 q_int) qa_nil)) (qk_cons (q_ixV 2 hr.u1 q_int) (qk_cons (q_ixV 2 hr.u1 q_int) qk_nil))) (qa_cons (q_callD (D__law_world sa) hr (qa_cons (q_var 1) (qa_cons (q_var 2) qa_nil))) qa_nil))) (qg_tup (n := 2) rfl (qgs_cons (qg_name (i := 3) sc_law.nd rfl (by first | exact Or.inl rfl | exact Or.inr rfl)) (qgs_cons (qg_name (i := 4) sc_law.nd rfl (by first | exact Or.inl rfl | exact Or.inr rfl)) qgs_nil)))) (qs_cons (q_set (i := 5) sc_law.nd rfl (by first | exact Or.inl rfl | exact Or.inr rfl) (q_lc [("turn_v", 7)] rfl sc_law.nd (blkOk_by (own := [("turn_v", 7)]) (N := ["script", "state", "row", "yard", "good", "tries", "log", "turn_v", "bad", "kept", "some", "at", "rows", "place"]) (sc := defScope s_law) (by decide +kernel)) (qi_range1 (by rfl) n_range (qa_cons (q_callD (D__law_pick sa) hr (qa_cons (q_var 1) (qa_cons (q_lst (qa_cons (q_callD (D__law_next sa) hr (qa_cons (q_var 1) (qa_cons q_int qa_nil))) (qa_cons q_int (qa_cons q_int qa_nil)))) qa_nil))) qa_nil)) (fun _ _ _ _ _ _ _ _ => (qg_name (i := 7) sc_law.nd rfl (by first | exact Or.inl rfl | exact Or.inr rfl))) (fun _ _ _ _ _ _ _ _ => (q_callD (D__law_weighing sa) hr (qa_cons (q_var 1) (qa_cons (q_var 2) qa_nil)))))) (qs_cons (q_set (i := 6) sc_law.nd rfl (by first | exact Or.inl rfl | exact Or.inr rfl) (q_callD (D__law_told sa) hr (qa_cons (q_var 2) (qa_cons (q_var 4) (qa_cons (q_var 5) qa_nil))))) (qs_cons (q_for (passes_of rfl) rfl (qi_range1 (by rfl) n_range (qa_cons q_int qa_nil)) (qg_name (i := 7) sc_law.nd rfl (by first | exact Or.inl rfl | exact Or.inr rfl)) (qs_cons (q_set (i := 8) sc_law.nd rfl (by first | exact Or.inl rfl | exact Or.inr rfl) (q_callD (D__law_bent sa) hr (qa_cons (q_var 1) (qa_cons (q_var 2) (qa_cons (q_var 4) qa_nil))))) (qs_cons (q_set (i := 9) sc_law.nd rfl (by first | exact Or.inl rfl | exact Or.inr rfl) (q_bcall (cq_repr hgu hr hsys) (by rfl) n_repr (qa_cons (q_var 8) qa_nil))) (qs_cons (q_ifS (PW.pt (qw_or (qt_cmp oq_isntB (q_callD (D_is_worldX sa) hr (qa_cons (q_var 3) (qa_cons (q_var 6) (qa_cons (q_var 8) qa_nil)))) q_bl) (qw_or1 (qt_cmp (oq_ne hr.u65 hK) (q_lamD [3, 8, 5] (L__law_word sa) hgu TBL hcode hTL huL hr (fun _ _ _ _ _ _ _ _ _ _ _ _ Z hr tk => by exact (q_callXZ (Z := Z) rfl tk (D_told_byX sa) hr (qa_cons (q_var 3) (qa_cons (q_var 8) (qa_cons (q_var 5) qa_nil))))) (hn := (hnL _ _).trans rfl) (k := 7) (L := LamX.lamS_by (sc := defScope s_law) (by decide +kernel))) q_str)))) (qs_one (q_ret q_bl)) qs_nil) (qs_cons (q_asg (q_callD (D__law_spoilt sa) hr (qa_cons (q_var 1) (qa_cons (q_var 5) qa_nil))) (qg_tup (n := 2) rfl (qgs_cons (qg_name (i := 10) sc_law.nd rfl (by first | exact Or.inl rfl | exact Or.inr rfl)) (qgs_cons (qg_name (i := 11) sc_law.nd rfl (by first | exact Or.inl rfl | exact Or.inr rfl)) qgs_nil)))) (qs_cons (q_asg (q_callD (D__law_spoilt sa) hr (qa_cons (q_var 1) (qa_cons (q_var 6) qa_nil))) (qg_tup (n := 2) rfl (qgs_cons (qg_name (i := 12) sc_law.nd rfl (by first | exact Or.inl rfl | exact Or.inr rfl)) (qgs_cons (qg_name (i := 13) sc_law.nd rfl (by first | exact Or.inl rfl | exact Or.inr rfl)) qgs_nil)))) (qs_cons (q_ifS (qt_cmp (oq_ne hr.u65 hK) (q_lamD [3, 8, 10] (L__law_word sa) hgu TBL hcode hTL huL hr (fun _ _ _ _ _ _ _ _ _ _ _ _ Z hr tk => by exact (q_callXZ (Z := Z) rfl tk (D_told_byX sa) hr (qa_cons (q_var 3) (qa_cons (q_var 8) (qa_cons (q_var 10) qa_nil))))) (hn := (hnL _ _).trans rfl) (k := 7) (L := LamX.lamS_by (sc := defScope s_law) (by decide +kernel))) q_str) (qs_one (q_ret q_bl)) qs_nil) (qs_cons (q_ifS (qt_cmp (oq_ne hr.u65 hK) (q_lamD [3, 4, 10] (L__law_word sa) hgu TBL hcode hTL huL hr (fun _ _ _ _ _ _ _ _ _ _ _ _ Z hr tk => by exact (q_callXZ (Z := Z) rfl tk (D_told_byX sa) hr (qa_cons (q_var 3) (qa_cons (q_var 4) (qa_cons (q_var 10) qa_nil))))) (hn := (hnL _ _).trans rfl) (k := 7) (L := LamX.lamS_by (sc := defScope s_law) (by decide +kernel))) (q_tup (qa_cons q_str (qa_cons (q_var 11) qa_nil)))) (qs_one (q_ret q_bl)) qs_nil) (qs_cons (q_ifS (qt_cmp (oq_ne hr.u65 hK) (q_lamD [3, 12, 8] (L__law_word sa) hgu TBL hcode hTL huL hr (fun _ _ _ _ _ _ _ _ _ _ _ _ Z hr tk => by exact (q_callXZ (Z := Z) rfl tk (D_is_worldX sa) hr (qa_cons (q_var 3) (qa_cons (q_var 12) (qa_cons (q_var 8) qa_nil))))) (hn := (hnL _ _).trans rfl) (k := 7) (L := LamX.lamS_by (sc := defScope s_law) (by decide +kernel))) (q_tup (qa_cons q_str (qa_cons (q_var 13) qa_nil)))) (qs_one (q_ret q_bl)) qs_nil) (qs_cons (q_ifS (qt_cmp (oq_ne hr.u65 hK) (q_lamD [3, 12, 4] (L__law_word sa) hgu TBL hcode hTL huL hr (fun _ _ _ _ _ _ _ _ _ _ _ _ Z hr tk => by exact (q_callXZ (Z := Z) rfl tk (D_is_worldX sa) hr (qa_cons (q_var 3) (qa_cons (q_var 12) (qa_cons (q_var 4) qa_nil))))) (hn := (hnL _ _).trans rfl) (k := 7) (L := LamX.lamS_by (sc := defScope s_law) (by decide +kernel))) (q_tup (qa_cons q_str (qa_cons (q_var 13) qa_nil)))) (qs_one (q_ret q_bl)) qs_nil) (qs_one (q_ifS (PW.pt (qw_or (qt_cmp (oq_ne hr.u65 hK) (q_lamD [3, 12] (L__law_word sa) hgu TBL hcode hTL huL hr (fun _ _ _ _ _ _ _ _ _ _ _ _ Z hr tk => by exact (q_callXZ (Z := Z) rfl tk (D_shiftsX sa) hr (qa_cons (q_var 3) (qa_cons (q_var 12) qa_nil)))) (hn := (hnL _ _).trans rfl) (k := 7) (L := LamX.lamS_by (sc := defScope s_law) (by decide +kernel))) (q_tup (qa_cons q_str (qa_cons (q_var 13) qa_nil)))) (qw_or1 (qt_cmp (oq_ne hr.u65 hK) (q_bcall (cq_repr hgu hr hsys) (by rfl) n_repr (qa_cons (q_var 8) qa_nil)) (q_var 9))))) (qs_one (q_ret q_bl)) qs_nil)))))))))))) (qs_one (q_ret (q_and (q_cmp oq_isB (q_callD (D_is_world sa) hr (qa_cons (q_var 3) (qa_cons (q_var 6) (qa_cons (q_var 4) qa_nil)))) q_bl) (q_one (q_cmp (oq_eq hr.u65 hK) (q_bcall (cq_repr hgu hr hsys) (by rfl) n_repr (qa_cons (q_callD (D_told_by sa) hr (qa_cons (q_var 3) (qa_cons (q_var 4) (qa_cons (q_var 5) qa_nil)))) qa_nil)) (q_bcall (cq_repr hgu hr hsys) (by rfl) n_repr (qa_cons (q_var 6) qa_nil))))))))))))) ?_)
  change (_ : GS) _ (⟨[some (_, false), some (D.st, false), none, none, none, none, none, none, none, none, none, none, none, none], 0⟩ : L2.Q.Env)
  one_sign
  refine ⟨rfl, by omega, fun r n1 hn1 rok => ?_⟩
  unfold gMakeY
  one_sign
  refine ⟨rfl, _, rfl, rfl, _, rfl, rfl, _, rfl, rfl, _, rfl, r, rfl, rfl, rok, ?_⟩
  one_sign
  refine ⟨r, rfl, rok, by omega, fun wt ln n2 hn2 hw => ?_⟩
  one_sign
  refine ⟨Nat.le_of_ble_eq_true rfl, rfl, rfl, ?_⟩
  unfold gLc
  one_sign
  refine ⟨21, rfl, by omega, by decide, by decide, fun v v0 v1 => ⟨Nat.le_of_ble_eq_true rfl, _, rfl, by omega, .inl ⟨_, .inl rfl, by simp, Nat.le_of_ble_eq_true rfl, fun d hd => ?_⟩⟩⟩
  obtain ⟨many, rfl, hm⟩ : ∃ m : Nat, d = .int m ∧ m ≤ 119 := by
    simp only [List.mem_cons, List.not_mem_nil, or_false] at hd
    rcases hd with h | h | h <;> subst h
    · exact ⟨v.toNat, by rw [Int.toNat_of_nonneg v0], by omega⟩
    · exact ⟨3, rfl, by decide⟩
    · exact ⟨119, rfl, by decide⟩
  refine ⟨by omega, by omega, ?_⟩
  rw [show ((many : Int)).toNat = many by omega]
  refine lc_all (fun d z => ∃ x, z = wD x ∧ okW r x) 3 (noOwn_of rfl) (by rw [rangeD_len]; omega) (fun d hd m hm K K' hkk => ?_) (fun us m hu hm => ?_)
  · rw [rangeD_len] at hm
    one_sign
    exact ⟨fun _ => ⟨r, rfl, rok, by omega, fun x n' hn' hx => hkk _ _ _ _ ⟨x, rfl, hx⟩ hn' rfl⟩, fun c => (nomatch c)⟩
  rw [rangeD_len] at hm
  have hul : us.length = many := by rw [hu.len, rangeD_len]
  obtain ⟨ws, rfl, hws, hwl⟩ := lift_wD (hu.right (S := fun y => ∃ x, y = wD x ∧ okW r x) fun x y h => h)
  rw [hul] at hwl
  one_sign
  refine ⟨r, r.names, wt, _, ln, ws, rfl, rok, hw, hws, by omega, ?_⟩
  have hD1 : ∀ y ∈ tellR (stF r) wt ln ws, okR r y := tellR_ok hws
  have hD2 : (tellR (stF r) wt ln ws).length = ws.length := tellR_len
  have hDf : (tellR (stF r) wt ln ws).map (·.1) = ws := tellR_fst
  have sD := sd_rws rok hD1 (by omega)
  generalize hDg : tellR (stF r) wt ln ws = dl at *
  have gW : ∀ d ∈ ws.map wD, isWgX r d = true := fun d hd => by
    obtain ⟨x, hx, rfl⟩ := List.mem_map.mp hd
    exact isWgX_w (hws x hx)
  have gR : ∀ d ∈ dl.map rwD, isRwX r d = true := fun d hd => by
    obtain ⟨x, hx, rfl⟩ := List.mem_map.mp hd
    exact isRwX_r (hD1 x hx)
  have lW : Lg (.lst (ws.map wD)) := lg_good (by rw [List.length_map]; omega) fun d hd => by
    obtain ⟨x, hx, rfl⟩ := List.mem_map.mp hd
    exact it_w
  have lR : Lg (.lst (dl.map rwD)) := lg_good (by rw [List.length_map]; omega) fun d hd => by
    obtain ⟨x, hx, rfl⟩ := List.mem_map.mp hd
    exact it_r
  refine for_open ?_
  one_sign
  refine ⟨by decide, by decide, ?_⟩
  refine forI_inv [6, 7, 8, 9, 10, 11, 12, 13] 20 (fun i f => ∃ fr, f 6 = some (.lst (dl.map rwD), fr)) ⟨_, rfl⟩ (fun i d f n hd hn ⟨fr, g6⟩ => ?_) (fun f n hn ⟨fr, g6⟩ => ?_)
  · obtain ⟨hi, rfl⟩ := rangeD_get hd
    have hi2 : i < 8 := hi
    have hn : n ≤ 2000 := by omega
    dsimp only [putW, setS]
    rw [g6]
    cases fr
    all_goals
      k_offL
      refine ⟨r, wt, ln, rfl, rok, hw, by omega, fun bad n4 hn4 b1 b2 b3 => ?_⟩
      one_sign
      refine sd_repr b3 ?_
      one_sign
      refine ⟨r, _, bad, rfl, rok.ok, b1, lR, .inr ⟨due_good gR, b2, ?_⟩⟩
      one_sign
      refine ⟨fun c => (nomatch c), fun _ => ?_⟩
      unfold gLamG
      dsimp only [frzL]
      one_sign
      dsimp only [shS, shO_f, shO_n, shO_t, p_law_word04]
      one_sign
      refine ⟨r, bad, _, rfl, rok.ok, b1, lW, fun _ => .inl ⟨rfl, rfl, rfl, ?_⟩, fun c => by rw [b2] at c; cases c⟩
      refine ⟨rfl, rfl, fun c => absurd (c.symm.trans (ne_self _)) (by decide), fun _ => ?_⟩
      refine ⟨r, isWgX r, _, rfl, rok, .inl rfl, gW, by rw [List.length_map]; omega, by omega, fun t1 i1 n5 hn5 l1 d1 => ?_⟩
      one_sign
      refine ⟨rfl, rfl, r, isRwX r, _, rfl, rok, .inr rfl, gR, by rw [List.length_map]; omega, by omega, fun t2 i2 n6 hn6 l2 d2 => ?_⟩
      one_sign
      refine ⟨rfl, rfl, r, bad, t1, rfl, rok.ok, b1, l1, fun _ => .inl ⟨rfl, rfl, rfl, ?_⟩, fun c => by rw [b2] at c; cases c⟩
      refine ⟨rfl, rfl, fun c => absurd (c.symm.trans (ne_self _)) (by decide), fun _ => ?_⟩
      refine ⟨r, _, t1, rfl, rok.ok, wx_good _ _ _ _, l1, fun c => (by rw [wdX_good hw] at c; cases c), fun _ => ⟨i1, d1, .inr ⟨_, rfl, rfl, rfl, ?_⟩⟩⟩
      refine ⟨Nat.le_of_ble_eq_true rfl, rfl, rfl, fun c => absurd (c.symm.trans (ne_row _)) (by decide), fun _ => ?_⟩
      refine ⟨r, t2, bad, rfl, rok.ok, b1, l2, .inl ⟨i2, d2, .inr ⟨_, rfl, rfl, rfl, ?_⟩⟩⟩
      refine ⟨Nat.le_of_ble_eq_true rfl, rfl, rfl, fun c => absurd (c.symm.trans (ne_row _)) (by decide), fun _ => ?_⟩
      refine ⟨r, t2, _, rfl, rok.ok, wx_good _ _ _ _, l2, .inl ⟨i2, d2, .inr ⟨_, rfl, rfl, rfl, ?_⟩⟩⟩
      refine ⟨Nat.le_of_ble_eq_true rfl, rfl, rfl, fun c => absurd (c.symm.trans (ne_row _)) (by decide), fun _ => ?_⟩
      refine ⟨r, t2, rfl, rok.ok, l2, i2, d2, .inr ⟨_, rfl, rfl, rfl, ?_⟩⟩
      refine ⟨Nat.le_of_ble_eq_true rfl, rfl, rfl, fun c => absurd (c.symm.trans (ne_row _)) (by decide), fun _ => ?_⟩
      exact sd_repr b3 ⟨rfl, rfl, fun c => absurd (c.symm.trans (ne_self _)) (by decide), fun _ => ⟨by show n6 ≤ _; omega, rfl, _, rfl⟩⟩
  · rw [rangeD_len] at hn
    dsimp only [putW, setS]
    rw [g6]
    cases fr
    all_goals
      k_offL
      refine ⟨r, r.names, wt, _, ln, dl, _, rfl, rok.ok, hw, .inl rfl, hD1, by omega, fun b hb => ?_⟩
      have hbt : b = true := hb.mpr (by rw [hDf]; exact hDg)
      subst hbt
      have es : ∀ x : Str, eqT (.str x) (.str x) = some true := fun x => by
        show some (eqD (.str x) (.str x)) = _
        rw [eqD_str, beq_self_eq_true]
      refine ⟨fun _ => ⟨r, r.names, wt, _, ln, ws, _, rfl, rok.ok, hw, .inl rfl, hws, by omega, ?_⟩, fun c => (nomatch c)⟩
      rw [hDg]
      exact sd_repr sD (sd_repr sD ⟨true, es _, rfl⟩)
end
end L2.Q.Lw
set_option Elab.async false
set_option linter.all false
set_option maxRecDepth 100000
set_option maxHeartbeats 8000000
namespace L2.Q.Lw
open PySem PySem.Spec PyProof.Rows L2 L2.Wb L2.Q L2.Q.Wbm He
theorem turns_of {K : PySem.W.Frag} {w : World} {a : Addr} (h : ∃ es n, L2.KDict K w a es n) (v : valsB K a [("left", .int (-1)), ("even", .int 0), ("right", .int 1)] = true) : ∀ z i, v_TURNS z = some i → KDct K w a z (.int i) := fun z i e => by
  unfold v_TURNS at e
  split at e
  · rename_i hz
    have e2 := Option.some.inj e
    subst e2
    unfold words at hz
    simp only [List.mem_cons, List.not_mem_nil, or_false] at hz
    rcases hz with rfl | rfl | rfl
    · exact kdct_of (q := ("left", .int (-1))) h v (by simp)
    · exact kdct_of (q := ("even", .int 0)) h v (by simp)
    · exact kdct_of (q := ("right", .int 1)) h v (by simp)
  · cases e
theorem is_one_of {P : Program} {w : World} {K : PySem.W.Frag} {mg : Str → Option Value} {base : Heap} {C : Cn} {fr fw : Addr} {dr dw : FuncData} {lr lw : List Str} {kr kw : Nat} (hr : True → DefQ P w K mg base C "is_row" kr fr dr lr p_is_row) (hw : True → DefQ P w K mg base C "is_weighing" kw fw dw lw p_is_weighing) (lr' : kr ≤ 4 := by decide) (lw' : kw ≤ 4 := by decide) :
    ∀ v p, sOne fr fw v = some p → ∃ f fd prm, v = .ref f ∧ FnOk P w K mg base (L2.CX P w) 4 f fd prm (spOf C p) ∧ PySem.W.keepIn K (.ref f) = true ∧ Binds K fd prm [] := fun v p h => by
  unfold sOne at h
  split at h
  · rename_i e
    cases h
    exact ⟨fr, dr, lr, e, (hr trivial).ok.mono lr', (hr trivial).kp, (hr trivial).bd⟩
  · split at h
    · rename_i e
      cases h
      exact ⟨fw, dw, lw, e, (hw trivial).ok.mono lw', (hw trivial).kp, (hw trivial).bd⟩
    · cases h
theorem is_one_ofX {P : Program} {w : World} {K : PySem.W.Frag} {mg : Str → Option Value} {base : Heap} {C : Cn} {fr fw : Addr} {dr dw : FuncData} {lr lw : List Str} {kr kw : Nat} (hr : True → DefQ P w K mg base C "is_row" kr fr dr lr p_is_rowX) (hw : True → DefQ P w K mg base C "is_weighing" kw fw dw lw p_is_weighingX) (lr' : kr ≤ 4 := by decide) (lw' : kw ≤ 4 := by decide) :
    ∀ v p, sOneX fr fw v = some p → ∃ f fd prm, v = .ref f ∧ FnOk P w K mg base (L2.CX P w) 4 f fd prm (spOf C p) ∧ PySem.W.keepIn K (.ref f) = true ∧ Binds K fd prm [] := fun v p h => by
  unfold sOneX at h
  split at h
  · rename_i e
    cases h
    exact ⟨fr, dr, lr, e, (hr trivial).ok.mono lr', (hr trivial).kp, (hr trivial).bd⟩
  · split at h
    · rename_i e
      cases h
      exact ⟨fw, dw, lw, e, (hw trivial).ok.mono lw', (hw trivial).kp, (hw trivial).bd⟩
    · cases h
theorem code_of {K : PySem.W.Frag} {st : Stmt} {fd : FuncData} (F : Fun K "law" "law" st (fAd K ("law", none)) fd) : fd.code = .ref (cT K ("law", none)).1 := by
  obtain ⟨oc, od, kV, doc, pm, an, cdv, ct, osl, rfl, lk, hcd⟩ := F.ex
  obtain ⟨c, rfl⟩ := codeIn_ref hcd
  show Value.ref c = .ref (codeOf K _)
  rw [codeOf_eq lk rfl]
theorem law_ok {w : World} {K : PySem.W.Frag} {h : Heap} {mg : Str → Option Value} {fa : Addr} {P : Program} (hP : P = PySem.Challenge.pw_wearybeams_k04_what_is_no_world) (X : K.In h) (G : h.Ns mainGlobals mg) (hfa : mg ("law" : Str) = some (.ref fa)) (c : SaysQ fcts fns fcs tbs w K) :
    ∃ fd : FuncData, (∀ (s : Shared) (v : Value), BindsTo s fd ⟨[v], []⟩ [("script", v)]) ∧ ∀ base : Heap, K.In base → base.Ns mainGlobals mg → (∀ p ∈ [cT K ("law", none)], LamX.TabB base mg p.1 p.2) → WG P w K mg base CX0 10 fa fd ["script"] (spLawT K (TTs K)) := by
  subst hP
  obtain ⟨d_is_number, G_is_number⟩ := c.d.def_ 0 (d := gD "is_number" 8) rfl
  obtain ⟨d_is_list, G_is_list⟩ := c.d.def_ 1 (d := gD "is_list" 9) rfl
  obtain ⟨d_is_tuple, G_is_tuple⟩ := c.d.def_ 2 (d := gD "is_tuple" 10) rfl
  obtain ⟨d_pans_of, G_pans_of⟩ := c.d.def_ 3 (d := gD "pans_of" 13) rfl
  obtain ⟨d_names_of, G_names_of⟩ := c.d.def_ 4 (d := gD "names_of" 14) rfl
  obtain ⟨d__are_unlike, G__are_unlike⟩ := c.d.def_ 5 (d := gD "_are_unlike" 15) rfl
  obtain ⟨d_is_weighing, G_is_weighing⟩ := c.d.def_ 6 (d := gD "is_weighing" 16) rfl
  obtain ⟨d_is_row, G_is_row⟩ := c.d.def_ 7 (d := gD "is_row" 17) rfl
  obtain ⟨d__need_each, G__need_each⟩ := c.d.def_ 8 (d := gD "_need_each" 18) rfl
  obtain ⟨d_need_log, G_need_log⟩ := c.d.def_ 9 (d := gD "need_log" 19) rfl
  obtain ⟨d_need_weighings, G_need_weighings⟩ := c.d.def_ 10 (d := gD "need_weighings" 20) rfl
  obtain ⟨d_turn, G_turn⟩ := c.d.def_ 11 (d := gD "turn" 23) rfl
  obtain ⟨d_shifts, G_shifts⟩ := c.d.def_ 12 (d := gD "shifts" 24) rfl
  obtain ⟨d_word_of, G_word_of⟩ := c.d.def_ 13 (d := gD "word_of" 25) rfl
  obtain ⟨d_in_pans, G_in_pans⟩ := c.d.def_ 14 (d := gD "in_pans" 26) rfl
  obtain ⟨d__words, G__words⟩ := c.d.def_ 15 (d := gD "_words" 27) rfl
  obtain ⟨d__are_numbers, G__are_numbers⟩ := c.d.def_ 16 (d := gD "_are_numbers" 28) rfl
  obtain ⟨d_is_some_world, G_is_some_world⟩ := c.d.def_ 17 (d := gD "is_some_world" 29) rfl
  obtain ⟨d_need_some_world, G_need_some_world⟩ := c.d.def_ 18 (d := gD "need_some_world" 30) rfl
  obtain ⟨d_told_by, G_told_by⟩ := c.d.def_ 19 (d := gD "told_by" 31) rfl
  obtain ⟨d_is_world, G_is_world⟩ := c.d.def_ 20 (d := gD "is_world" 32) rfl
  obtain ⟨d_is_name, G_is_name⟩ := c.d.def_ 21 (d := gD "is_name" 36) rfl
  obtain ⟨d__are_names, G__are_names⟩ := c.d.def_ 22 (d := gD "_are_names" 37) rfl
  obtain ⟨d__are_things, G__are_things⟩ := c.d.def_ 23 (d := gD "_are_things" 38) rfl
  obtain ⟨d__is_beam, G__is_beam⟩ := c.d.def_ 24 (d := gD "_is_beam" 39) rfl
  obtain ⟨d__are_beams, G__are_beams⟩ := c.d.def_ 25 (d := gD "_are_beams" 40) rfl
  obtain ⟨d__few_leans, G__few_leans⟩ := c.d.def_ 26 (d := gD "_few_leans" 41) rfl
  obtain ⟨d__law_begun, G__law_begun⟩ := c.d.def_ 27 (d := gD "_law_begun" 44) rfl
  obtain ⟨d__law_next, G__law_next⟩ := c.d.def_ 28 (d := gD "_law_next" 45) rfl
  obtain ⟨d__law_pick, G__law_pick⟩ := c.d.def_ 29 (d := gD "_law_pick" 46) rfl
  obtain ⟨d__law_names, G__law_names⟩ := c.d.def_ 30 (d := gD "_law_names" 47) rfl
  obtain ⟨d__law_row, G__law_row⟩ := c.d.def_ 31 (d := gD "_law_row" 48) rfl
  obtain ⟨d__law_weighing, G__law_weighing⟩ := c.d.def_ 32 (d := gD "_law_weighing" 49) rfl
  obtain ⟨d__law_world, G__law_world⟩ := c.d.def_ 33 (d := gD "_law_world" 50) rfl
  obtain ⟨d__law_sign, G__law_sign⟩ := c.d.def_ 34 (d := gD "_law_sign" 51) rfl
  obtain ⟨d__law_told, G__law_told⟩ := c.d.def_ 35 (d := gD "_law_told" 52) rfl
  obtain ⟨d__law_bent, G__law_bent⟩ := c.d.def_ 36 (d := gD "_law_bent" 53) rfl
  obtain ⟨d__law_word, G__law_word⟩ := c.d.def_ 37 (d := gD "_law_word" 54) rfl
  obtain ⟨d__law_spoilt, G__law_spoilt⟩ := c.d.def_ 38 (d := gD "_law_spoilt" 55) rfl
  obtain ⟨d_law, G_law⟩ := c.d.def_ 39 (d := gD "law" 56) rfl
  obtain ⟨d_Yard___init__, G_Yard___init__⟩ := c.d.def_ 40 (d := gMK "Yard" "__init__" 42 0) rfl
  obtain ⟨d_Yard_things, G_Yard_things⟩ := c.d.def_ 41 (d := gM "Yard" "things" 42 1) rfl
  obtain ⟨d_Yard_beams, G_Yard_beams⟩ := c.d.def_ 42 (d := gM "Yard" "beams" 42 2) rfl
  obtain ⟨d_Yard_most, G_Yard_most⟩ := c.d.def_ 43 (d := gM "Yard" "most" 42 3) rfl
  obtain ⟨d_Yard_lean, G_Yard_lean⟩ := c.d.def_ 44 (d := gM "Yard" "lean" 42 4) rfl
  obtain ⟨d_Yard_step, G_Yard_step⟩ := c.d.def_ 45 (d := gM "Yard" "step" 42 5) rfl
  have F_is_number := fun_of (st := top 8) G_is_number
  have b_is_number := F_is_number.binds (ps := ["thing", "first", "last"]) fun _ _ _ _ _ _ us hl => match us, hl with | [_, _, _], _ => rfl
  have F_is_list := fun_of (st := top 9) G_is_list
  have b_is_list := F_is_list.binds (ps := ["thing"]) fun _ _ _ _ _ _ us hl => match us, hl with | [_], _ => rfl
  have F_is_tuple := fun_of (st := top 10) G_is_tuple
  have b_is_tuple := F_is_tuple.binds (ps := ["thing", "many"]) fun _ _ _ _ _ _ us hl => match us, hl with | [_, _], _ => rfl
  have F_pans_of := fun_of (st := top 13) G_pans_of
  have b_pans_of := F_pans_of.binds (ps := ["yard"]) fun _ _ _ _ _ _ us hl => match us, hl with | [_], _ => rfl
  have F_names_of := fun_of (st := top 14) G_names_of
  have b_names_of := F_names_of.binds (ps := ["yard"]) fun _ _ _ _ _ _ us hl => match us, hl with | [_], _ => rfl
  have F__are_unlike := fun_of (st := top 15) G__are_unlike
  have b__are_unlike := F__are_unlike.binds (ps := ["left", "right"]) fun _ _ _ _ _ _ us hl => match us, hl with | [_, _], _ => rfl
  have F_is_weighing := fun_of (st := top 16) G_is_weighing
  have b_is_weighing := F_is_weighing.binds (ps := ["yard", "thing"]) fun _ _ _ _ _ _ us hl => match us, hl with | [_, _], _ => rfl
  have F_is_row := fun_of (st := top 17) G_is_row
  have b_is_row := F_is_row.binds (ps := ["yard", "thing"]) fun _ _ _ _ _ _ us hl => match us, hl with | [_, _], _ => rfl
  have F__need_each := fun_of (st := top 18) G__need_each
  have b__need_each := F__need_each.binds (ps := ["yard", "things", "is_one"]) fun _ _ _ _ _ _ us hl => match us, hl with | [_, _, _], _ => rfl
  have F_need_log := fun_of (st := top 19) G_need_log
  have b_need_log := F_need_log.binds (ps := ["yard", "log"]) fun _ _ _ _ _ _ us hl => match us, hl with | [_, _], _ => rfl
  have F_need_weighings := fun_of (st := top 20) G_need_weighings
  have b_need_weighings := F_need_weighings.binds (ps := ["yard", "things"]) fun _ _ _ _ _ _ us hl => match us, hl with | [_, _], _ => rfl
  have F_turn := fun_of (st := top 23) G_turn
  have b_turn := F_turn.binds (ps := ["yard", "beam", "word"]) fun _ _ _ _ _ _ us hl => match us, hl with | [_, _, _], _ => rfl
  have F_shifts := fun_of (st := top 24) G_shifts
  have b_shifts := F_shifts.binds (ps := ["yard", "log"]) fun _ _ _ _ _ _ us hl => match us, hl with | [_, _], _ => rfl
  have F_word_of := fun_of (st := top 25) G_word_of
  have b_word_of := F_word_of.binds (ps := ["total"]) fun _ _ _ _ _ _ us hl => match us, hl with | [_], _ => rfl
  have F_in_pans := fun_of (st := top 26) G_in_pans
  have b_in_pans := F_in_pans.binds (ps := ["world"]) fun _ _ _ _ _ _ us hl => match us, hl with | [_], _ => rfl
  have F__words := fun_of (st := top 27) G__words
  have b__words := F__words.binds (ps := ["yard", "world", "listed"]) fun _ _ _ _ _ _ us hl => match us, hl with | [_, _, _], _ => rfl
  have F__are_numbers := fun_of (st := top 28) G__are_numbers
  have b__are_numbers := F__are_numbers.binds (ps := ["thing", "names", "first", "last"]) fun _ _ _ _ _ _ us hl => match us, hl with | [_, _, _, _], _ => rfl
  have F_is_some_world := fun_of (st := top 29) G_is_some_world
  have b_is_some_world := F_is_some_world.binds (ps := ["yard", "thing"]) fun _ _ _ _ _ _ us hl => match us, hl with | [_, _], _ => rfl
  have F_need_some_world := fun_of (st := top 30) G_need_some_world
  have b_need_some_world := F_need_some_world.binds (ps := ["yard", "thing"]) fun _ _ _ _ _ _ us hl => match us, hl with | [_, _], _ => rfl
  have F_told_by := fun_of (st := top 31) G_told_by
  have b_told_by := F_told_by.binds (ps := ["yard", "world", "weighings"]) fun _ _ _ _ _ _ us hl => match us, hl with | [_, _, _], _ => rfl
  have F_is_world := fun_of (st := top 32) G_is_world
  have b_is_world := F_is_world.binds (ps := ["yard", "log", "thing"]) fun _ _ _ _ _ _ us hl => match us, hl with | [_, _, _], _ => rfl
  have F_is_name := fun_of (st := top 36) G_is_name
  have b_is_name := F_is_name.binds (ps := ["thing"]) fun _ _ _ _ _ _ us hl => match us, hl with | [_], _ => rfl
  have F__are_names := fun_of (st := top 37) G__are_names
  have b__are_names := F__are_names.binds (ps := ["things"]) fun _ _ _ _ _ _ us hl => match us, hl with | [_], _ => rfl
  have F__are_things := fun_of (st := top 38) G__are_things
  have b__are_things := F__are_things.binds (ps := ["things"]) fun _ _ _ _ _ _ us hl => match us, hl with | [_], _ => rfl
  have F__is_beam := fun_of (st := top 39) G__is_beam
  have b__is_beam := F__is_beam.binds (ps := ["pair"]) fun _ _ _ _ _ _ us hl => match us, hl with | [_], _ => rfl
  have F__are_beams := fun_of (st := top 40) G__are_beams
  have b__are_beams := F__are_beams.binds (ps := ["beams"]) fun _ _ _ _ _ _ us hl => match us, hl with | [_], _ => rfl
  have F__few_leans := fun_of (st := top 41) G__few_leans
  have b__few_leans := F__few_leans.binds (ps := ["beams", "lean"]) fun _ _ _ _ _ _ us hl => match us, hl with | [_, _], _ => rfl
  have F__law_begun := fun_of (st := top 44) G__law_begun
  have b__law_begun := F__law_begun.binds (ps := ["script"]) fun _ _ _ _ _ _ us hl => match us, hl with | [_], _ => rfl
  have F__law_next := fun_of (st := top 45) G__law_next
  have b__law_next := F__law_next.binds (ps := ["state", "size"]) fun _ _ _ _ _ _ us hl => match us, hl with | [_, _], _ => rfl
  have F__law_pick := fun_of (st := top 46) G__law_pick
  have b__law_pick := F__law_pick.binds (ps := ["state", "some"]) fun _ _ _ _ _ _ us hl => match us, hl with | [_, _], _ => rfl
  have F__law_names := fun_of (st := top 47) G__law_names
  have b__law_names := F__law_names.binds (ps := ["state", "many"]) fun _ _ _ _ _ _ us hl => match us, hl with | [_, _], _ => rfl
  have F__law_row := fun_of (st := top 48) G__law_row
  have b__law_row := F__law_row.binds (ps := ["state", "beams", "things", "heavy", "slant"]) fun _ _ _ _ _ _ us hl => match us, hl with | [_, _, _, _, _], _ => rfl
  have F__law_weighing := fun_of (st := top 49) G__law_weighing
  have b__law_weighing := F__law_weighing.binds (ps := ["state", "row"]) fun _ _ _ _ _ _ us hl => match us, hl with | [_, _], _ => rfl
  have F__law_world := fun_of (st := top 50) G__law_world
  have b__law_world := F__law_world.binds (ps := ["state", "row"]) fun _ _ _ _ _ _ us hl => match us, hl with | [_, _], _ => rfl
  have F__law_sign := fun_of (st := top 51) G__law_sign
  have b__law_sign := F__law_sign.binds (ps := ["total"]) fun _ _ _ _ _ _ us hl => match us, hl with | [_], _ => rfl
  have F__law_told := fun_of (st := top 52) G__law_told
  have b__law_told := F__law_told.binds (ps := ["row", "world", "some_tries"]) fun _ _ _ _ _ _ us hl => match us, hl with | [_, _, _], _ => rfl
  have F__law_bent := fun_of (st := top 53) G__law_bent
  have b__law_bent := F__law_bent.binds (ps := ["state", "row", "world"]) fun _ _ _ _ _ _ us hl => match us, hl with | [_, _, _], _ => rfl
  have F__law_word := fun_of (st := top 54) G__law_word
  have b__law_word := F__law_word.binds (ps := ["work"]) fun _ _ _ _ _ _ us hl => match us, hl with | [_], _ => rfl
  have F__law_spoilt := fun_of (st := top 55) G__law_spoilt
  have b__law_spoilt := F__law_spoilt.binds (ps := ["state", "rows"]) fun _ _ _ _ _ _ us hl => match us, hl with | [_, _], _ => rfl
  have F_law := fun_of (st := top 56) G_law
  have b_law := F_law.binds (ps := ["script"]) fun _ _ _ _ _ _ us hl => match us, hl with | [_], _ => rfl
  have F_Yard___init__ := fun_of (st := meth 42 0) G_Yard___init__
  have F_Yard_things := fun_of (st := meth 42 1) G_Yard_things
  have b_Yard_things := F_Yard_things.binds (ps := ["self"]) fun _ _ _ _ _ _ us hl => match us, hl with | [_], _ => rfl
  have F_Yard_beams := fun_of (st := meth 42 2) G_Yard_beams
  have b_Yard_beams := F_Yard_beams.binds (ps := ["self"]) fun _ _ _ _ _ _ us hl => match us, hl with | [_], _ => rfl
  have F_Yard_most := fun_of (st := meth 42 3) G_Yard_most
  have b_Yard_most := F_Yard_most.binds (ps := ["self"]) fun _ _ _ _ _ _ us hl => match us, hl with | [_], _ => rfl
  have F_Yard_lean := fun_of (st := meth 42 4) G_Yard_lean
  have b_Yard_lean := F_Yard_lean.binds (ps := ["self"]) fun _ _ _ _ _ _ us hl => match us, hl with | [_], _ => rfl
  have F_Yard_step := fun_of (st := meth 42 5) G_Yard_step
  have b_Yard_step := F_Yard_step.binds (ps := ["self", "beam"]) fun _ _ _ _ _ _ us hl => match us, hl with | [_, _], _ => rfl
  have e := hfa.symm.trans (glo_ok X G (c.d.fact 0))
  cases e
  refine ⟨d_law, fun s v => G_law.bindsA (ps := ["script"]) (fun _ _ _ _ _ _ us hl => match us, hl with | [_], _ => rfl) s [v] rfl, fun base _ _ TBx => ?_⟩
  have T0 : L2.K01.Txt K mg := ⟨(free_ok X G (c.d.fact 1)), (free_ok X G (c.d.fact 2)), (free_ok X G (c.d.fact 3)), (free_ok X G (c.d.fact 4)), (free_ok X G (c.d.fact 5)), (free_ok X G (c.d.fact 6)), (free_ok X G (c.d.fact 7)), (free_ok X G (c.d.fact 8))⟩
  obtain ⟨xNY, kNY, eNY, tNY⟩ := exc_ok (c.d.fact 9)
  have TB : L2.K01.TxtB K mg _ _ _ _ _ := ⟨T0, (glo_ok X G (c.d.fact 10)), (c.d.fact 11), (glo_ok X G (c.d.fact 12)), (c.d.fact 13), (glo_ok X G (c.d.fact 14)), (c.d.fact 15), (glo_ok X G (c.d.fact 16)), (c.d.fact 17), (glo_ok X G (c.d.fact 18)), (c.d.fact 19)⟩
  have TY : L2.K01.TxtY K mg _ _ _ _ (ga K "Yard") (ga K "NoYard") := ⟨T0, (glo_ok X G (c.d.fact 25)), (c.d.fact 26), (glo_ok X G (c.d.fact 27)), (c.d.fact 28), (glo_ok X G (c.d.fact 10)), (c.d.fact 11), (glo_ok X G (c.d.fact 29)), (c.d.fact 30), (glo_ok X G (c.d.fact 31)), kNY, xNY, eNY, tNY, (cls_ok (c.d.fact 20)), (noat_ok (c.d.fact 21)), (noat_ok (c.d.fact 22)), (noat_ok (c.d.fact 23)), (noat_ok (c.d.fact 24))⟩
  have Y1 := L2.K01.ok_num (P := PySem.Challenge.pw_wearybeams_k04_what_is_no_world) (w := w) (base := base) F_is_number T0
  have Y2 := L2.K01.ok_lst (P := PySem.Challenge.pw_wearybeams_k04_what_is_no_world) (w := w) (base := base) F_is_list T0
  have Y3 := L2.K01.ok_name (P := PySem.Challenge.pw_wearybeams_k04_what_is_no_world) (w := w) (base := base) F_is_name T0
  have Y4 := L2.K01.ok_names (P := PySem.Challenge.pw_wearybeams_k04_what_is_no_world) (w := w) (base := base) F__are_names TB Y3 b_is_name
  have Y5 := L2.K01.ok_things (P := PySem.Challenge.pw_wearybeams_k04_what_is_no_world) (w := w) (base := base) F__are_things TB Y2 b_is_list Y4 b__are_names
  have Y6 := L2.K01.ok_beam (P := PySem.Challenge.pw_wearybeams_k04_what_is_no_world) (w := w) (base := base) F__is_beam TB Y1 b_is_number
  have Y7 := L2.K01.ok_beams (P := PySem.Challenge.pw_wearybeams_k04_what_is_no_world) (w := w) (base := base) F__are_beams TB Y2 b_is_list Y4 b__are_names Y6 b__is_beam
  have Y8 := L2.K01.ok_few (P := PySem.Challenge.pw_wearybeams_k04_what_is_no_world) (w := w) (mg := mg) (base := base) F__few_leans
  have YI := L2.K01.ok_initL (P := PySem.Challenge.pw_wearybeams_k04_what_is_no_world) (w := w) (base := base) F_Yard___init__ TY Y5 b__are_things Y7 b__are_beams Y1 b_is_number Y8 b__few_leans
  obtain ⟨gI, bI⟩ := yard_bA G_Yard___init__
  have TL : TxtL K mg := ⟨(free_ok X G (c.d.fact 32)), (free_ok X G (c.d.fact 6))⟩
  have BG := ok_begun (P := PySem.Challenge.pw_wearybeams_k04_what_is_no_world) (w := w) (base := base) F__law_begun TL
  have hcL := code_of F_law
  have D__law_next : ∀ sa, DefQ PySem.Challenge.pw_wearybeams_k04_what_is_no_world w K mg base ⟨K, ga K, sa, TTs K⟩ "_law_next" 1 _ d__law_next ["state", "size"] p_law_next := fun sa => ⟨ok_law_next ⟨K, ga K, sa, TTs K⟩ rfl F__law_next TL, (glo_ok X G (c.d.fact 33)), (c.d.fact 34), b__law_next⟩
  have D_is_number : ∀ sa, DefQ PySem.Challenge.pw_wearybeams_k04_what_is_no_world w K mg base ⟨K, ga K, sa, TTs K⟩ "is_number" 1 _ d_is_number ["thing", "first", "last"] p_is_number := fun sa => ⟨ok_is_number (P := PySem.Challenge.pw_wearybeams_k04_what_is_no_world) (w := w) (base := base) ⟨K, ga K, sa, TTs K⟩ rfl F_is_number (n_int := (free_ok X G (c.d.fact 2))) (n_type := (free_ok X G (c.d.fact 1))), (glo_ok X G (c.d.fact 10)), (c.d.fact 11), b_is_number⟩
  have D_is_list : ∀ sa, DefQ PySem.Challenge.pw_wearybeams_k04_what_is_no_world w K mg base ⟨K, ga K, sa, TTs K⟩ "is_list" 1 _ d_is_list ["thing"] p_is_list := fun sa => ⟨ok_is_list (P := PySem.Challenge.pw_wearybeams_k04_what_is_no_world) (w := w) (base := base) ⟨K, ga K, sa, TTs K⟩ rfl F_is_list (n_list := (free_ok X G (c.d.fact 3))) (n_tuple := (free_ok X G (c.d.fact 4))) (n_type := (free_ok X G (c.d.fact 1))), (glo_ok X G (c.d.fact 12)), (c.d.fact 13), b_is_list⟩
  have D_is_tuple : ∀ sa, DefQ PySem.Challenge.pw_wearybeams_k04_what_is_no_world w K mg base ⟨K, ga K, sa, TTs K⟩ "is_tuple" 1 _ d_is_tuple ["thing", "many"] p_is_tuple := fun sa => ⟨ok_is_tuple (P := PySem.Challenge.pw_wearybeams_k04_what_is_no_world) (w := w) (base := base) ⟨K, ga K, sa, TTs K⟩ rfl F_is_tuple (n_len := (free_ok X G (c.d.fact 6))) (n_tuple := (free_ok X G (c.d.fact 4))) (n_type := (free_ok X G (c.d.fact 1))), (glo_ok X G (c.d.fact 35)), (c.d.fact 36), b_is_tuple⟩
  have M_things : ∀ sa, MethQ PySem.Challenge.pw_wearybeams_k04_what_is_no_world w K mg base ⟨K, ga K, sa, TTs K⟩ "Yard" "things" 1 _ d_Yard_things ["self"] p_Y_things := fun sa => ⟨ok_Y_things (P := PySem.Challenge.pw_wearybeams_k04_what_is_no_world) (w := w) (base := base) ⟨K, ga K, sa, TTs K⟩ rfl F_Yard_things (n_list := (free_ok X G (c.d.fact 3))) (c_Y := (cls_ok (c.d.fact 20))) (na_things := (noat_ok (c.d.fact 21))), (cls_ok (c.d.fact 20)), (meth_ok (c.d.fact 37)), b_Yard_things⟩
  have M_beams : ∀ sa, MethQ PySem.Challenge.pw_wearybeams_k04_what_is_no_world w K mg base ⟨K, ga K, sa, TTs K⟩ "Yard" "beams" 1 _ d_Yard_beams ["self"] p_Y_beams := fun sa => ⟨ok_Y_beams (P := PySem.Challenge.pw_wearybeams_k04_what_is_no_world) (w := w) (base := base) ⟨K, ga K, sa, TTs K⟩ rfl F_Yard_beams (n_list := (free_ok X G (c.d.fact 3))) (c_Y := (cls_ok (c.d.fact 20))) (na_beams := (noat_ok (c.d.fact 22))), (cls_ok (c.d.fact 20)), (meth_ok (c.d.fact 38)), b_Yard_beams⟩
  have M_most : ∀ sa, MethQ PySem.Challenge.pw_wearybeams_k04_what_is_no_world w K mg base ⟨K, ga K, sa, TTs K⟩ "Yard" "most" 1 _ d_Yard_most ["self"] p_Y_most := fun sa => ⟨ok_Y_most (P := PySem.Challenge.pw_wearybeams_k04_what_is_no_world) (w := w) (base := base) ⟨K, ga K, sa, TTs K⟩ rfl F_Yard_most (c_Y := (cls_ok (c.d.fact 20))) (na_most := (noat_ok (c.d.fact 23))), (cls_ok (c.d.fact 20)), (meth_ok (c.d.fact 39)), b_Yard_most⟩
  have M_lean : ∀ sa, MethQ PySem.Challenge.pw_wearybeams_k04_what_is_no_world w K mg base ⟨K, ga K, sa, TTs K⟩ "Yard" "lean" 1 _ d_Yard_lean ["self"] p_Y_lean := fun sa => ⟨ok_Y_lean (P := PySem.Challenge.pw_wearybeams_k04_what_is_no_world) (w := w) (base := base) ⟨K, ga K, sa, TTs K⟩ rfl F_Yard_lean (c_Y := (cls_ok (c.d.fact 20))) (na_lean := (noat_ok (c.d.fact 24))), (cls_ok (c.d.fact 20)), (meth_ok (c.d.fact 40)), b_Yard_lean⟩
  have D__are_unlike : ∀ sa, DefQ PySem.Challenge.pw_wearybeams_k04_what_is_no_world w K mg base ⟨K, ga K, sa, TTs K⟩ "_are_unlike" 1 _ d__are_unlike ["left", "right"] p_are_unlike := fun sa => ⟨ok_are_unlike (P := PySem.Challenge.pw_wearybeams_k04_what_is_no_world) (w := w) (base := base) ⟨K, ga K, sa, TTs K⟩ rfl F__are_unlike , (glo_ok X G (c.d.fact 41)), (c.d.fact 42), b__are_unlike⟩
  have D_word_of : ∀ sa, DefQ PySem.Challenge.pw_wearybeams_k04_what_is_no_world w K mg base ⟨K, ga K, sa, TTs K⟩ "word_of" 1 _ d_word_of ["total"] p_word_of := fun sa => ⟨ok_word_of (P := PySem.Challenge.pw_wearybeams_k04_what_is_no_world) (w := w) (base := base) ⟨K, ga K, sa, TTs K⟩ rfl F_word_of , (glo_ok X G (c.d.fact 43)), (c.d.fact 44), b_word_of⟩
  have D_in_pans : ∀ sa, DefQ PySem.Challenge.pw_wearybeams_k04_what_is_no_world w K mg base ⟨K, ga K, sa, TTs K⟩ "in_pans" 1 _ d_in_pans ["world"] (p_in_pans PySem.Challenge.pw_wearybeams_k04_what_is_no_world w) := fun sa => ⟨ok_in_pans (P := PySem.Challenge.pw_wearybeams_k04_what_is_no_world) (w := w) (base := base) ⟨K, ga K, sa, TTs K⟩ rfl F_in_pans , (glo_ok X G (c.d.fact 45)), (c.d.fact 46), b_in_pans⟩
  have D__law_sign : ∀ sa, DefQ PySem.Challenge.pw_wearybeams_k04_what_is_no_world w K mg base ⟨K, ga K, sa, TTs K⟩ "_law_sign" 1 _ d__law_sign ["total"] p_law_sign := fun sa => ⟨ok_law_sign (P := PySem.Challenge.pw_wearybeams_k04_what_is_no_world) (w := w) (base := base) ⟨K, ga K, sa, TTs K⟩ rfl F__law_sign (n_int := (free_ok X G (c.d.fact 2))), (glo_ok X G (c.d.fact 47)), (c.d.fact 48), b__law_sign⟩
  have D_is_numberX : ∀ sa, DefQ PySem.Challenge.pw_wearybeams_k04_what_is_no_world w K mg base ⟨K, ga K, sa, TTs K⟩ "is_number" 1 _ d_is_number ["thing", "first", "last"] p_is_numberX := fun sa => ⟨ok_is_numberX (P := PySem.Challenge.pw_wearybeams_k04_what_is_no_world) (w := w) (base := base) ⟨K, ga K, sa, TTs K⟩ rfl F_is_number (n_int := (free_ok X G (c.d.fact 2))) (n_type := (free_ok X G (c.d.fact 1))), (glo_ok X G (c.d.fact 10)), (c.d.fact 11), b_is_number⟩
  have D_is_listX : ∀ sa, DefQ PySem.Challenge.pw_wearybeams_k04_what_is_no_world w K mg base ⟨K, ga K, sa, TTs K⟩ "is_list" 1 _ d_is_list ["thing"] p_is_listX := fun sa => ⟨ok_is_listX (P := PySem.Challenge.pw_wearybeams_k04_what_is_no_world) (w := w) (base := base) ⟨K, ga K, sa, TTs K⟩ rfl F_is_list (n_list := (free_ok X G (c.d.fact 3))) (n_tuple := (free_ok X G (c.d.fact 4))) (n_type := (free_ok X G (c.d.fact 1))), (glo_ok X G (c.d.fact 12)), (c.d.fact 13), b_is_list⟩
  have D_is_tupleX : ∀ sa, DefQ PySem.Challenge.pw_wearybeams_k04_what_is_no_world w K mg base ⟨K, ga K, sa, TTs K⟩ "is_tuple" 1 _ d_is_tuple ["thing", "many"] p_is_tupleX := fun sa => ⟨ok_is_tupleX (P := PySem.Challenge.pw_wearybeams_k04_what_is_no_world) (w := w) (base := base) ⟨K, ga K, sa, TTs K⟩ rfl F_is_tuple (n_len := (free_ok X G (c.d.fact 6))) (n_tuple := (free_ok X G (c.d.fact 4))) (n_type := (free_ok X G (c.d.fact 1))), (glo_ok X G (c.d.fact 35)), (c.d.fact 36), b_is_tuple⟩
  have L__law_word : ∀ sa, DefL PySem.Challenge.pw_wearybeams_k04_what_is_no_world w K mg base ⟨K, ga K, sa, TTs K⟩ "_law_word" 1 p_law_word04 := fun sa => ⟨_, "work", _, _, _, F__law_word, (glo_ok X G (c.d.fact 73)), b__law_word, sc_law_word, rfl, by first | exact Or.inl rfl | exact Or.inr (Or.inl rfl) | exact Or.inr (Or.inr rfl), by decide, by decide, fun X9 e1 e2 e3 e4 e5 hg q cd => ok_law_word e1 e2 e3 e4 e5 hg ⟨K, ga K, sa, TTs K⟩ rfl (n_ValueError := (free_ok X G (c.d.fact 49))) (n_isinstance := (free_ok X G (c.d.fact 50))) (hEx := ⟨List.forall_mem_cons.mpr ⟨exd_ok (c.d.fact 51), List.forall_mem_cons.mpr ⟨exd_ok (c.d.fact 51), List.forall_mem_cons.mpr ⟨exd_ok (c.d.fact 51), List.forall_mem_cons.mpr ⟨exd_ok (c.d.fact 51), List.forall_mem_cons.mpr ⟨exd_ok (c.d.fact 52), List.forall_mem_cons.mpr ⟨exd_ok (c.d.fact 52), List.forall_mem_cons.mpr ⟨exd_ok (c.d.fact 52), List.forall_mem_cons.mpr ⟨exd_ok (c.d.fact 52), List.forall_mem_cons.mpr ⟨exd_ok (c.d.fact 51), List.forall_mem_cons.mpr ⟨exd_ok (c.d.fact 52), (fun p hp => (nomatch hp))⟩⟩⟩⟩⟩⟩⟩⟩⟩⟩, List.forall_mem_cons.mpr ⟨of_decide_eq_true (c.d.fact 53), List.forall_mem_cons.mpr ⟨of_decide_eq_true (c.d.fact 54), List.forall_mem_cons.mpr ⟨of_decide_eq_true (c.d.fact 55), List.forall_mem_cons.mpr ⟨of_decide_eq_true (c.d.fact 56), List.forall_mem_cons.mpr ⟨of_decide_eq_true (c.d.fact 57), List.forall_mem_cons.mpr ⟨of_decide_eq_true (c.d.fact 58), List.forall_mem_cons.mpr ⟨of_decide_eq_true (c.d.fact 59), List.forall_mem_cons.mpr ⟨of_decide_eq_true (c.d.fact 60), List.forall_mem_cons.mpr ⟨of_decide_eq_true (c.d.fact 61), List.forall_mem_cons.mpr ⟨of_decide_eq_true (c.d.fact 62), (fun p hp => (nomatch hp))⟩⟩⟩⟩⟩⟩⟩⟩⟩⟩, List.forall_mem_cons.mpr ⟨exd_ok (c.d.fact 52), (fun p hp => (nomatch hp))⟩, List.forall_mem_cons.mpr ⟨eqO_ok (c.d.fact 63), (fun p hp => (nomatch hp))⟩⟩) (hB_ValueError := ⟨List.forall_mem_cons.mpr ⟨exd_ok (c.d.fact 51), List.forall_mem_cons.mpr ⟨exd_ok (c.d.fact 52), (fun p hp => (nomatch hp))⟩⟩, List.forall_mem_cons.mpr ⟨of_decide_eq_true (c.d.fact 64), List.forall_mem_cons.mpr ⟨of_decide_eq_true (c.d.fact 65), (fun p hp => (nomatch hp))⟩⟩⟩) (ax_BeamError := (glo_ok X G (c.d.fact 66))) (ax_NoBeam := (glo_ok X G (c.d.fact 67))) (ax_NoPan := (glo_ok X G (c.d.fact 68))) (ax_NoYard := (glo_ok X G (c.d.fact 31))) (ax_NoRow := (glo_ok X G (c.d.fact 69))) (ax_NoAsk := (glo_ok X G (c.d.fact 70))) (xs_BeamError := List.forall_mem_cons.mpr ⟨exm_ok (c.d.fact 72), List.forall_mem_cons.mpr ⟨exm_ok (c.d.fact 71), (fun p hp => (nomatch hp))⟩⟩)⟩
  have M_step : ∀ sa, MethQ PySem.Challenge.pw_wearybeams_k04_what_is_no_world w K mg base ⟨K, ga K, sa, TTs K⟩ "Yard" "step" 2 _ d_Yard_step ["self", "beam"] p_Y_step := fun sa => ⟨ok_Y_step (P := PySem.Challenge.pw_wearybeams_k04_what_is_no_world) (w := w) (base := base) ⟨K, ga K, sa, TTs K⟩ rfl F_Yard_step (c_Y := (cls_ok (c.d.fact 20))) (na_beams := (noat_ok (c.d.fact 22))), (cls_ok (c.d.fact 20)), (meth_ok (c.d.fact 74)), b_Yard_step⟩
  have D_pans_of : ∀ sa, DefQ PySem.Challenge.pw_wearybeams_k04_what_is_no_world w K mg base ⟨K, ga K, sa, TTs K⟩ "pans_of" 2 _ d_pans_of ["yard"] p_pans_of := fun sa => ⟨ok_pans_of (P := PySem.Challenge.pw_wearybeams_k04_what_is_no_world) (w := w) (base := base) ⟨K, ga K, sa, TTs K⟩ rfl F_pans_of (M_things := (M_things sa)), (glo_ok X G (c.d.fact 75)), (c.d.fact 76), b_pans_of⟩
  have D_names_of : ∀ sa, DefQ PySem.Challenge.pw_wearybeams_k04_what_is_no_world w K mg base ⟨K, ga K, sa, TTs K⟩ "names_of" 2 _ d_names_of ["yard"] p_names_of := fun sa => ⟨ok_names_of (P := PySem.Challenge.pw_wearybeams_k04_what_is_no_world) (w := w) (base := base) ⟨K, ga K, sa, TTs K⟩ rfl F_names_of (M_beams := (M_beams sa)), (glo_ok X G (c.d.fact 77)), (c.d.fact 78), b_names_of⟩
  have D__are_numbers : ∀ sa, DefQ PySem.Challenge.pw_wearybeams_k04_what_is_no_world w K mg base ⟨K, ga K, sa, TTs K⟩ "_are_numbers" 2 _ d__are_numbers ["thing", "names", "first", "last"] p_are_numbers := fun sa => ⟨ok_are_numbers (P := PySem.Challenge.pw_wearybeams_k04_what_is_no_world) (w := w) (base := base) ⟨K, ga K, sa, TTs K⟩ rfl F__are_numbers (n_all := (free_ok X G (c.d.fact 7))) (n_dict := (free_ok X G (c.d.fact 79))) (n_len := (free_ok X G (c.d.fact 6))) (n_type := (free_ok X G (c.d.fact 1))) (D_is_number := (D_is_number sa)), (glo_ok X G (c.d.fact 80)), (c.d.fact 81), b__are_numbers⟩
  have D__law_pick : ∀ sa, DefQ PySem.Challenge.pw_wearybeams_k04_what_is_no_world w K mg base ⟨K, ga K, sa, TTs K⟩ "_law_pick" 2 _ d__law_pick ["state", "some"] p_law_pick := fun sa => ⟨ok_law_pick (P := PySem.Challenge.pw_wearybeams_k04_what_is_no_world) (w := w) (base := base) ⟨K, ga K, sa, TTs K⟩ rfl F__law_pick (n_len := (free_ok X G (c.d.fact 6))) (D__law_next := (D__law_next sa)), (glo_ok X G (c.d.fact 82)), (c.d.fact 83), b__law_pick⟩
  have D__law_world : ∀ sa, DefQ PySem.Challenge.pw_wearybeams_k04_what_is_no_world w K mg base ⟨K, ga K, sa, TTs K⟩ "_law_world" 2 _ d__law_world ["state", "row"] p_law_world := fun sa => ⟨ok_law_world (P := PySem.Challenge.pw_wearybeams_k04_what_is_no_world) (w := w) (base := base) ⟨K, ga K, sa, TTs K⟩ rfl F__law_world (n_dict := (free_ok X G (c.d.fact 79))) (D__law_next := (D__law_next sa)), (glo_ok X G (c.d.fact 84)), (c.d.fact 85), b__law_world⟩
  have D__law_told : ∀ sa, DefQ PySem.Challenge.pw_wearybeams_k04_what_is_no_world w K mg base ⟨K, ga K, sa, TTs K⟩ "_law_told" 2 _ d__law_told ["row", "world", "some_tries"] p_law_told := fun sa => ⟨ok_law_told (P := PySem.Challenge.pw_wearybeams_k04_what_is_no_world) (w := w) (base := base) ⟨K, ga K, sa, TTs K⟩ rfl F__law_told (n_dict := (free_ok X G (c.d.fact 79))) (D__law_sign := (D__law_sign sa)), (glo_ok X G (c.d.fact 86)), (c.d.fact 87), b__law_told⟩
  have D__are_numbersX : ∀ sa, DefQ PySem.Challenge.pw_wearybeams_k04_what_is_no_world w K mg base ⟨K, ga K, sa, TTs K⟩ "_are_numbers" 2 _ d__are_numbers ["thing", "names", "first", "last"] p_are_numbersX := fun sa => ⟨ok_are_numbersX (P := PySem.Challenge.pw_wearybeams_k04_what_is_no_world) (w := w) (base := base) ⟨K, ga K, sa, TTs K⟩ rfl F__are_numbers (n_all := (free_ok X G (c.d.fact 7))) (n_dict := (free_ok X G (c.d.fact 79))) (n_len := (free_ok X G (c.d.fact 6))) (n_type := (free_ok X G (c.d.fact 1))) (D_is_number := (D_is_numberX sa)), (glo_ok X G (c.d.fact 80)), (c.d.fact 81), b__are_numbers⟩
  have D_is_weighing : ∀ sa, DefQ PySem.Challenge.pw_wearybeams_k04_what_is_no_world w K mg base ⟨K, ga K, sa, TTs K⟩ "is_weighing" 3 _ d_is_weighing ["yard", "thing"] p_is_weighing := fun sa => ⟨ok_is_weighing (P := PySem.Challenge.pw_wearybeams_k04_what_is_no_world) (w := w) (base := base) ⟨K, ga K, sa, TTs K⟩ rfl F_is_weighing (D_is_tuple := (D_is_tuple sa)) (D_pans_of := (D_pans_of sa)) (D__are_unlike := (D__are_unlike sa)) (D_names_of := (D_names_of sa)), (glo_ok X G (c.d.fact 88)), (c.d.fact 89), b_is_weighing⟩
  have D_turn : ∀ sa, DefQ PySem.Challenge.pw_wearybeams_k04_what_is_no_world w K mg base ⟨K, ga K, sa, TTs K⟩ "turn" 3 _ d_turn ["yard", "beam", "word"] p_turn := fun sa => ⟨ok_turn (P := PySem.Challenge.pw_wearybeams_k04_what_is_no_world) (w := w) (base := base) ⟨K, ga K, sa, TTs K⟩ rfl F_turn (m_TURNS := (glo_ok X G (c.d.fact 90))) (k_TURNS := (turns_of (c.tab 0 (t := (fun K => ga K "TURNS", (["left", "even", "right"] : List Str))) rfl) (c.d.fact 91))) (M_step := (M_step sa)), (glo_ok X G (c.d.fact 92)), (c.d.fact 93), b_turn⟩
  have D_is_some_world : ∀ sa, DefQ PySem.Challenge.pw_wearybeams_k04_what_is_no_world w K mg base ⟨K, ga K, sa, TTs K⟩ "is_some_world" 3 _ d_is_some_world ["yard", "thing"] p_is_some_world := fun sa => ⟨ok_is_some_world (P := PySem.Challenge.pw_wearybeams_k04_what_is_no_world) (w := w) (base := base) ⟨K, ga K, sa, TTs K⟩ rfl F_is_some_world (D_is_tuple := (D_is_tuple sa)) (D__are_numbers := (D__are_numbers sa)) (D_names_of := (D_names_of sa)) (M_lean := (M_lean sa)) (M_most := (M_most sa)) (M_things := (M_things sa)), (glo_ok X G (c.d.fact 94)), (c.d.fact 95), b_is_some_world⟩
  have D__law_names : ∀ sa, DefQ PySem.Challenge.pw_wearybeams_k04_what_is_no_world w K mg base ⟨K, ga K, sa, TTs K⟩ "_law_names" 3 _ d__law_names ["state", "many"] p_law_names := fun sa => ⟨ok_law_names (P := PySem.Challenge.pw_wearybeams_k04_what_is_no_world) (w := w) (base := base) ⟨K, ga K, sa, TTs K⟩ rfl F__law_names (n_len := (free_ok X G (c.d.fact 6))) (n_range := (free_ok X G (c.d.fact 96))) (D__law_pick := (D__law_pick sa)) (D__law_next := (D__law_next sa)), (glo_ok X G (c.d.fact 97)), (c.d.fact 98), b__law_names⟩
  have D__law_weighing : ∀ sa, DefQ PySem.Challenge.pw_wearybeams_k04_what_is_no_world w K mg base ⟨K, ga K, sa, TTs K⟩ "_law_weighing" 3 _ d__law_weighing ["state", "row"] p_law_weighing := fun sa => ⟨ok_law_weighing (P := PySem.Challenge.pw_wearybeams_k04_what_is_no_world) (w := w) (base := base) ⟨K, ga K, sa, TTs K⟩ rfl F__law_weighing (D__law_pick := (D__law_pick sa)), (glo_ok X G (c.d.fact 99)), (c.d.fact 100), b__law_weighing⟩
  have D_is_some_worldX : ∀ sa, DefQ PySem.Challenge.pw_wearybeams_k04_what_is_no_world w K mg base ⟨K, ga K, sa, TTs K⟩ "is_some_world" 3 _ d_is_some_world ["yard", "thing"] p_is_some_worldX := fun sa => ⟨ok_is_some_worldX (P := PySem.Challenge.pw_wearybeams_k04_what_is_no_world) (w := w) (base := base) ⟨K, ga K, sa, TTs K⟩ rfl F_is_some_world (D_is_tuple := (D_is_tupleX sa)) (D__are_numbers := (D__are_numbersX sa)) (D_names_of := (D_names_of sa)) (M_lean := (M_lean sa)) (M_most := (M_most sa)) (M_things := (M_things sa)), (glo_ok X G (c.d.fact 94)), (c.d.fact 95), b_is_some_world⟩
  have D_is_weighingX : ∀ sa, DefQ PySem.Challenge.pw_wearybeams_k04_what_is_no_world w K mg base ⟨K, ga K, sa, TTs K⟩ "is_weighing" 3 _ d_is_weighing ["yard", "thing"] p_is_weighingX := fun sa => ⟨ok_is_weighingX (P := PySem.Challenge.pw_wearybeams_k04_what_is_no_world) (w := w) (base := base) ⟨K, ga K, sa, TTs K⟩ rfl F_is_weighing (D_is_tuple := (D_is_tupleX sa)) (D_pans_of := (D_pans_of sa)) (D__are_unlike := (D__are_unlike sa)) (D_names_of := (D_names_of sa)), (glo_ok X G (c.d.fact 88)), (c.d.fact 89), b_is_weighing⟩
  have D__law_bent : ∀ sa, DefQ PySem.Challenge.pw_wearybeams_k04_what_is_no_world w K mg base ⟨K, ga K, sa, TTs K⟩ "_law_bent" 3 _ d__law_bent ["state", "row", "world"] p_law_bent04 := fun sa => ⟨ok_law_bent (P := PySem.Challenge.pw_wearybeams_k04_what_is_no_world) (w := w) (base := base) ⟨K, ga K, sa, TTs K⟩ rfl F__law_bent (n_dict := (free_ok X G (c.d.fact 79))) (n_list := (free_ok X G (c.d.fact 3))) (D__law_next := (D__law_next sa)) (D__law_pick := (D__law_pick sa)), (glo_ok X G (c.d.fact 101)), (c.d.fact 102), b__law_bent⟩
  have D__law_spoilt : ∀ sa, DefQ PySem.Challenge.pw_wearybeams_k04_what_is_no_world w K mg base ⟨K, ga K, sa, TTs K⟩ "_law_spoilt" 3 _ d__law_spoilt ["state", "rows"] p_law_spoilt04 := fun sa => ⟨ok_law_spoilt (P := PySem.Challenge.pw_wearybeams_k04_what_is_no_world) (w := w) (base := base) ⟨K, ga K, sa, TTs K⟩ rfl F__law_spoilt (n_len := (free_ok X G (c.d.fact 6))) (D__law_pick := (D__law_pick sa)) (D__law_next := (D__law_next sa)), (glo_ok X G (c.d.fact 103)), (c.d.fact 104), b__law_spoilt⟩
  have D_is_row : ∀ sa, DefQ PySem.Challenge.pw_wearybeams_k04_what_is_no_world w K mg base ⟨K, ga K, sa, TTs K⟩ "is_row" 4 _ d_is_row ["yard", "thing"] p_is_row := fun sa => ⟨ok_is_row (P := PySem.Challenge.pw_wearybeams_k04_what_is_no_world) (w := w) (base := base) ⟨K, ga K, sa, TTs K⟩ rfl F_is_row (m_WORDS := (glo_ok X G (c.d.fact 105))) (g_WORDS := (tupS_dp (c.d.fact 106))) (D_is_weighing := (D_is_weighing sa)) (D_is_tuple := (D_is_tuple sa)), (glo_ok X G (c.d.fact 107)), (c.d.fact 108), b_is_row⟩
  have D__words : ∀ sa, DefQ PySem.Challenge.pw_wearybeams_k04_what_is_no_world w K mg base ⟨K, ga K, sa, TTs K⟩ "_words" 4 _ d__words ["yard", "world", "listed"] p_words := fun sa => ⟨ok_words (P := PySem.Challenge.pw_wearybeams_k04_what_is_no_world) (w := w) (base := base) ⟨K, ga K, sa, TTs K⟩ rfl F__words (n_dict := (free_ok X G (c.d.fact 79))) (D_in_pans := (D_in_pans sa)) (D_word_of := (D_word_of sa)) (D_turn := (D_turn sa)), (glo_ok X G (c.d.fact 109)), (c.d.fact 110), b__words⟩
  have D_need_some_world : ∀ sa, DefQ PySem.Challenge.pw_wearybeams_k04_what_is_no_world w K mg base ⟨K, ga K, sa, TTs K⟩ "need_some_world" 4 _ d_need_some_world ["yard", "thing"] p_need_some_world := fun sa => ⟨ok_need_some_world (P := PySem.Challenge.pw_wearybeams_k04_what_is_no_world) (w := w) (base := base) ⟨K, ga K, sa, TTs K⟩ rfl F_need_some_world (D_is_some_world := (D_is_some_world sa)), (glo_ok X G (c.d.fact 111)), (c.d.fact 112), b_need_some_world⟩
  have D__law_row : ∀ sa, DefQ PySem.Challenge.pw_wearybeams_k04_what_is_no_world w K mg base ⟨K, ga K, sa, TTs K⟩ "_law_row" 4 _ d__law_row ["state", "beams", "things", "heavy", "slant"] p_law_row := fun sa => ⟨ok_law_row (P := PySem.Challenge.pw_wearybeams_k04_what_is_no_world) (w := w) (base := base) ⟨K, ga K, sa, TTs K⟩ rfl F__law_row (n_len := (free_ok X G (c.d.fact 6))) (n_list := (free_ok X G (c.d.fact 3))) (n_min := (free_ok X G (c.d.fact 113))) (n_range := (free_ok X G (c.d.fact 96))) (n_zip := (free_ok X G (c.d.fact 114))) (D__law_names := (D__law_names sa)) (D__law_next := (D__law_next sa)) (D__law_pick := (D__law_pick sa)), (glo_ok X G (c.d.fact 115)), (c.d.fact 116), b__law_row⟩
  have D_need_some_worldX : ∀ sa, DefQ PySem.Challenge.pw_wearybeams_k04_what_is_no_world w K mg base ⟨K, ga K, sa, TTs K⟩ "need_some_world" 4 _ d_need_some_world ["yard", "thing"] p_need_some_worldX := fun sa => ⟨ok_need_some_worldX (P := PySem.Challenge.pw_wearybeams_k04_what_is_no_world) (w := w) (base := base) ⟨K, ga K, sa, TTs K⟩ rfl F_need_some_world (D_is_some_world := (D_is_some_worldX sa)) (x_NoAsk := (exc_ok (c.d.fact 117)).1) (e_NoAsk := ⟨(glo_ok X G (c.d.fact 70)), (exc_ok (c.d.fact 117)).2.1, (exc_ok (c.d.fact 117)).2.2.1, (exc_ok (c.d.fact 117)).2.2.2⟩), (glo_ok X G (c.d.fact 111)), (c.d.fact 112), b_need_some_world⟩
  have D_is_rowX : ∀ sa, DefQ PySem.Challenge.pw_wearybeams_k04_what_is_no_world w K mg base ⟨K, ga K, sa, TTs K⟩ "is_row" 4 _ d_is_row ["yard", "thing"] p_is_rowX := fun sa => ⟨ok_is_rowX (P := PySem.Challenge.pw_wearybeams_k04_what_is_no_world) (w := w) (base := base) ⟨K, ga K, sa, TTs K⟩ rfl F_is_row (m_WORDS := (glo_ok X G (c.d.fact 105))) (g_WORDS := (tupS_dp (c.d.fact 106))) (D_is_weighing := (D_is_weighingX sa)) (D_is_tuple := (D_is_tupleX sa)), (glo_ok X G (c.d.fact 107)), (c.d.fact 108), b_is_row⟩
  have D__need_each : ∀ sa, DefQ PySem.Challenge.pw_wearybeams_k04_what_is_no_world w K mg base ⟨K, ga K, sa, TTs K⟩ "_need_each" 5 _ d__need_each ["yard", "things", "is_one"] (p_need_each (ga K "is_row") (ga K "is_weighing")) := fun sa => ⟨ok_need_each (P := PySem.Challenge.pw_wearybeams_k04_what_is_no_world) (w := w) (base := base) ⟨K, ga K, sa, TTs K⟩ rfl F__need_each (hne := (of_decide_eq_true (c.d.fact 118))) (A_is_one := (is_one_of (fun z => D_is_row sa) (fun z => D_is_weighing sa))) (n_enumerate := (free_ok X G (c.d.fact 119))) (D_is_list := (D_is_list sa)), (glo_ok X G (c.d.fact 120)), (c.d.fact 121), b__need_each⟩
  have S_NoRow := sup_ok (P := PySem.Challenge.pw_wearybeams_k04_what_is_no_world) (mg := mg) (x := "NoRow") (f := "at") (c.d.fact 122) (c.d.clo 0 (d := cS_NoRow) rfl) (free_ok X G (c.d.fact 123)) rfl (fun _ _ _ _ _ _ _ _ _ => rfl) rfl (by decide +kernel) (by decide +kernel) (by decide +kernel) (by decide +kernel) (by decide +kernel) rfl rfl rfl (by decide +kernel) (by decide +kernel) (by decide +kernel)
  have D__need_eachX : ∀ sa, DefQ PySem.Challenge.pw_wearybeams_k04_what_is_no_world w K mg base ⟨K, ga K, sa, TTs K⟩ "_need_each" 5 _ d__need_each ["yard", "things", "is_one"] (p_need_eachX (ga K "is_row") (ga K "is_weighing")) := fun sa => ⟨ok_need_eachX (P := PySem.Challenge.pw_wearybeams_k04_what_is_no_world) (w := w) (base := base) ⟨K, ga K, sa, TTs K⟩ rfl F__need_each (hne := (of_decide_eq_true (c.d.fact 118))) (A_is_one := (is_one_ofX (fun z => D_is_rowX sa) (fun z => D_is_weighingX sa))) (n_enumerate := (free_ok X G (c.d.fact 119))) (D_is_list := (D_is_listX sa)) (r_NoRow := ⟨_, _, _, _, _, _, _, (glo_ok X G (c.d.fact 69)), S_NoRow, fun r h ru => argI (by decide) (by decide) r h ru, PySem.WbX.form_fs⟩), (glo_ok X G (c.d.fact 120)), (c.d.fact 121), b__need_each⟩
  have D_need_log : ∀ sa, DefQ PySem.Challenge.pw_wearybeams_k04_what_is_no_world w K mg base ⟨K, ga K, sa, TTs K⟩ "need_log" 6 _ d_need_log ["yard", "log"] p_need_log := fun sa => ⟨ok_need_log (P := PySem.Challenge.pw_wearybeams_k04_what_is_no_world) (w := w) (base := base) ⟨K, ga K, sa, TTs K⟩ rfl F_need_log (a_is_row := (glo_ok X G (c.d.fact 107))) (D__need_each := (D__need_each sa)), (glo_ok X G (c.d.fact 124)), (c.d.fact 125), b_need_log⟩
  have D_need_weighings : ∀ sa, DefQ PySem.Challenge.pw_wearybeams_k04_what_is_no_world w K mg base ⟨K, ga K, sa, TTs K⟩ "need_weighings" 6 _ d_need_weighings ["yard", "things"] p_need_weighings := fun sa => ⟨ok_need_weighings (P := PySem.Challenge.pw_wearybeams_k04_what_is_no_world) (w := w) (base := base) ⟨K, ga K, sa, TTs K⟩ rfl F_need_weighings (a_is_weighing := (glo_ok X G (c.d.fact 88))) (D__need_each := (D__need_each sa)), (glo_ok X G (c.d.fact 126)), (c.d.fact 127), b_need_weighings⟩
  have D_need_logX : ∀ sa, DefQ PySem.Challenge.pw_wearybeams_k04_what_is_no_world w K mg base ⟨K, ga K, sa, TTs K⟩ "need_log" 6 _ d_need_log ["yard", "log"] p_need_logX := fun sa => ⟨ok_need_logX (P := PySem.Challenge.pw_wearybeams_k04_what_is_no_world) (w := w) (base := base) ⟨K, ga K, sa, TTs K⟩ rfl F_need_log (a_is_row := (glo_ok X G (c.d.fact 107))) (D__need_each := (D__need_eachX sa)), (glo_ok X G (c.d.fact 124)), (c.d.fact 125), b_need_log⟩
  have D_need_weighingsX : ∀ sa, DefQ PySem.Challenge.pw_wearybeams_k04_what_is_no_world w K mg base ⟨K, ga K, sa, TTs K⟩ "need_weighings" 6 _ d_need_weighings ["yard", "things"] p_need_weighingsX := fun sa => ⟨ok_need_weighingsX (P := PySem.Challenge.pw_wearybeams_k04_what_is_no_world) (w := w) (base := base) ⟨K, ga K, sa, TTs K⟩ rfl F_need_weighings (a_is_weighing := (glo_ok X G (c.d.fact 88))) (D__need_each := (D__need_eachX sa)), (glo_ok X G (c.d.fact 126)), (c.d.fact 127), b_need_weighings⟩
  have D_shifts : ∀ sa, DefQ PySem.Challenge.pw_wearybeams_k04_what_is_no_world w K mg base ⟨K, ga K, sa, TTs K⟩ "shifts" 7 _ d_shifts ["yard", "log"] p_shifts := fun sa => ⟨ok_shifts (P := PySem.Challenge.pw_wearybeams_k04_what_is_no_world) (w := w) (base := base) ⟨K, ga K, sa, TTs K⟩ rfl F_shifts (D_need_log := (D_need_log sa)) (D_names_of := (D_names_of sa)) (D_turn := (D_turn sa)), (glo_ok X G (c.d.fact 128)), (c.d.fact 129), b_shifts⟩
  have D_told_by : ∀ sa, DefQ PySem.Challenge.pw_wearybeams_k04_what_is_no_world w K mg base ⟨K, ga K, sa, TTs K⟩ "told_by" 7 _ d_told_by ["yard", "world", "weighings"] p_told_by := fun sa => ⟨ok_told_by (P := PySem.Challenge.pw_wearybeams_k04_what_is_no_world) (w := w) (base := base) ⟨K, ga K, sa, TTs K⟩ rfl F_told_by (D_need_some_world := (D_need_some_world sa)) (D_need_weighings := (D_need_weighings sa)) (D__words := (D__words sa)), (glo_ok X G (c.d.fact 130)), (c.d.fact 131), b_told_by⟩
  have D_is_world : ∀ sa, DefQ PySem.Challenge.pw_wearybeams_k04_what_is_no_world w K mg base ⟨K, ga K, sa, TTs K⟩ "is_world" 7 _ d_is_world ["yard", "log", "thing"] p_is_world := fun sa => ⟨ok_is_world (P := PySem.Challenge.pw_wearybeams_k04_what_is_no_world) (w := w) (base := base) ⟨K, ga K, sa, TTs K⟩ rfl F_is_world (n_list := (free_ok X G (c.d.fact 3))) (D_need_log := (D_need_log sa)) (D__words := (D__words sa)) (D_is_some_world := (D_is_some_world sa)), (glo_ok X G (c.d.fact 132)), (c.d.fact 133), b_is_world⟩
  have D_told_byX : ∀ sa, DefQ PySem.Challenge.pw_wearybeams_k04_what_is_no_world w K mg base ⟨K, ga K, sa, TTs K⟩ "told_by" 7 _ d_told_by ["yard", "world", "weighings"] p_told_byX := fun sa => ⟨ok_told_byX (P := PySem.Challenge.pw_wearybeams_k04_what_is_no_world) (w := w) (base := base) ⟨K, ga K, sa, TTs K⟩ rfl F_told_by (D_need_some_world := (D_need_some_worldX sa)) (D_need_weighings := (D_need_weighingsX sa)) (D__words := (D__words sa)), (glo_ok X G (c.d.fact 130)), (c.d.fact 131), b_told_by⟩
  have D_shiftsX : ∀ sa, DefQ PySem.Challenge.pw_wearybeams_k04_what_is_no_world w K mg base ⟨K, ga K, sa, TTs K⟩ "shifts" 7 _ d_shifts ["yard", "log"] p_shiftsX := fun sa => ⟨ok_shiftsX (P := PySem.Challenge.pw_wearybeams_k04_what_is_no_world) (w := w) (base := base) ⟨K, ga K, sa, TTs K⟩ rfl F_shifts (D_need_log := (D_need_logX sa)) (D_names_of := (D_names_of sa)) (D_turn := (D_turn sa)), (glo_ok X G (c.d.fact 128)), (c.d.fact 129), b_shifts⟩
  have D_is_worldX : ∀ sa, DefQ PySem.Challenge.pw_wearybeams_k04_what_is_no_world w K mg base ⟨K, ga K, sa, TTs K⟩ "is_world" 7 _ d_is_world ["yard", "log", "thing"] p_is_worldX := fun sa => ⟨ok_is_worldX (P := PySem.Challenge.pw_wearybeams_k04_what_is_no_world) (w := w) (base := base) ⟨K, ga K, sa, TTs K⟩ rfl F_is_world (n_list := (free_ok X G (c.d.fact 3))) (D_need_log := (D_need_logX sa)) (D__words := (D__words sa)) (D_is_some_world := (D_is_some_worldX sa)), (glo_ok X G (c.d.fact 132)), (c.d.fact 133), b_is_world⟩
  exact wg0 <| ok_law (P := PySem.Challenge.pw_wearybeams_k04_what_is_no_world) (w := w) (base := base) (ga K) F_law BG (glo_ok X G (c.d.fact 138)) (c.d.fact 139) b__law_begun (n_range := (free_ok X G (c.d.fact 96))) (n_repr := (free_ok X G (c.d.fact 134))) (D__law_row := D__law_row) (D__law_world := D__law_world) (D__law_weighing := D__law_weighing) (D__law_pick := D__law_pick) (D__law_next := D__law_next) (D__law_told := D__law_told) (D__law_bent := D__law_bent) (D__law_spoilt := D__law_spoilt) (D_told_by := D_told_by) (D_is_world := D_is_world) (D_told_byX := D_told_byX) (D_is_worldX := D_is_worldX) (D_shiftsX := D_shiftsX) (L__law_word := L__law_word) (TBL := (TBx _ (List.mem_singleton.mpr rfl))) (hcL := hcL) (hTL := (List.mem_singleton.mpr rfl)) (huL := (fun q hq _ => by rw [List.mem_singleton.mp hq])) (hnL := (fun _ _ => rfl)) (hsys := (c.d.fact 135)) (mk_Y := (mkr_ok (c.d.fact 136))) (ok_Y := YI) (at_Y := (glo_ok X G (c.d.fact 137))) (bn_Y := bI)
end L2.Q.Lw
open PySem PySem.W PySem.Calls PyProof.Rows
set_option maxRecDepth 100000 in
set_option maxHeartbeats 0 in
theorem PySem.Challenge.cw_wearybeams_k04_what_is_no_world_holds : PySem.Challenge.rw_wearybeams_k04_what_is_no_world.Holds := by
  w_on; o_law
  refine HandSHeadRun.head_any (r := OpenLaw.row PySem.Challenge.rw_wearybeams_k04_what_is_no_world) (q := view (OpenLaw.row PySem.Challenge.rw_wearybeams_k04_what_is_no_world).prog [56]) (H := L2.Q.Lw.hk) (ob := L2.Q.Lw.ob) (M := 9000) (loose := L2.Q.Lw.loose) (d := HandSHeadRun.topDef (OpenLaw.row PySem.Challenge.rw_wearybeams_k04_what_is_no_world).prog 56) (kwd := []) L2.Q.Lw.ob_eq
    (by kernel_rfl) (fun s => by kernel_rfl) L2.Q.Lw.run (by kernel_rfl) (by kernel_rfl) (by kernel_rfl) (by rfl) (by first | assumption | decide +kernel) (by decide +kernel) ⟨rfl, rfl, rfl, rfl, rfl, by decide +kernel⟩ ?hw ?hc
  case hw => w_witness2
  case hc =>
    refine L2.Wb.walk_wgT (l := PySem.Challenge.rw_wearybeams_k04_what_is_no_world) (n := 63) (k := 10) (x := "script") (CX := L2.CX0) rfl (by decide) (by kernel_rfl) ⟨rfl, by decide, by decide⟩ ?F (fun _ _ _ _ z => z)
    intro w mg fa h Y G hmg0
    obtain ⟨K, KX, c⟩ := Y
    have hmg : mg ("law" : PySem.Str) = some (.ref fa) := by
      have e : (HandSHeadRun.topDef (OpenLaw.row PySem.Challenge.rw_wearybeams_k04_what_is_no_world).prog 56).name = ("law" : PySem.Str) := by kernel_rfl
      rw [← e]
      exact hmg0
    obtain ⟨fd, hb, hF⟩ := L2.Q.Lw.law_ok (P := (PySem.Challenge.rw_wearybeams_k04_what_is_no_world).prog) (w := w) rfl KX G hmg c.1
    exact ⟨K, fd, L2.Q.spLawT K (L2.Q.Lw.TTs K), [He.cT K ("law", none)], KX, fun p hp => by rw [List.mem_singleton.mp hp]; exact c.2 _ (List.mem_singleton.mpr rfl), hb, fun H a ns hl hA hS => ⟨a, ns, rfl, hS, hl, fun p hp => by rw [List.mem_singleton.mp hp]; exact NdefX.TabN.nil (hA _ List.mem_cons_self), fun _ => rfl⟩, hF⟩
